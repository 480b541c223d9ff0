import Derived.Test.YthcppbmkacbbiabGreatVd
import Derived.Test.YthcppbmkacbbiabGreatChecked
import Derived.WalkKit
import Derived.WalkSpells
import Derived.WalkLawsBesides
import Derived.Maps.OwnSet
import Derived.DeepKeys4
import Derived.ProofKit
set_option linter.unusedSimpArgs false
set_option maxHeartbeats 400000
set_option maxRecDepth 100000
namespace Go.Proofs.YthcppbmkacbbiabGreat
open Go.Proofs.Tryz
namespace au
abbrev Key:Type:=Int×Nat×Nat
abbrev RT:Type:=Except (Int×Nat) (Nat×Ai×Nat)
abbrev Lp:Type:=Except (Int×Nat) (Nat×Ai×Nat×Nat)
abbrev RF:Type:=Except (Int×Nat) (Nat×Ai×Ah)
def put{α:Type}[BEq α](l:List α)(k:α):List α:=if l.contains k then l else l++[k]
def isName(c:Int):Bool:=decide (97<=c)&&decide (c<=101)
def aB(c:Int):Bool:=c==38||c==124||c==62||c==45
def arg1(pk:Nat->Int)(rec:Nat->Nat->Ai->RT)(a d:Nat)(Y:Ai):RT:=
 if pk a=40 then
  if d=8 then .error (3,a)else
  match rec (a+1) (d+1) Y with
  |.error e=>.error e
  |.ok (a1,aP,n1)=>if pk a1=41 then .ok (a1+1,aP,n1)else .error (2,a1)
 else .error (2,a)
def arg2(pk:Nat->Int)(rec:Nat->Nat->Ai->RT)(a d:Nat)(Y:Ai):Lp:=
 if pk a=40 then
  if d=8 then .error (3,a)else
  match rec (a+1) (d+1) Y with
  |.error e=>.error e
  |.ok (a1,aP,n1)=>
   if pk a1=44 then
    match rec (a1+1) (d+1) aP with
    |.error e=>.error e
    |.ok (a2,ts2,n2)=>if pk a2=41 then .ok (a2+1,ts2,n1,n2)else .error (2,a2)
   else .error (2,a1)
 else .error (2,a)
def fin1(c:Int):RT->RT
 |.error e=>.error e
 |.ok (a1,aP,n1)=>.ok (a1,put aP (c,n1,0),aP.idxOf (c,n1,0))
def fin2(c:Int):Lp->RT
 |.error e=>.error e
 |.ok (a1,aP,n1,n2)=>.ok (a1,put aP (c,n1,n2),aP.idxOf (c,n1,n2))
def iU(pk:Nat->Int):Nat->Nat->Nat->Ai->RT
 |0,a,_,_=>.error (2,a)
 |n+1,a,d,Y=>
  if isName (pk a)=true then .ok (a+1,put Y (pk a,0,0),Y.idxOf (pk a,0,0))
  else if pk a=102 then fin1 102 (arg1 pk (iU pk n) (a+1) d Y)
  else if pk a=103 then fin2 103 (arg2 pk (iU pk n) (a+1) d Y)
  else .error (2,a)
def ako(c:Int)(cs:Ah):RT->RF
 |.error e=>.error e
 |.ok (a1,aP,n1)=>.ok (a1,aP,put cs (c,n1))
def ZC(pk:Nat->Int)(n a d:Nat)(Y:Ai)(cs:Ah):RF:=
 match iU pk n a d Y with
 |.error e=>.error e
 |.ok (a1,aP,_)=>
  if pk a1=61 then
   match iU pk n (a1+1) d aP with
   |.error e=>.error e
   |.ok (a2,ts2,_)=>.ok (a2,ts2,cs)
  else .error (2,a1)
def UE(pk:Nat->Int):Nat->Nat->Nat->Ai->Ah->RF
 |0,a,_,_,_=>.error (2,a)
 |n+1,a,d,Y,cs=>
  if pk a=33 then UE pk n (a+1) d Y cs
  else if pk a=40 then
   if d=8 then .error (3,a)else
   match UE pk n (a+1) (d+1) Y cs with
   |.error e=>.error e
   |.ok (a1,aP,dQ)=>
    if aB (pk a1)=true then
     match UE pk n (a1+1) (d+1) aP dQ with
     |.error e=>.error e
     |.ok (a2,ts2,Ce)=>if pk a2=41 then .ok (a2+1,ts2,Ce)else .error (2,a2)
    else .error (2,a1)
  else if pk a=80\/pk a=81 then ako (pk a) cs (arg1 pk (iU pk (n+1)) (a+1) d Y)
  else ZC pk (n+1) a d Y cs
def check(pk:Nat->Int)(N:Nat):Int×Nat:=
 match UE pk (N+1) 0 0 [] []with
 |.error e=>e
 |.ok (a1,Y,cs)=>if a1<N then(2,a1)else if 7<Y.length\/4<cs.length then(4,0)else(0,0)
theorem gu{α:Type}[BEq α](l:List α)(k:α):l.length<=(put l k).length/\(put l k).length<=l.length+1:=by
 unfold put;split<;>simp
theorem lC{α:Type}[BEq α][LawfulBEq α](l:List α)(k:α):l.idxOf k<(put l k).length:=by
 unfold put;by_cases h:k∈l
 ·rw[ao4 (by simpa using h)];exact ar0 h
 ·rw[an8 (by simpa using h)];simp[as3 h]
def okT(N a:Nat)(Y:Ai):RT->Prop
 |.error e=>e.2<=N/\(e.1=2\/e.1=3)
 |.ok (a1,aP,m)=>a<a1/\a1<=N/\Y.length<=aP.length/\aP.length+a<=Y.length+a1/\m<aP.length
def aiy(N a:Nat)(Y:Ai):Lp->Prop
 |.error e=>e.2<=N/\(e.1=2\/e.1=3)
 |.ok (a1,aP,m,m2)=>a<a1/\a1<=N/\Y.length<=aP.length/\aP.length+a+1<=Y.length+a1/\m<aP.length/\m2<aP.length
def aiz(N a:Nat)(Y:Ai):RT->Prop
 |.error e=>e.2<=N/\(e.1=2\/e.1=3)
 |.ok (a1,aP,m)=>a<a1/\a1<=N/\Y.length<=aP.length/\aP.length+a+1<=Y.length+a1/\m<aP.length
def okF(N a:Nat)(Y:Ai)(cs:Ah):RF->Prop
 |.error e=>e.2<=N/\(e.1=2\/e.1=3)
 |.ok (a1,aP,dQ)=>a<a1/\a1<=N/\Y.length<=aP.length/\aP.length+a<=Y.length+a1/\dQ.length+a<=cs.length+a1
section
variable {pk:Nat->Int} {N:Nat}
theorem lN(bY:∀a,pk a≠0->a<N){rec:Nat->Nat->Ai->RT}{a d:Nat}{Y:Ai}(ha:a<=N)(h:pk a=40->okT N (a+1) Y (rec (a+1) (d+1) Y)):aiz N a Y (arg1 pk rec a d Y):=by
 unfold arg1;split
 ·rename_i iC;have hl:=bY a O;have h':=h iC;split
  ·exact⟨ha,Or.inr rfl⟩
  ·split
   ·rename_i e he;rw[he]at h';exact h'
   ·rename_i a1 aP n1 he;rw[he]at h';obtain⟨p1,p2,p3,p4,p5⟩:=h';split
    ·rename_i rU;have:=bY a1 O;refine⟨?_,?_,?_,?_,?_⟩<;>omega
    ·exact⟨p2,Or.inl rfl⟩
 ·exact⟨ha,Or.inl rfl⟩
theorem Nu(bY:∀a,pk a≠0->a<N){rec:Nat->Nat->Ai->RT}{a d:Nat}{Y:Ai}(ha:a<=N)(h:∀a' ts',pk a=40->a<a'->a'<=N->okT N a' ts' (rec a' (d+1) ts')):aiy N a Y (arg2 pk rec a d Y):=by
 unfold arg2;split
 ·rename_i iC;have hl:=bY a O;have h':=h (a+1) Y iC O O;split
  ·exact⟨ha,Or.inr rfl⟩
  ·split
   ·rename_i e he;rw[he]at h';exact h'
   ·rename_i a1 aP n1 he;rw[he]at h';obtain⟨p1,p2,p3,p4,p5⟩:=h';split
    ·rename_i N7;have zM:=bY a1 O;have EL:=h (a1+1) aP iC O O;split
     ·rename_i e he;rw[he]at EL;exact EL
     ·rename_i a2 ts2 n2 Mc;rw[Mc]at EL;obtain⟨q1,q2,q3,q4,q5⟩:=EL;split
      ·have:=bY a2 O;refine⟨?_,?_,?_,?_,?_,?_⟩<;>omega
      ·exact⟨q2,Or.inl rfl⟩
    ·exact⟨p2,Or.inl rfl⟩
 ·exact⟨ha,Or.inl rfl⟩
theorem acv{c:Int}{a:Nat}{Y:Ai}{r:RT}(h:aiz N (a+1) Y r):okT N a Y (fin1 c r):=by
 unfold fin1;split
 ·exact h
 ·rename_i a1 aP n1;obtain⟨p1,p2,p3,p4,p5⟩:=h;have q:=gu aP (c,n1,0);refine⟨?_,?_,?_,?_,lC _ _⟩<;>omega
theorem acu{c:Int}{a:Nat}{Y:Ai}{r:Lp}(h:aiy N (a+1) Y r):okT N a Y (fin2 c r):=by
 unfold fin2;split
 ·exact h
 ·rename_i a1 aP n1 n2;obtain⟨p1,p2,p3,p4,p5,p6⟩:=h;have q:=gu aP (c,n1,n2);refine⟨?_,?_,?_,?_,lC _ _⟩<;>omega
theorem eX(bY:∀a,pk a≠0->a<N):∀(n a d:Nat) (Y:Ai),a<=N->okT N a Y (iU pk n a d Y):=by
 intro n
 induction n with
 |zero=>intro a d Y ha;exact⟨ha,Or.inl rfl⟩
 |succ n ih=>
  intro a d Y ha;unfold iU;split
  ·rename_i h;have hl:a<N:=bY a (λe=>by rw[e]at h;simp[isName]at h);have q:=gu Y (pk a,0,0);refine⟨?_,?_,?_,?_,lC _ _⟩<;>omega
  ·split
   ·rename_i h;have hl:=bY a O;exact acv (lN bY O (λiC=>ih _ _ _ (by have:=bY (a+1) O;omega)))
   ·split
    ·rename_i h;have hl:=bY a O;exact acu (Nu bY O (λa' ts' _ _ h'=>ih _ _ _ h'))
    ·exact⟨ha,Or.inl rfl⟩
theorem acw(bY:∀a,pk a≠0->a<N)(n a d:Nat)(Y:Ai)(cs:Ah)(ha:a<=N):okF N a Y cs (ZC pk n a d Y cs):=by
 unfold ZC;have h:=eX bY n a d Y ha;split
 ·rename_i e he;rw[he]at h;exact h
 ·rename_i a1 aP m he;rw[he]at h;obtain⟨p1,p2,p3,p4,p5⟩:=h;split
  ·rename_i jP;have hl:=bY a1 O;have M:=eX bY n (a1+1) d aP O;split
   ·rename_i e Mc;rw[Mc]at M;exact M
   ·rename_i a2 ts2 m2 Mc;rw[Mc]at M;obtain⟨q1,q2,q3,q4,q5⟩:=M;refine⟨?_,?_,?_,?_,?_⟩<;>omega
  ·exact⟨p2,Or.inl rfl⟩
theorem vW(bY:∀a,pk a≠0->a<N):∀(n a d:Nat) (Y:Ai) (cs:Ah),a<=N->okF N a Y cs (UE pk n a d Y cs):=by
 intro n
 induction n with
 |zero=>intro a d Y cs ha;exact⟨ha,Or.inl rfl⟩
 |succ n ih=>
  intro a d Y cs ha;unfold UE;split
  ·rename_i h;have hl:=bY a O;have h':=ih (a+1) d Y cs O;revert h';generalize UE pk n (a+1) d Y cs=r;intro h'
   match r,h' with
   |.error e,h'=>exact h'
   |.ok (a1,aP,dQ),h'=>
    obtain⟨p1,p2,p3,p4,p5⟩:=h';refine⟨?_,?_,?_,?_,?_⟩<;>omega
  ·split
   ·rename_i h;have hl:=bY a O;split
    ·exact⟨ha,Or.inr rfl⟩
    ·have h':=ih (a+1) (d+1) Y cs O;split
     ·rename_i e he;rw[he]at h';exact h'
     ·rename_i a1 aP dQ he;rw[he]at h';obtain⟨p1,p2,p3,p4,p5⟩:=h';split
      ·rename_i hj;have zM:=bY a1 (λe=>by rw[e]at hj;simp[aB]at hj);have EL:=ih (a1+1) (d+1) aP dQ O;split
       ·rename_i e Mc;rw[Mc]at EL;exact EL
       ·rename_i a2 ts2 Ce Mc;rw[Mc]at EL;obtain⟨q1,q2,q3,q4,q5⟩:=EL;split
        ·rename_i rU;have lH:=bY a2 O;refine⟨?_,?_,?_,?_,?_⟩<;>omega
        ·exact⟨q2,Or.inl rfl⟩
      ·exact⟨p2,Or.inl rfl⟩
   ·split
    ·rename_i h;have hl:=bY a O;have h':=lN bY (rec:=iU pk (n+1)) (a:=a+1) (d:=d) (Y:=Y) O (λiC=>eX bY _ _ _ _ (by have:=bY (a+1) O;omega));revert h';generalize arg1 pk (iU pk (n+1)) (a+1) d Y=r;intro h'
     match r,h' with
     |.error e,h'=>exact h'
     |.ok (a1,aP,n1),h'=>
      obtain⟨p1,p2,p3,p4,p5⟩:=h';have q:=gu cs (pk a,n1);refine⟨?_,?_,?_,?_,?_⟩<;>omega
    ·exact acw bY _ _ _ _ _ ha
end
abbrev RQ:Type:=Except (Int×Nat) (Nat×Ai×Ah×Ai×Key)
abbrev RP:Type:=Except (Int×Nat) (Nat×Ai×Ah×Ai×Nat)
def AY:RQ->RP
 |.error e=>.error e
 |.ok (a1,aP,dQ,ps1,q)=>.ok (a1,aP,dQ,put ps1 q,ps1.idxOf q)
def rdN:RP->RQ
 |.error e=>.error e
 |.ok (a1,aP,dQ,ps1,m)=>.ok (a1,aP,dQ,ps1,(33,m,0))
def rdC(pk:Nat->Int)(n a d:Nat)(Y:Ai)(cs:Ah)(ps:Ai):RQ:=
 match arg1 pk (iU pk n) (a+1) d Y with
 |.error e=>.error e
 |.ok (a1,aP,m)=>.ok (a1,aP,put cs (pk a,m),ps,(pk a,cs.idxOf (pk a,m),0))
def OC(pk:Nat->Int)(n a d:Nat)(Y:Ai)(cs:Ah)(ps:Ai):RQ:=
 match iU pk n a d Y with
 |.error e=>.error e
 |.ok (a1,aP,m1)=>
  if pk a1=61 then
   match iU pk n (a1+1) d aP with
   |.error e=>.error e
   |.ok (a2,ts2,m2)=>.ok (a2,ts2,cs,ps,(61,m1,m2))
  else .error (2,a1)
def ZA(pk:Nat->Int)(rec:Nat->Nat->Ai->Ah->Ai->RP)(a d:Nat)(Y:Ai)(cs:Ah)(ps:Ai):RQ:=
 if d=8 then .error (3,a)else
 match rec (a+1) (d+1) Y cs ps with
 |.error e=>.error e
 |.ok (a1,aP,dQ,ps1,m1)=>
  if aB (pk a1)=true then
   match rec (a1+1) (d+1) aP dQ ps1 with
   |.error e=>.error e
   |.ok (a2,ts2,Ce,ps2,m2)=>if pk a2=41 then .ok (a2+1,ts2,Ce,ps2,(pk a1,m1,m2))else .error (2,a2)
  else .error (2,a1)
def lG(pk:Nat->Int):Nat->Nat->Nat->Ai->Ah->Ai->RP
 |0,a,_,_,_,_=>.error (2,a)
 |n+1,a,d,Y,cs,ps=>
  if pk a=33 then AY (rdN (lG pk n (a+1) d Y cs ps))
  else if pk a=40 then AY (ZA pk (lG pk n) a d Y cs ps)
  else if pk a=80\/pk a=81 then AY (rdC pk (n+1) a d Y cs ps)
  else AY (OC pk (n+1) a d Y cs ps)
def less:RP->RF
 |.error e=>.error e
 |.ok (a1,aP,dQ,_,_)=>.ok (a1,aP,dQ)
def RN:RQ->RF
 |.error e=>.error e
 |.ok (a1,aP,dQ,_,_)=>.ok (a1,aP,dQ)
theorem zG(r:RQ):less (AY r)=RN r:=by
 obtain e|⟨a1,aP,dQ,ps1,q⟩:=r<;>rfl
theorem Z7(r:RP):RN (rdN r)=less r:=by
 obtain e|⟨a1,aP,dQ,ps1,q⟩:=r<;>rfl
theorem qZ(pk:Nat->Int):∀(n a d:Nat) (Y:Ai) (cs:Ah) (ps:Ai),less (lG pk n a d Y cs ps)=UE pk n a d Y cs:=by
 intro n
 induction n with
 |zero=>intro a d Y cs ps;rfl
 |succ n ih=>
  intro a d Y cs ps;unfold lG UE;split
  ·rw[zG,Z7,ih]
  ·split
   ·rw[zG];unfold ZA;split
    ·rfl
    ·have I:=ih (a+1) (d+1) Y cs ps;rw[<-I];obtain e|⟨a1,aP,dQ,ps1,m1⟩:=lG pk n (a+1) (d+1) Y cs ps
     ·rfl
     ·show RN (if aB (pk a1)=true then _ else _)=(if aB (pk a1)=true then _ else _)
      split
      ·have M:=ih (a1+1) (d+1) aP dQ ps1;rw[<-M];obtain e|⟨a2,ts2,Ce,ps2,m2⟩:=lG pk n (a1+1) (d+1) aP dQ ps1
       ·rfl
       ·show RN (if pk a2=41 then _ else _)=(if pk a2=41 then _ else _)
        split<;>rfl
      ·rfl
   ·split
    ·rw[zG];unfold rdC ako;obtain e|⟨a1,aP,m⟩:=arg1 pk (iU pk (n+1)) (a+1) d Y<;>rfl
    ·rw[zG];unfold OC ZC;obtain e|⟨a1,aP,m⟩:=iU pk (n+1) a d Y
     ·rfl
     ·show RN (if pk a1=61 then _ else _)=(if pk a1=61 then _ else _)
      split
      ·obtain e|⟨a2,ts2,m2⟩:=iU pk (n+1) (a1+1) d aP<;>rfl
      ·rfl
def okP(N a:Nat)(Y:Ai)(cs:Ah)(ps:Ai):RP->Prop
 |.error e=>e.2<=N/\(e.1=2\/e.1=3)
 |.ok (a1,aP,dQ,ps1,m)=>a<a1/\a1<=N/\Y.length<=aP.length/\aP.length+a<=Y.length+a1/\dQ.length+a<=cs.length+a1/\ps1.length+a<=ps.length+a1/\m<ps1.length
def okQ(N a:Nat)(Y:Ai)(cs:Ah)(ps:Ai):RQ->Prop
 |.error e=>e.2<=N/\(e.1=2\/e.1=3)
 |.ok (a1,aP,dQ,ps1,q)=>a<a1/\a1<=N/\Y.length<=aP.length/\aP.length+a<=Y.length+a1/\dQ.length+a<=cs.length+a1/\ps1.length+a+1<=ps.length+a1/\q.2.1<N+1/\q.2.2<N+1/\0<=q.1/\q.1<=255
section
variable {pk:Nat->Int} {N:Nat}
theorem Dq{a:Nat}{Y:Ai}{cs:Ah}{ps:Ai}{r:RQ}(h:okQ N a Y cs ps r):okP N a Y cs ps (AY r):=by
 obtain e|⟨a1,aP,dQ,ps1,q⟩:=r
 ·exact h
 ·obtain⟨p1,p2,p3,p4,p5,p6,_⟩:=h;have:=gu ps1 q;exact⟨p1,p2,p3,p4,p5,O,lC _ _⟩
theorem ae1{a:Nat}{Y:Ai}{cs:Ah}{ps:Ai}{r:RP}(hp:ps.length<=a)(h:okP N (a+1) Y cs ps r):okQ N a Y cs ps (rdN r):=by
 obtain e|⟨a1,aP,dQ,ps1,m⟩:=r
 ·exact h
 ·obtain⟨p1,p2,p3,p4,p5,p6,p7⟩:=h;refine⟨?_,?_,?_,?_,?_,?_,?_,?_,?_,?_⟩<;>(try simp)<;>omega
theorem ae3(bY:∀a,pk a≠0->a<N)(iF:∀a,0<=pk a/\pk a<=255){n a d:Nat}{Y:Ai}{cs:Ah}{ps:Ai}(ha:a<N)(hc:cs.length<=a):okQ N a Y cs ps (rdC pk n a d Y cs ps):=by
 have h':=lN bY (rec:=iU pk n) (a:=a+1) (d:=d) (Y:=Y) O (λiC=>eX bY _ _ _ _ (by have:=bY (a+1) O;omega));unfold rdC;split
 ·rename_i e he;rw[he]at h';exact h'
 ·rename_i a1 aP m he;rw[he]at h';obtain⟨p1,p2,p3,p4,p5⟩:=h';have q:=gu cs (pk a,m);have:=iF a;have hi:cs.idxOf (pk a,m)<=cs.length:=aw3;refine⟨?_,?_,?_,?_,?_,?_,?_,?_,?_,?_⟩<;>(try simp)<;>omega
theorem X9(bY:∀a,pk a≠0->a<N){n a d:Nat}{Y:Ai}{cs:Ah}{ps:Ai}(ha:a<=N)(ht:Y.length<=a):okQ N a Y cs ps (OC pk n a d Y cs ps):=by
 have h:=eX bY n a d Y ha;unfold OC;split
 ·rename_i e he;rw[he]at h;exact h
 ·rename_i a1 aP m he;rw[he]at h;obtain⟨p1,p2,p3,p4,p5⟩:=h;split
  ·rename_i jP;have hl:=bY a1 O;have M:=eX bY n (a1+1) d aP O;split
   ·rename_i e Mc;rw[Mc]at M;exact M
   ·rename_i a2 ts2 m2 Mc;rw[Mc]at M;obtain⟨q1,q2,q3,q4,q5⟩:=M;refine⟨?_,?_,?_,?_,?_,?_,?_,?_,?_,?_⟩<;>(try simp)<;>omega
  ·exact⟨p2,Or.inl rfl⟩
theorem zB(bY:∀a,pk a≠0->a<N)(iF:∀a,0<=pk a/\pk a<=255):∀(n a d:Nat) (Y:Ai) (cs:Ah) (ps:Ai),a<=N->Y.length<=a->cs.length<=a->ps.length<=a->okP N a Y cs ps (lG pk n a d Y cs ps):=by
 intro n
 induction n with
 |zero=>intro a d Y cs ps ha _ _ _;exact⟨ha,Or.inl rfl⟩
 |succ n ih=>
  intro a d Y cs ps ha ht hc hp;unfold lG;split
  ·rename_i e;have:=bY a O;exact Dq (ae1 hp (ih (a+1) d Y cs ps O O O O))
  ·split
   ·rename_i e;have hl:=bY a O;refine Dq ?_;unfold ZA;split
    ·exact⟨O,Or.inr rfl⟩
    ·have h':=ih (a+1) (d+1) Y cs ps O O O O;split
     ·rename_i e he;rw[he]at h';exact h'
     ·rename_i a1 aP dQ ps1 m1 he;rw[he]at h';obtain⟨p1,p2,p3,p4,p5,p6,p7⟩:=h';split
      ·rename_i hj;have zM:=bY a1 (λe=>by rw[e]at hj;simp[aB]at hj);have EL:=ih (a1+1) (d+1) aP dQ ps1 O O O O;split
       ·rename_i e Mc;rw[Mc]at EL;exact EL
       ·rename_i a2 ts2 Ce ps2 m2 Mc;rw[Mc]at EL;obtain⟨q1,q2,q3,q4,q5,q6,q7⟩:=EL;split
        ·rename_i rU;have lH:=bY a2 O;have:=iF a1;refine⟨?_,?_,?_,?_,?_,?_,?_,?_,?_,?_⟩<;>(try simp)<;>omega
        ·exact⟨q2,Or.inl rfl⟩
      ·exact⟨p2,Or.inl rfl⟩
   ·split
    ·rename_i e;have hl:=bY a O;exact Dq (ae3 bY iF hl hc)
    ·exact Dq (X9 bY ha ht)
theorem ae2(bY:∀a,pk a≠0->a<N)(iF:∀a,0<=pk a/\pk a<=255){n a d:Nat}{Y:Ai}{cs:Ah}{ps:Ai}(ha:a<N)(ht:Y.length<=a)(hc:cs.length<=a)(hp:ps.length<=a):okQ N a Y cs ps (ZA pk (lG pk n) a d Y cs ps):=by
 unfold ZA;split
 ·exact⟨O,Or.inr rfl⟩
 ·have h':=zB bY iF n (a+1) (d+1) Y cs ps O O O O;split
  ·rename_i e he;rw[he]at h';exact h'
  ·rename_i a1 aP dQ ps1 m1 he;rw[he]at h';obtain⟨p1,p2,p3,p4,p5,p6,p7⟩:=h';split
   ·rename_i hj;have zM:=bY a1 (λe=>by rw[e]at hj;simp[aB]at hj);have EL:=zB bY iF n (a1+1) (d+1) aP dQ ps1 O O O O;split
    ·rename_i e Mc;rw[Mc]at EL;exact EL
    ·rename_i a2 ts2 Ce ps2 m2 Mc;rw[Mc]at EL;obtain⟨q1,q2,q3,q4,q5,q6,q7⟩:=EL;split
     ·rename_i rU;have lH:=bY a2 O;have:=iF a1;refine⟨?_,?_,?_,?_,?_,?_,?_,?_,?_,?_⟩<;>(try simp)<;>omega
     ·exact⟨q2,Or.inl rfl⟩
   ·exact⟨p2,Or.inl rfl⟩
end
end au
open Go.RowKit Go.Maps Go.WideMaps
open au (Key put)
theorem F{p:Prop}(h:p):Hid p:=h
theorem Z{p:Prop}(h:Hid p):p:=h
theorem laidOut:laidOutB prog=true:=by kernel_rfl
theorem rowT:(76:TypeId)<prog.types.size:=aC6 (by kernel_rfl)
theorem rowP:(82:TypeId)<prog.types.size:=aC6 (by kernel_rfl)
theorem agF:(79:TypeId)<prog.types.size:=aC6 (by kernel_rfl)
theorem ain:(match prog.underlying 76 with|some (.array _ _)|some (.struct _)=>true|_=>false)=true:=by kernel_rfl
theorem aio:(match prog.underlying 82 with|some (.array _ _)|some (.struct _)=>true|_=>false)=true:=by kernel_rfl
theorem aip:(match prog.underlying 79 with|some (.array _ _)|some (.struct _)=>true|_=>false)=true:=by kernel_rfl
theorem Ap:Keyed prog 76:=Keyed.of_law (deep_law_laid laidOut (m:=2) O rowT (by kernel_rfl) ain)
theorem xH:Keyed prog 82:=Keyed.of_law (deep_law_laid laidOut (m:=2) O rowP (by kernel_rfl) aio)
theorem Aq:Keyed prog 79:=Keyed.of_law (deep_law_laid laidOut (m:=2) O agF (by kernel_rfl) aip)
theorem zeroE(w:World):(zeroValue 3).run prog w=.ok (A 0) w:=by kernel_rfl
def bZ(k:Key):Value:=.agg #[Ae k.1,A k.2.1,A k.2.2]
def mZ(k:Int×Nat):Value:=.agg #[Ae k.1,A k.2]
theorem zH{a b:Key}(h:bZ a=bZ b):a=b:=by
 obtain⟨a1,a2,a3⟩:=a;obtain⟨b1,b2,b3⟩:=b;simp[bZ]at h;obtain⟨I,M,h3⟩:=h;simp;omega
theorem OM{a b:Int×Nat}(h:mZ a=mZ b):a=b:=by
 obtain⟨a1,a2⟩:=a;obtain⟨b1,b2⟩:=b;simp[mZ]at h;obtain⟨I,M⟩:=h;simp;omega
theorem P8:prog.cellsOf 76=3:=by kernel_rfl
theorem P9:prog.cellsOf 82=3:=by kernel_rfl
theorem Qa:prog.cellsOf 79=2:=by kernel_rfl
theorem FM:prog.cellsOf 3=1:=by kernel_rfl
theorem FK:prog.cellsOf 5=1:=by kernel_rfl
theorem acK(n:Nat)(a:Int)(w1:(Lit.int .u8 a).wf=true):prog.keyLits (n+1) 5 [.int .u8 a]=some [.int .u8 a]:=by
 simp only[Program.keyLits,underlying5,w1,and_self,av8]
theorem RD(n:Nat)(a:Int)(w1:(Lit.int .i64 a).wf=true):prog.keyLits (n+1) 3 [.int .i64 a]=some [.int .i64 a]:=by
 simp only[Program.keyLits,underlying3,w1,and_self,av8]
theorem aiF(n:Nat)(a b c:Int)(w1:(Lit.int .u8 a).wf=true)(w2:(Lit.int .i64 b).wf=true)(w3:(Lit.int .i64 c).wf=true) :
  prog.keyLits (n+2) 76 [.int .u8 a,.int .i64 b,.int .i64 c]=some [.int .u8 a,.int .i64 b,.int .i64 c]:=by
 unfold Program.keyLits;simp only[underlying76,P8];rw[ao4 ⟨rfl,by kernel_rfl⟩];simp only[aC4,aC7,FM,FK,List.drop,List.take,acK _ a w1,RD _ b w2,RD _ c w3];rfl
theorem aiG(n:Nat)(a b c:Int)(w1:(Lit.int .u8 a).wf=true)(w2:(Lit.int .i64 b).wf=true)(w3:(Lit.int .i64 c).wf=true) :
  prog.keyLits (n+2) 82 [.int .u8 a,.int .i64 b,.int .i64 c]=some [.int .u8 a,.int .i64 b,.int .i64 c]:=by
 unfold Program.keyLits;simp only[underlying82,P9];rw[ao4 ⟨rfl,by kernel_rfl⟩];simp only[aC4,aC7,FM,FK,List.drop,List.take,acK _ a w1,RD _ b w2,RD _ c w3];rfl
theorem aiH(n:Nat)(a b:Int)(w1:(Lit.int .u8 a).wf=true)(w2:(Lit.int .i64 b).wf=true) :
  prog.keyLits (n+2) 79 [.int .u8 a,.int .i64 b]=some [.int .u8 a,.int .i64 b]:=by
 unfold Program.keyLits;simp only[underlying79,Qa];rw[ao4 ⟨rfl,by kernel_rfl⟩];simp only[aC4,aC7,FM,FK,List.drop,List.take,acK _ a w1,RD _ b w2];rfl
theorem ktT:prog.keyType 76=true:=by kernel_rfl
theorem ktP:prog.keyType 82=true:=by kernel_rfl
theorem ktC:prog.keyType 79=true:=by kernel_rfl
theorem agx(x:Nat)(h:0<x):∃n,x+1=n+2:=⟨x-1,O⟩
theorem EM:∃n,prog.types.size+1=n+2:=agx _ (Nat.lt_of_le_of_lt (ap7 _) rowT)
theorem vX{P:Program}{k:TypeId}{fs:Array Field}{v:Value}{ls:List Lit}(hu:P.underlying k=some (.struct fs))(hk:P.keyType k=true)(hf:v.formed P k=true)
 (hl:P.keyLits (P.types.size+1) k v.cells.toList=some ls):keyOf P k v=some (.string (keyBytes ls)):=by
 simp[keyOf,hu,hk,hf,hl]
theorem aai(k:Key)(I:0<=k.1/\k.1<=255)(M:k.2.1<=1000)(h3:k.2.2<=1000):∃l,keyOf prog 76 (bZ k)=some l:=by
 have w1:(Lit.int .u8 k.1).wf=true:=WalkArith.wf_u8 O;have w2:(Lit.int .i64 k.2.1).wf=true:=WalkArith.wf_i64 O;have w3:(Lit.int .i64 k.2.2).wf=true:=WalkArith.wf_i64 O;obtain⟨n,hn⟩:=EM;have hf:(bZ k).formed prog 76=true:=by simp only[bZ,Value.formed,underlying76,P8];rfl
 exact⟨_,vX underlying76 ktT hf (by rw[hn];exact aiF n _ _ _ w1 w2 w3)⟩
theorem aaj(k:Key)(I:0<=k.1/\k.1<=255)(M:k.2.1<=1000)(h3:k.2.2<=1000):∃l,keyOf prog 82 (bZ k)=some l:=by
 have w1:(Lit.int .u8 k.1).wf=true:=WalkArith.wf_u8 O;have w2:(Lit.int .i64 k.2.1).wf=true:=WalkArith.wf_i64 O;have w3:(Lit.int .i64 k.2.2).wf=true:=WalkArith.wf_i64 O;obtain⟨n,hn⟩:=EM;have hf:(bZ k).formed prog 82=true:=by simp only[bZ,Value.formed,underlying82,P9];rfl
 exact⟨_,vX underlying82 ktP hf (by rw[hn];exact aiG n _ _ _ w1 w2 w3)⟩
theorem afa(k:Int×Nat)(I:0<=k.1/\k.1<=255)(M:k.2<=1000):∃l,keyOf prog 79 (mZ k)=some l:=by
 have w1:(Lit.int .u8 k.1).wf=true:=WalkArith.wf_u8 O;have w2:(Lit.int .i64 k.2).wf=true:=WalkArith.wf_i64 O;obtain⟨n,hn⟩:=EM;have hf:(mZ k).formed prog 79=true:=by simp only[mZ,Value.formed,underlying79,Qa];rfl
 exact⟨_,vX underlying79 ktC hf (by rw[hn];exact aiH n _ _ w1 w2)⟩
def aT{α:Type}[BEq α](w:World)(k b:Nat)(kv:α->Value)(Y:List α):Prop:=
 ∃D:DataW Unit,w.ownsMap prog k (plainElem prog 3) b Y.length D/\Maps.size D=Y.length/\
  (∀x l,keyOf prog k (kv x)=some l->Maps.has D l=Y.contains x/\(Y.contains x=true->D.atKey l (.lit (.int .i64 0))=.lit (.int .i64 (Y.idxOf x))))/\
  ∀l,Maps.has D l=true->∃x,Y.contains x=true/\keyOf prog k (kv x)=some l
section
variable {α:Type} [BEq α] {w w':World} {k b:Nat} {kv:α->Value} {Y:List α}
theorem aT.lt(h:aT w k b kv Y):b<w.heap.size:=by
 obtain⟨D,I,_⟩:=h;exact I.lt
theorem aT.kept(h:aT w k b kv Y)(hb:w'.heap[b]?=w.heap[b]?):aT w' k b kv Y:=by
 obtain⟨D,⟨es,clock,I,M⟩,h3⟩:=h;exact⟨D,⟨es,clock,hb.trans I,M⟩,h3⟩
theorem nK(w:World)(k:Nat)(kv:α->Value):aT (w.alloc (.map #[] 0)) k w.heap.size kv ([]:List α):=
 ⟨.map [],World.ownsMap_made w _ _ _,rfl,λx l _=>⟨rfl,λh=>by simp at h⟩,λl h=>by cases h⟩
theorem zF[LawfulBEq α]{D:DataW Unit}(adl:∀a b:α,kv a=kv b->a=b)(K:Keyed prog k)
 (M:Maps.size D=Y.length)(h3:∀x l,keyOf prog k (kv x)=some l->Maps.has D l=Y.contains x/\(Y.contains x=true->D.atKey l (.lit (.int .i64 0))=.lit (.int .i64 (Y.idxOf x))))
 (h3':∀l,Maps.has D l=true->∃x,Y.contains x=true/\keyOf prog k (kv x)=some l)(h4:Tidy D){x:α}{l:Lit}(hl:keyOf prog k (kv x)=some l)(hx:Y.contains x=false)
 (h5:w'.ownsMap prog k (plainElem prog 3) b (Y.length+1) (D.put l (.lit (.int .i64 Y.length)))) :
  aT w' k b kv (Y++[x]):=by
 have hx':¬x∈Y:=by simpa using hx
 refine⟨_,by simpa using h5,?_,?_,?_⟩
 ·rw[size_put h4,(h3 x l hl).1,hx];simp[M]
 ·intro y m hm;by_cases e:m=l
  ·subst e;have:y=x:=adl _ _ (K.inj hm hl);subst this;refine⟨by rw[has_put_same h4.isMap (K.key hl)];simp,λ_=>?_⟩;rw[atKey_put_same h4.isMap (K.key hl)];simp[aw0,hx']
  ·have bg:y≠x:=λe'=>e (by subst e';rw[hm]at hl;exact at7 hl);rw[has_put_other e,atKey_put_other e,(h3 y m hm).1];refine⟨by simp[bg],λhy=>?_⟩;have hy':y∈Y:=(by simpa[bg]using hy);rw[(h3 y m hm).2 (by simpa using hy')];simp[aw0,hy']
 ·intro m hm;by_cases e:m=l
  ·subst e;exact⟨x,R,hl⟩
  ·rw[has_put_other e]at hm;obtain⟨y,hy,hk⟩:=h3' m hm;exact⟨y,by simp at hy ⊢;exact Or.inl hy,hk⟩
end
theorem jM{k:IntKind}{a b:Int}(h:a=b):Ending.returned (.int k a)=.returned (.int k b):=by rw[h]
theorem acy(BT:Nat)(Y:Ai)(c:Int)(x y:Nat)(w:World)(I:0<=c/\c<=255)(M:x<=1000)(h3:y<=1000)(hl:Y.length<=1000)(hM:aT w 76 BT bZ Y) :
  Calls prog 141 #[.map (some BT),.agg #[.int .u8 c,.int .i64 x,.int .i64 y]] w λe w'=>
   e=.returned (.int .i64 (Y.idxOf (c,x,y)))/\aT w' 76 BT bZ (put Y (c,x,y))/\w.grownBy w' (some BT):=by
 obtain⟨l,aV⟩:=aai (c,x,y) I M h3;obtain⟨D,aH,eH,aX,iM⟩:=hM;have kJ:=aX _ _ aV;have jO:=aH.tidy Ap;have rM:keyOf prog 76 (.agg #[.int .u8 c,.int .i64 x,.int .i64 y])=some l:=aV;have jQ:=F aX;have pq:=F iM;have xF:=F eH;have HK:=F aV;clear aX eH aV iM;cases hc:Y.contains (c,x,y)
 ·rw[hc]at kJ;have wI:Maps.has D l=false:=kJ.1;clear kJ;have HC:=F hc;clear hc
  go_in
  go_wp2_with (first
   |(at_lookup;refine wpList_lookup_own_ok_int _ rfl _ _ 65 rfl 76 3 .i64 Ap underlying65 underlying3 (zeroE _) BT Y.length D rfl (aH.alloc _) _ l rfl rM ?_;intro c0 gU EZ)
   |(at_len;refine wpList_len_own _ rfl _ 65 rfl 76 3 underlying65 _ BT Y.length D rfl (aH.alloc _) ?_)
   |(at_mapUpdate;refine wpList_mapUpdate_own _ rfl _ _ _ 65 rfl 76 3 Ap underlying65 _ BT Y.length D rfl (aH.alloc _) anj _ _ l rfl rfl rM _ [] (plainElem_int underlying3 (WalkArith.wf_i64 (by have:=Z xF;omega))) ?_;intro w1 lU rO))
  go_ret
  have eH:=Z xF;have hc:=Z HC;have hn:¬(c,x,y)∈Y:=by simpa using hc
  refine⟨jM ?_,?_,(World.grownBy_alloc _ _ _).trans rO⟩
  ·rw[eH,as3 hn]
  ·have hp:put Y (c,x,y)=Y++[(c,x,y)]:=(by unfold put;rw[hc];rfl);rw[hp];rw[eH]at lU;exact zF (λ_ _=>zH) Ap eH (Z jQ) (Z pq) jO (Z HK) hc lU
 ·rw[hc]at kJ;have wI:Maps.has D l=true:=kJ.1;have Ew:=F (kJ.2 rfl);clear kJ;have HC:=F hc;clear hc
  go_in
  go_wp2_with (first
   |(at_lookup;refine wpList_lookup_own_ok_int _ rfl _ _ 65 rfl 76 3 .i64 Ap underlying65 underlying3 (zeroE _) BT Y.length D rfl (aH.alloc _) _ l rfl rM ?_;intro c0 gU EZ))
  go_ret
  have hc:=Z HC;refine⟨jM ?_,?_,World.grownBy_alloc _ _ _⟩
  ·have h:=gU.symm.trans (Z Ew);simpa using h
  ·have hp:put Y (c,x,y)=Y:=(by unfold put;rw[hc];rfl);rw[hp];exact⟨D,aH.alloc _,Z xF,Z jQ,Z pq⟩
theorem Rw(BT:Nat)(Y:Ai)(c:Int)(x y:Nat)(w:World)(I:0<=c/\c<=255)(M:x<=1000)(h3:y<=1000)(hl:Y.length<=1000)(hM:aT w 82 BT bZ Y) :
  Calls prog 50 #[.map (some BT),.agg #[.int .u8 c,.int .i64 x,.int .i64 y]] w λe w'=>
   e=.returned (.int .i64 (Y.idxOf (c,x,y)))/\aT w' 82 BT bZ (put Y (c,x,y))/\w.grownBy w' (some BT):=by
 obtain⟨l,aV⟩:=aaj (c,x,y) I M h3;obtain⟨D,aH,eH,aX,iM⟩:=hM;have kJ:=aX _ _ aV;have jO:=aH.tidy xH;have rM:keyOf prog 82 (.agg #[.int .u8 c,.int .i64 x,.int .i64 y])=some l:=aV;have jQ:=F aX;have pq:=F iM;have xF:=F eH;have HK:=F aV;clear aX eH aV iM;cases hc:Y.contains (c,x,y)
 ·rw[hc]at kJ;have wI:Maps.has D l=false:=kJ.1;clear kJ;have HC:=F hc;clear hc
  go_in
  go_wp2_with (first
   |(at_lookup;refine wpList_lookup_own_ok_int _ rfl _ _ 69 rfl 82 3 .i64 xH underlying69 underlying3 (zeroE _) BT Y.length D rfl (aH.alloc _) _ l rfl rM ?_;intro c0 gU EZ)
   |(at_len;refine wpList_len_own _ rfl _ 69 rfl 82 3 underlying69 _ BT Y.length D rfl (aH.alloc _) ?_)
   |(at_mapUpdate;refine wpList_mapUpdate_own _ rfl _ _ _ 69 rfl 82 3 xH underlying69 _ BT Y.length D rfl (aH.alloc _) anj _ _ l rfl rfl rM _ [] (plainElem_int underlying3 (WalkArith.wf_i64 (by have:=Z xF;omega))) ?_;intro w1 lU rO))
  go_ret
  have eH:=Z xF;have hc:=Z HC;have hn:¬(c,x,y)∈Y:=by simpa using hc
  refine⟨jM ?_,?_,(World.grownBy_alloc _ _ _).trans rO⟩
  ·rw[eH,as3 hn]
  ·have hp:put Y (c,x,y)=Y++[(c,x,y)]:=(by unfold put;rw[hc];rfl);rw[hp];rw[eH]at lU;exact zF (λ_ _=>zH) xH eH (Z jQ) (Z pq) jO (Z HK) hc lU
 ·rw[hc]at kJ;have wI:Maps.has D l=true:=kJ.1;have Ew:=F (kJ.2 rfl);clear kJ;have HC:=F hc;clear hc
  go_in
  go_wp2_with (first
   |(at_lookup;refine wpList_lookup_own_ok_int _ rfl _ _ 69 rfl 82 3 .i64 xH underlying69 underlying3 (zeroE _) BT Y.length D rfl (aH.alloc _) _ l rfl rM ?_;intro c0 gU EZ))
  go_ret
  have hc:=Z HC;refine⟨jM ?_,?_,World.grownBy_alloc _ _ _⟩
  ·have h:=gU.symm.trans (Z Ew);simpa using h
  ·have hp:put Y (c,x,y)=Y:=(by unfold put;rw[hc];rfl);rw[hp];exact⟨D,aH.alloc _,Z xF,Z jQ,Z pq⟩
theorem acB(BT:Nat)(Y:Ah)(c:Int)(x:Nat)(w:World)(I:0<=c/\c<=255)(M:x<=1000)(hl:Y.length<=1000)(hM:aT w 79 BT mZ Y) :
  Calls prog 95 #[.map (some BT),.agg #[.int .u8 c,.int .i64 x]] w λe w'=>
   e=.returned (.int .i64 (Y.idxOf (c,x)))/\aT w' 79 BT mZ (put Y (c,x))/\w.grownBy w' (some BT):=by
 obtain⟨l,aV⟩:=afa (c,x) I M;obtain⟨D,aH,eH,aX,iM⟩:=hM;have kJ:=aX _ _ aV;have jO:=aH.tidy Aq;have rM:keyOf prog 79 (.agg #[.int .u8 c,.int .i64 x])=some l:=aV;have jQ:=F aX;have pq:=F iM;have xF:=F eH;have HK:=F aV;clear aX eH aV iM;cases hc:Y.contains (c,x)
 ·rw[hc]at kJ;have wI:Maps.has D l=false:=kJ.1;clear kJ;have HC:=F hc;clear hc
  go_in
  go_wp2_with (first
   |(at_lookup;refine wpList_lookup_own_ok_int _ rfl _ _ 67 rfl 79 3 .i64 Aq underlying67 underlying3 (zeroE _) BT Y.length D rfl (aH.alloc _) _ l rfl rM ?_;intro c0 gU EZ)
   |(at_len;refine wpList_len_own _ rfl _ 67 rfl 79 3 underlying67 _ BT Y.length D rfl (aH.alloc _) ?_)
   |(at_mapUpdate;refine wpList_mapUpdate_own _ rfl _ _ _ 67 rfl 79 3 Aq underlying67 _ BT Y.length D rfl (aH.alloc _) anj _ _ l rfl rfl rM _ [] (plainElem_int underlying3 (WalkArith.wf_i64 (by have:=Z xF;omega))) ?_;intro w1 lU rO))
  go_ret
  have eH:=Z xF;have hc:=Z HC;have hn:¬(c,x)∈Y:=by simpa using hc
  refine⟨jM ?_,?_,(World.grownBy_alloc _ _ _).trans rO⟩
  ·rw[eH,as3 hn]
  ·have hp:put Y (c,x)=Y++[(c,x)]:=(by unfold put;rw[hc];rfl);rw[hp];rw[eH]at lU;exact zF (λ_ _=>OM) Aq eH (Z jQ) (Z pq) jO (Z HK) hc lU
 ·rw[hc]at kJ;have wI:Maps.has D l=true:=kJ.1;have Ew:=F (kJ.2 rfl);clear kJ;have HC:=F hc;clear hc
  go_in
  go_wp2_with (first
   |(at_lookup;refine wpList_lookup_own_ok_int _ rfl _ _ 67 rfl 79 3 .i64 Aq underlying67 underlying3 (zeroE _) BT Y.length D rfl (aH.alloc _) _ l rfl rM ?_;intro c0 gU EZ))
  go_ret
  have hc:=Z HC;refine⟨jM ?_,?_,World.grownBy_alloc _ _ _⟩
  ·have h:=gU.symm.trans (Z Ew);simpa using h
  ·have hp:put Y (c,x)=Y:=(by unfold put;rw[hc];rfl);rw[hp];exact⟨D,aH.alloc _,Z xF,Z jQ,Z pq⟩
end Go.Proofs.YthcppbmkacbbiabGreat
