import Derived.Test.YthcppbmkacbbiaaGreatYc
import Derived.Test.YthcppbmkacbbiaaGreatChecked
import Derived.WalkKit
import Derived.WalkSpells
import Derived.WalkLawsBesides
import Derived.Maps.OwnSet
import Derived.DeepKeys4
import Derived.ProofKit
set_option linter.unusedSimpArgs false
set_option maxHeartbeats 400000
set_option maxRecDepth 100000
namespace Go.Proofs.YthcppbmkacbbiaaGreat
open Go.Proofs.Tryz
namespace aB
abbrev Key:Type:=Int×Nat×Nat
abbrev RT:Type:=Except (Int×Nat) (Nat×List Key×Nat)
abbrev zQ:Type:=Except (Int×Nat) (Nat×List Key×Nat×Nat)
abbrev RF:Type:=Except (Int×Nat) (Nat×List Key×List (Int×Nat))
def put{α:Type}[BEq α](l:List α)(k:α):List α:=if l.contains k then l else l++[k]
def isName(c:Int):Bool:=decide (97<=c)&&decide (c<=101)
def au(c:Int):Bool:=c==38||c==124||c==62||c==45
def arg1(pk:Nat->Int)(rec:Nat->Nat->List Key->RT)(a d:Nat)(ts:List Key):RT:=
 if pk a=40 then
  if d=8 then .error (3,a)else
  match rec (a+1) (d+1) ts with
  |.error e=>.error e
  |.ok (a1,aF,n1)=>if pk a1=41 then .ok (a1+1,aF,n1)else .error (2,a1)
 else .error (2,a)
def arg2(pk:Nat->Int)(rec:Nat->Nat->List Key->RT)(a d:Nat)(ts:List Key):zQ:=
 if pk a=40 then
  if d=8 then .error (3,a)else
  match rec (a+1) (d+1) ts with
  |.error e=>.error e
  |.ok (a1,aF,n1)=>
   if pk a1=44 then
    match rec (a1+1) (d+1) aF with
    |.error e=>.error e
    |.ok (a2,ts2,n2)=>if pk a2=41 then .ok (a2+1,ts2,n1,n2)else .error (2,a2)
   else .error (2,a1)
 else .error (2,a)
def fin1(c:Int):RT->RT
 |.error e=>.error e
 |.ok (a1,aF,n1)=>.ok (a1,put aF (c,n1,0),aF.idxOf (c,n1,0))
def fin2(c:Int):zQ->RT
 |.error e=>.error e
 |.ok (a1,aF,n1,n2)=>.ok (a1,put aF (c,n1,n2),aF.idxOf (c,n1,n2))
def dX(pk:Nat->Int):Nat->Nat->Nat->List Key->RT
 |0,a,_,_=>.error (2,a)
 |n+1,a,d,ts=>
  if isName (pk a)=true then .ok (a+1,put ts (pk a,0,0),ts.idxOf (pk a,0,0))
  else if pk a=102 then fin1 102 (arg1 pk (dX pk n) (a+1) d ts)
  else if pk a=103 then fin2 103 (arg2 pk (dX pk n) (a+1) d ts)
  else .error (2,a)
def Zo(c:Int)(cs:List (Int×Nat)):RT->RF
 |.error e=>.error e
 |.ok (a1,aF,n1)=>.ok (a1,aF,put cs (c,n1))
def KP(pk:Nat->Int)(n a d:Nat)(ts:List Key)(cs:List (Int×Nat)):RF:=
 match dX pk n a d ts with
 |.error e=>.error e
 |.ok (a1,aF,_)=>
  if pk a1=61 then
   match dX pk n (a1+1) d aF with
   |.error e=>.error e
   |.ok (a2,ts2,_)=>.ok (a2,ts2,cs)
  else .error (2,a1)
def Gq(pk:Nat->Int):Nat->Nat->Nat->List Key->List (Int×Nat)->RF
 |0,a,_,_,_=>.error (2,a)
 |n+1,a,d,ts,cs=>
  if pk a=33 then Gq pk n (a+1) d ts cs
  else if pk a=40 then
   if d=8 then .error (3,a)else
   match Gq pk n (a+1) (d+1) ts cs with
   |.error e=>.error e
   |.ok (a1,aF,cs1)=>
    if au (pk a1)=true then
     match Gq pk n (a1+1) (d+1) aF cs1 with
     |.error e=>.error e
     |.ok (a2,ts2,cs2)=>if pk a2=41 then .ok (a2+1,ts2,cs2)else .error (2,a2)
    else .error (2,a1)
  else if pk a=80\/pk a=81 then Zo (pk a) cs (arg1 pk (dX pk (n+1)) (a+1) d ts)
  else KP pk (n+1) a d ts cs
def check(pk:Nat->Int)(N:Nat):Int×Nat:=
 match Gq pk (N+1) 0 0 [] []with
 |.error e=>e
 |.ok (a1,ts,cs)=>if a1<N then(2,a1)else if 7<ts.length\/4<cs.length then(4,0)else(0,0)
theorem fU{α:Type}[BEq α](l:List α)(k:α):l.length<=(put l k).length/\(put l k).length<=l.length+1:=by
 unfold put;split<;>simp
theorem jB{α:Type}[BEq α][LawfulBEq α](l:List α)(k:α):l.idxOf k<(put l k).length:=by
 unfold put;by_cases h:k∈l
 ·rw[ae2 (by simpa using h)];exact af8 h
 ·rw[ad6 (by simpa using h)];simp[ag4 h]
def XL(N a:Nat)(ts:List Key):RT->Prop
 |.error e=>e.2<=N/\(e.1=2\/e.1=3)
 |.ok (a1,aF,m)=>a<a1/\a1<=N/\ts.length<=aF.length/\aF.length+a<=ts.length+a1/\m<aF.length
def XJ(N a:Nat)(ts:List Key):zQ->Prop
 |.error e=>e.2<=N/\(e.1=2\/e.1=3)
 |.ok (a1,aF,m,m2)=>a<a1/\a1<=N/\ts.length<=aF.length/\aF.length+a+1<=ts.length+a1/\m<aF.length/\m2<aF.length
def XK(N a:Nat)(ts:List Key):RT->Prop
 |.error e=>e.2<=N/\(e.1=2\/e.1=3)
 |.ok (a1,aF,m)=>a<a1/\a1<=N/\ts.length<=aF.length/\aF.length+a+1<=ts.length+a1/\m<aF.length
def okF(N a:Nat)(ts:List Key)(cs:List (Int×Nat)):RF->Prop
 |.error e=>e.2<=N/\(e.1=2\/e.1=3)
 |.ok (a1,aF,cs1)=>a<a1/\a1<=N/\ts.length<=aF.length/\aF.length+a<=ts.length+a1/\cs1.length+a<=cs.length+a1
section
variable {pk:Nat->Int} {N:Nat}
theorem jk(hpk:∀a,pk a≠0->a<N){rec:Nat->Nat->List Key->RT}{a d:Nat}{ts:List Key}(ha:a<=N)(h:pk a=40->XL N (a+1) ts (rec (a+1) (d+1) ts)):XK N a ts (arg1 pk rec a d ts):=by
 unfold arg1;split
 ·rename_i h40;have hl:=hpk a (by omega);have h':=h h40;split
  ·exact⟨ha,Or.inr rfl⟩
  ·split
   ·rename_i e he;rw[he]at h';exact h'
   ·rename_i a1 aF n1 he;rw[he]at h';obtain⟨p1,p2,p3,p4,p5⟩:=h';split
    ·rename_i h41;have:=hpk a1 (by omega);refine⟨?_,?_,?_,?_,?_⟩<;>omega
    ·exact⟨p2,Or.inl rfl⟩
 ·exact⟨ha,Or.inl rfl⟩
theorem AP(hpk:∀a,pk a≠0->a<N){rec:Nat->Nat->List Key->RT}{a d:Nat}{ts:List Key}(ha:a<=N)(h:∀a' ts',pk a=40->a<a'->a'<=N->XL N a' ts' (rec a' (d+1) ts')):XJ N a ts (arg2 pk rec a d ts):=by
 unfold arg2;split
 ·rename_i h40;have hl:=hpk a (by omega);have h':=h (a+1) ts h40 (by omega) (by omega);split
  ·exact⟨ha,Or.inr rfl⟩
  ·split
   ·rename_i e he;rw[he]at h';exact h'
   ·rename_i a1 aF n1 he;rw[he]at h';obtain⟨p1,p2,p3,p4,p5⟩:=h';split
    ·rename_i h44;have hl1:=hpk a1 (by omega);have h'':=h (a1+1) aF h40 (by omega) (by omega);split
     ·rename_i e he;rw[he]at h'';exact h''
     ·rename_i a2 ts2 n2 he2;rw[he2]at h'';obtain⟨q1,q2,q3,q4,q5⟩:=h'';split
      ·have:=hpk a2 (by omega);refine⟨?_,?_,?_,?_,?_,?_⟩<;>omega
      ·exact⟨q2,Or.inl rfl⟩
    ·exact⟨p2,Or.inl rfl⟩
 ·exact⟨ha,Or.inl rfl⟩
theorem OG{c:Int}{a:Nat}{ts:List Key}{r:RT}(h:XK N (a+1) ts r):XL N a ts (fin1 c r):=by
 unfold fin1;split
 ·exact h
 ·rename_i a1 aF n1;obtain⟨p1,p2,p3,p4,p5⟩:=h;have q:=fU aF (c,n1,0);refine⟨?_,?_,?_,?_,jB _ _⟩<;>omega
theorem OE{c:Int}{a:Nat}{ts:List Key}{r:zQ}(h:XJ N (a+1) ts r):XL N a ts (fin2 c r):=by
 unfold fin2;split
 ·exact h
 ·rename_i a1 aF n1 n2;obtain⟨p1,p2,p3,p4,p5,p6⟩:=h;have q:=fU aF (c,n1,n2);refine⟨?_,?_,?_,?_,jB _ _⟩<;>omega
theorem bZ(hpk:∀a,pk a≠0->a<N):∀(n a d:Nat) (ts:List Key),a<=N->XL N a ts (dX pk n a d ts):=by
 intro n
 induction n with
 |zero=>intro a d ts ha;exact⟨ha,Or.inl rfl⟩
 |succ n ih=>
  intro a d ts ha;unfold dX;split
  ·rename_i h;have hl:a<N:=hpk a (λe=>by rw[e]at h;simp[isName]at h);have q:=fU ts (pk a,0,0);refine⟨?_,?_,?_,?_,jB _ _⟩<;>omega
  ·split
   ·rename_i h;have hl:=hpk a (by omega);exact OG (jk hpk (by omega) (λh40=>ih _ _ _ (by have:=hpk (a+1) (by omega);omega)))
   ·split
    ·rename_i h;have hl:=hpk a (by omega);exact OE (AP hpk (by omega) (λa' ts' _ _ h'=>ih _ _ _ h'))
    ·exact⟨ha,Or.inl rfl⟩
theorem OH(hpk:∀a,pk a≠0->a<N)(n a d:Nat)(ts:List Key)(cs:List (Int×Nat))(ha:a<=N):okF N a ts cs (KP pk n a d ts cs):=by
 unfold KP;have h:=bZ hpk n a d ts ha;split
 ·rename_i e he;rw[he]at h;exact h
 ·rename_i a1 aF m he;rw[he]at h;obtain⟨p1,p2,p3,p4,p5⟩:=h;split
  ·rename_i h61;have hl:=hpk a1 (by omega);have h2:=bZ hpk n (a1+1) d aF (by omega);split
   ·rename_i e he2;rw[he2]at h2;exact h2
   ·rename_i a2 ts2 m2 he2;rw[he2]at h2;obtain⟨q1,q2,q3,q4,q5⟩:=h2;refine⟨?_,?_,?_,?_,?_⟩<;>omega
  ·exact⟨p2,Or.inl rfl⟩
theorem qJ(hpk:∀a,pk a≠0->a<N):∀(n a d:Nat) (ts:List Key) (cs:List (Int×Nat)),a<=N->okF N a ts cs (Gq pk n a d ts cs):=by
 intro n
 induction n with
 |zero=>intro a d ts cs ha;exact⟨ha,Or.inl rfl⟩
 |succ n ih=>
  intro a d ts cs ha;unfold Gq;split
  ·rename_i h;have hl:=hpk a (by omega);have h':=ih (a+1) d ts cs (by omega);revert h';generalize Gq pk n (a+1) d ts cs=r;intro h'
   match r,h' with
   |.error e,h'=>exact h'
   |.ok (a1,aF,cs1),h'=>
    obtain⟨p1,p2,p3,p4,p5⟩:=h';refine⟨?_,?_,?_,?_,?_⟩<;>omega
  ·split
   ·rename_i h;have hl:=hpk a (by omega);split
    ·exact⟨ha,Or.inr rfl⟩
    ·have h':=ih (a+1) (d+1) ts cs (by omega);split
     ·rename_i e he;rw[he]at h';exact h'
     ·rename_i a1 aF cs1 he;rw[he]at h';obtain⟨p1,p2,p3,p4,p5⟩:=h';split
      ·rename_i hj;have hl1:=hpk a1 (λe=>by rw[e]at hj;simp[au]at hj);have h'':=ih (a1+1) (d+1) aF cs1 (by omega);split
       ·rename_i e he2;rw[he2]at h'';exact h''
       ·rename_i a2 ts2 cs2 he2;rw[he2]at h'';obtain⟨q1,q2,q3,q4,q5⟩:=h'';split
        ·rename_i h41;have hl2:=hpk a2 (by omega);refine⟨?_,?_,?_,?_,?_⟩<;>omega
        ·exact⟨q2,Or.inl rfl⟩
      ·exact⟨p2,Or.inl rfl⟩
   ·split
    ·rename_i h;have hl:=hpk a (by omega);have h':=jk hpk (rec:=dX pk (n+1)) (a:=a+1) (d:=d) (ts:=ts) (by omega) (λh40=>bZ hpk _ _ _ _ (by have:=hpk (a+1) (by omega);omega));revert h';generalize arg1 pk (dX pk (n+1)) (a+1) d ts=r;intro h'
     match r,h' with
     |.error e,h'=>exact h'
     |.ok (a1,aF,n1),h'=>
      obtain⟨p1,p2,p3,p4,p5⟩:=h';have q:=fU cs (pk a,n1);refine⟨?_,?_,?_,?_,?_⟩<;>omega
    ·exact OH hpk _ _ _ _ _ ha
end
abbrev RQ:Type:=Except (Int×Nat) (Nat×List Key×List (Int×Nat)×List Key×Key)
abbrev RP:Type:=Except (Int×Nat) (Nat×List Key×List (Int×Nat)×List Key×Nat)
def vF:RQ->RP
 |.error e=>.error e
 |.ok (a1,aF,cs1,ps1,q)=>.ok (a1,aF,cs1,put ps1 q,ps1.idxOf q)
def ZR:RP->RQ
 |.error e=>.error e
 |.ok (a1,aF,cs1,ps1,m)=>.ok (a1,aF,cs1,ps1,(33,m,0))
def SI(pk:Nat->Int)(n a d:Nat)(ts:List Key)(cs:List (Int×Nat))(ps:List Key):RQ:=
 match arg1 pk (dX pk n) (a+1) d ts with
 |.error e=>.error e
 |.ok (a1,aF,m)=>.ok (a1,aF,put cs (pk a,m),ps,(pk a,cs.idxOf (pk a,m),0))
def BL(pk:Nat->Int)(n a d:Nat)(ts:List Key)(cs:List (Int×Nat))(ps:List Key):RQ:=
 match dX pk n a d ts with
 |.error e=>.error e
 |.ok (a1,aF,m1)=>
  if pk a1=61 then
   match dX pk n (a1+1) d aF with
   |.error e=>.error e
   |.ok (a2,ts2,m2)=>.ok (a2,ts2,cs,ps,(61,m1,m2))
  else .error (2,a1)
def KO(pk:Nat->Int)(rec:Nat->Nat->List Key->List (Int×Nat)->List Key->RP)(a d:Nat)(ts:List Key)(cs:List (Int×Nat))(ps:List Key):RQ:=
 if d=8 then .error (3,a)else
 match rec (a+1) (d+1) ts cs ps with
 |.error e=>.error e
 |.ok (a1,aF,cs1,ps1,m1)=>
  if au (pk a1)=true then
   match rec (a1+1) (d+1) aF cs1 ps1 with
   |.error e=>.error e
   |.ok (a2,ts2,cs2,ps2,m2)=>if pk a2=41 then .ok (a2+1,ts2,cs2,ps2,(pk a1,m1,m2))else .error (2,a2)
  else .error (2,a1)
def iT(pk:Nat->Int):Nat->Nat->Nat->List Key->List (Int×Nat)->List Key->RP
 |0,a,_,_,_,_=>.error (2,a)
 |n+1,a,d,ts,cs,ps=>
  if pk a=33 then vF (ZR (iT pk n (a+1) d ts cs ps))
  else if pk a=40 then vF (KO pk (iT pk n) a d ts cs ps)
  else if pk a=80\/pk a=81 then vF (SI pk (n+1) a d ts cs ps)
  else vF (BL pk (n+1) a d ts cs ps)
def less:RP->RF
 |.error e=>.error e
 |.ok (a1,aF,cs1,_,_)=>.ok (a1,aF,cs1)
def EH:RQ->RF
 |.error e=>.error e
 |.ok (a1,aF,cs1,_,_)=>.ok (a1,aF,cs1)
theorem qM(r:RQ):less (vF r)=EH r:=by
 rcases r with e|⟨a1,aF,cs1,ps1,q⟩<;>rfl
theorem Lr(r:RP):EH (ZR r)=less r:=by
 rcases r with e|⟨a1,aF,cs1,ps1,q⟩<;>rfl
theorem mV(pk:Nat->Int):∀(n a d:Nat) (ts:List Key) (cs:List (Int×Nat)) (ps:List Key),less (iT pk n a d ts cs ps)=Gq pk n a d ts cs:=by
 intro n
 induction n with
 |zero=>intro a d ts cs ps;rfl
 |succ n ih=>
  intro a d ts cs ps;unfold iT Gq;split
  ·rw[qM,Lr,ih]
  ·split
   ·rw[qM];unfold KO;split
    ·rfl
    ·have h1:=ih (a+1) (d+1) ts cs ps;rw[<-h1];rcases iT pk n (a+1) (d+1) ts cs ps with e|⟨a1,aF,cs1,ps1,m1⟩
     ·rfl
     ·show EH (if au (pk a1)=true then _ else _)=(if au (pk a1)=true then _ else _)
      split
      ·have h2:=ih (a1+1) (d+1) aF cs1 ps1;rw[<-h2];rcases iT pk n (a1+1) (d+1) aF cs1 ps1 with e|⟨a2,ts2,cs2,ps2,m2⟩
       ·rfl
       ·show EH (if pk a2=41 then _ else _)=(if pk a2=41 then _ else _)
        split<;>rfl
      ·rfl
   ·split
    ·rw[qM];unfold SI Zo;rcases arg1 pk (dX pk (n+1)) (a+1) d ts with e|⟨a1,aF,m⟩<;>rfl
    ·rw[qM];unfold BL KP;rcases dX pk (n+1) a d ts with e|⟨a1,aF,m⟩
     ·rfl
     ·show EH (if pk a1=61 then _ else _)=(if pk a1=61 then _ else _)
      split
      ·rcases dX pk (n+1) (a1+1) d aF with e|⟨a2,ts2,m2⟩<;>rfl
      ·rfl
def ZW(N a:Nat)(ts:List Key)(cs:List (Int×Nat))(ps:List Key):RP->Prop
 |.error e=>e.2<=N/\(e.1=2\/e.1=3)
 |.ok (a1,aF,cs1,ps1,m)=>a<a1/\a1<=N/\ts.length<=aF.length/\aF.length+a<=ts.length+a1/\cs1.length+a<=cs.length+a1/\ps1.length+a<=ps.length+a1/\m<ps1.length
def XM(N a:Nat)(ts:List Key)(cs:List (Int×Nat))(ps:List Key):RQ->Prop
 |.error e=>e.2<=N/\(e.1=2\/e.1=3)
 |.ok (a1,aF,cs1,ps1,q)=>a<a1/\a1<=N/\ts.length<=aF.length/\aF.length+a<=ts.length+a1/\cs1.length+a<=cs.length+a1/\ps1.length+a+1<=ps.length+a1/\q.2.1<N+1/\q.2.2<N+1/\0<=q.1/\q.1<=255
section
variable {pk:Nat->Int} {N:Nat}
theorem sV{a:Nat}{ts:List Key}{cs:List (Int×Nat)}{ps:List Key}{r:RQ}(h:XM N a ts cs ps r):ZW N a ts cs ps (vF r):=by
 rcases r with e|⟨a1,aF,cs1,ps1,q⟩
 ·exact h
 ·obtain⟨p1,p2,p3,p4,p5,p6,_⟩:=h;have:=fU ps1 q;exact⟨p1,p2,p3,p4,p5,by omega,jB _ _⟩
theorem Td{a:Nat}{ts:List Key}{cs:List (Int×Nat)}{ps:List Key}{r:RP}(hp:ps.length<=a)(h:ZW N (a+1) ts cs ps r):XM N a ts cs ps (ZR r):=by
 rcases r with e|⟨a1,aF,cs1,ps1,m⟩
 ·exact h
 ·obtain⟨p1,p2,p3,p4,p5,p6,p7⟩:=h;refine⟨?_,?_,?_,?_,?_,?_,?_,?_,?_,?_⟩<;>(try simp)<;>omega
theorem Ti(hpk:∀a,pk a≠0->a<N)(hbd:∀a,0<=pk a/\pk a<=255){n a d:Nat}{ts:List Key}{cs:List (Int×Nat)}{ps:List Key}(ha:a<N)(hc:cs.length<=a):XM N a ts cs ps (SI pk n a d ts cs ps):=by
 have h':=jk hpk (rec:=dX pk n) (a:=a+1) (d:=d) (ts:=ts) (by omega) (λh40=>bZ hpk _ _ _ _ (by have:=hpk (a+1) (by omega);omega));unfold SI;split
 ·rename_i e he;rw[he]at h';exact h'
 ·rename_i a1 aF m he;rw[he]at h';obtain⟨p1,p2,p3,p4,p5⟩:=h';have q:=fU cs (pk a,m);have:=hbd a;have hi:cs.idxOf (pk a,m)<=cs.length:=ak8;refine⟨?_,?_,?_,?_,?_,?_,?_,?_,?_,?_⟩<;>(try simp)<;>omega
theorem Jo(hpk:∀a,pk a≠0->a<N){n a d:Nat}{ts:List Key}{cs:List (Int×Nat)}{ps:List Key}(ha:a<=N)(ht:ts.length<=a):XM N a ts cs ps (BL pk n a d ts cs ps):=by
 have h:=bZ hpk n a d ts ha;unfold BL;split
 ·rename_i e he;rw[he]at h;exact h
 ·rename_i a1 aF m he;rw[he]at h;obtain⟨p1,p2,p3,p4,p5⟩:=h;split
  ·rename_i h61;have hl:=hpk a1 (by omega);have h2:=bZ hpk n (a1+1) d aF (by omega);split
   ·rename_i e he2;rw[he2]at h2;exact h2
   ·rename_i a2 ts2 m2 he2;rw[he2]at h2;obtain⟨q1,q2,q3,q4,q5⟩:=h2;refine⟨?_,?_,?_,?_,?_,?_,?_,?_,?_,?_⟩<;>(try simp)<;>omega
  ·exact⟨p2,Or.inl rfl⟩
theorem qI(hpk:∀a,pk a≠0->a<N)(hbd:∀a,0<=pk a/\pk a<=255):∀(n a d:Nat) (ts:List Key) (cs:List (Int×Nat)) (ps:List Key),a<=N->ts.length<=a->cs.length<=a->ps.length<=a->ZW N a ts cs ps (iT pk n a d ts cs ps):=by
 intro n
 induction n with
 |zero=>intro a d ts cs ps ha _ _ _;exact⟨ha,Or.inl rfl⟩
 |succ n ih=>
  intro a d ts cs ps ha ht hc hp;unfold iT;split
  ·rename_i e;have:=hpk a (by omega);exact sV (Td hp (ih (a+1) d ts cs ps (by omega) (by omega) (by omega) (by omega)))
  ·split
   ·rename_i e;have hl:=hpk a (by omega);refine sV ?_;unfold KO;split
    ·exact⟨by omega,Or.inr rfl⟩
    ·have h':=ih (a+1) (d+1) ts cs ps (by omega) (by omega) (by omega) (by omega);split
     ·rename_i e he;rw[he]at h';exact h'
     ·rename_i a1 aF cs1 ps1 m1 he;rw[he]at h';obtain⟨p1,p2,p3,p4,p5,p6,p7⟩:=h';split
      ·rename_i hj;have hl1:=hpk a1 (λe=>by rw[e]at hj;simp[au]at hj);have h'':=ih (a1+1) (d+1) aF cs1 ps1 (by omega) (by omega) (by omega) (by omega);split
       ·rename_i e he2;rw[he2]at h'';exact h''
       ·rename_i a2 ts2 cs2 ps2 m2 he2;rw[he2]at h'';obtain⟨q1,q2,q3,q4,q5,q6,q7⟩:=h'';split
        ·rename_i h41;have hl2:=hpk a2 (by omega);have:=hbd a1;refine⟨?_,?_,?_,?_,?_,?_,?_,?_,?_,?_⟩<;>(try simp)<;>omega
        ·exact⟨q2,Or.inl rfl⟩
      ·exact⟨p2,Or.inl rfl⟩
   ·split
    ·rename_i e;have hl:=hpk a (by omega);exact sV (Ti hpk hbd hl hc)
    ·exact sV (Jo hpk ha ht)
theorem Tf(hpk:∀a,pk a≠0->a<N)(hbd:∀a,0<=pk a/\pk a<=255){n a d:Nat}{ts:List Key}{cs:List (Int×Nat)}{ps:List Key}(ha:a<N)(ht:ts.length<=a)(hc:cs.length<=a)(hp:ps.length<=a):XM N a ts cs ps (KO pk (iT pk n) a d ts cs ps):=by
 unfold KO;split
 ·exact⟨by omega,Or.inr rfl⟩
 ·have h':=qI hpk hbd n (a+1) (d+1) ts cs ps (by omega) (by omega) (by omega) (by omega);split
  ·rename_i e he;rw[he]at h';exact h'
  ·rename_i a1 aF cs1 ps1 m1 he;rw[he]at h';obtain⟨p1,p2,p3,p4,p5,p6,p7⟩:=h';split
   ·rename_i hj;have hl1:=hpk a1 (λe=>by rw[e]at hj;simp[au]at hj);have h'':=qI hpk hbd n (a1+1) (d+1) aF cs1 ps1 (by omega) (by omega) (by omega) (by omega);split
    ·rename_i e he2;rw[he2]at h'';exact h''
    ·rename_i a2 ts2 cs2 ps2 m2 he2;rw[he2]at h'';obtain⟨q1,q2,q3,q4,q5,q6,q7⟩:=h'';split
     ·rename_i h41;have hl2:=hpk a2 (by omega);have:=hbd a1;refine⟨?_,?_,?_,?_,?_,?_,?_,?_,?_,?_⟩<;>(try simp)<;>omega
     ·exact⟨q2,Or.inl rfl⟩
   ·exact⟨p2,Or.inl rfl⟩
end
end aB
open Go.RowKit Go.Maps Go.WideMaps
open aB (Key put)
theorem aj{p:Prop}(h:p):Hid p:=h
theorem ah{p:Prop}(h:Hid p):p:=h
theorem laidOut:laidOutB prog=true:=by kernel_rfl
theorem rowT:(87:TypeId)<prog.types.size:=aj1 (by kernel_rfl)
theorem rowP:(93:TypeId)<prog.types.size:=aj1 (by kernel_rfl)
theorem Vo:(90:TypeId)<prog.types.size:=aj1 (by kernel_rfl)
theorem Xw:(match prog.underlying 87 with|some (.array _ _)|some (.struct _)=>true|_=>false)=true:=by kernel_rfl
theorem Xx:(match prog.underlying 93 with|some (.array _ _)|some (.struct _)=>true|_=>false)=true:=by kernel_rfl
theorem Xy:(match prog.underlying 90 with|some (.array _ _)|some (.struct _)=>true|_=>false)=true:=by kernel_rfl
theorem qW:Keyed prog 87:=Keyed.of_law (deep_law_laid laidOut (m:=2) (by omega) rowT (by kernel_rfl) Xw)
theorem oN:Keyed prog 93:=Keyed.of_law (deep_law_laid laidOut (m:=2) (by omega) rowP (by kernel_rfl) Xx)
theorem qX:Keyed prog 90:=Keyed.of_law (deep_law_laid laidOut (m:=2) (by omega) Vo (by kernel_rfl) Xy)
theorem zeroE(w:World):(zeroValue 3).run prog w=.ok (.int .i64 0) w:=by kernel_rfl
def aS(k:Key):Value:=.agg #[.int .u8 k.1,.int .i64 k.2.1,.int .i64 k.2.2]
def jg(k:Int×Nat):Value:=.agg #[.int .u8 k.1,.int .i64 k.2]
theorem qN{a b:Key}(h:aS a=aS b):a=b:=by
 obtain⟨a1,a2,a3⟩:=a;obtain⟨b1,b2,b3⟩:=b;simp[aS]at h;obtain⟨h1,h2,h3⟩:=h;simp;omega
theorem BX{a b:Int×Nat}(h:jg a=jg b):a=b:=by
 obtain⟨a1,a2⟩:=a;obtain⟨b1,b2⟩:=b;simp[jg]at h;obtain⟨h1,h2⟩:=h;simp;omega
theorem Dx:prog.cellsOf 87=3:=by kernel_rfl
theorem Dy:prog.cellsOf 93=3:=by kernel_rfl
theorem Dz:prog.cellsOf 90=2:=by kernel_rfl
theorem vM:prog.cellsOf 3=1:=by kernel_rfl
theorem vK:prog.cellsOf 5=1:=by kernel_rfl
theorem O1(n:Nat)(a:Int)(w1:(Lit.int .u8 a).wf=true):prog.keyLits (n+1) 5 [.int .u8 a]=some [.int .u8 a]:=by
 simp only[Program.keyLits,underlying5,w1,and_self,aj0]
theorem EG(n:Nat)(a:Int)(w1:(Lit.int .i64 a).wf=true):prog.keyLits (n+1) 3 [.int .i64 a]=some [.int .i64 a]:=by
 simp only[Program.keyLits,underlying3,w1,and_self,aj0]
theorem XQ(n:Nat)(a b c:Int)(w1:(Lit.int .u8 a).wf=true)(w2:(Lit.int .i64 b).wf=true)(w3:(Lit.int .i64 c).wf=true) :
  prog.keyLits (n+2) 87 [.int .u8 a,.int .i64 b,.int .i64 c]=some [.int .u8 a,.int .i64 b,.int .i64 c]:=by
 unfold Program.keyLits;simp only[underlying87,Dx];rw[ae2 ⟨rfl,by kernel_rfl⟩];simp only[aq7,ar5,vM,vK,List.drop,List.take,O1 _ a w1,EG _ b w2,EG _ c w3];rfl
theorem XR(n:Nat)(a b c:Int)(w1:(Lit.int .u8 a).wf=true)(w2:(Lit.int .i64 b).wf=true)(w3:(Lit.int .i64 c).wf=true) :
  prog.keyLits (n+2) 93 [.int .u8 a,.int .i64 b,.int .i64 c]=some [.int .u8 a,.int .i64 b,.int .i64 c]:=by
 unfold Program.keyLits;simp only[underlying93,Dy];rw[ae2 ⟨rfl,by kernel_rfl⟩];simp only[aq7,ar5,vM,vK,List.drop,List.take,O1 _ a w1,EG _ b w2,EG _ c w3];rfl
theorem XT(n:Nat)(a b:Int)(w1:(Lit.int .u8 a).wf=true)(w2:(Lit.int .i64 b).wf=true) :
  prog.keyLits (n+2) 90 [.int .u8 a,.int .i64 b]=some [.int .u8 a,.int .i64 b]:=by
 unfold Program.keyLits;simp only[underlying90,Dz];rw[ae2 ⟨rfl,by kernel_rfl⟩];simp only[aq7,ar5,vM,vK,List.drop,List.take,O1 _ a w1,EG _ b w2];rfl
theorem ktT:prog.keyType 87=true:=by kernel_rfl
theorem ktP:prog.keyType 93=true:=by kernel_rfl
theorem ktC:prog.keyType 90=true:=by kernel_rfl
theorem Vf(x:Nat)(h:0<x):∃n,x+1=n+2:=⟨x-1,by omega⟩
theorem uI:∃n,prog.types.size+1=n+2:=Vf _ (Nat.lt_of_le_of_lt (ag3 _) rowT)
theorem nR{P:Program}{k:TypeId}{fs:Array Field}{v:Value}{ls:List Lit}(hu:P.underlying k=some (.struct fs))(hk:P.keyType k=true)(hf:v.formed P k=true)
 (hl:P.keyLits (P.types.size+1) k v.cells.toList=some ls):keyOf P k v=some (.string (keyBytes ls)):=by
 simp[keyOf,hu,hk,hf,hl]
theorem LV(k:Key)(h1:0<=k.1/\k.1<=255)(h2:k.2.1<=1000)(h3:k.2.2<=1000):∃l,keyOf prog 87 (aS k)=some l:=by
 have w1:(Lit.int .u8 k.1).wf=true:=WalkArith.wf_u8 (by omega);have w2:(Lit.int .i64 k.2.1).wf=true:=WalkArith.wf_i64 (by omega);have w3:(Lit.int .i64 k.2.2).wf=true:=WalkArith.wf_i64 (by omega);obtain⟨n,hn⟩:=uI;have hf:(aS k).formed prog 87=true:=by simp only[aS,Value.formed,underlying87,Dx];rfl
 exact⟨_,nR underlying87 ktT hf (by rw[hn];exact XQ n _ _ _ w1 w2 w3)⟩
theorem LW(k:Key)(h1:0<=k.1/\k.1<=255)(h2:k.2.1<=1000)(h3:k.2.2<=1000):∃l,keyOf prog 93 (aS k)=some l:=by
 have w1:(Lit.int .u8 k.1).wf=true:=WalkArith.wf_u8 (by omega);have w2:(Lit.int .i64 k.2.1).wf=true:=WalkArith.wf_i64 (by omega);have w3:(Lit.int .i64 k.2.2).wf=true:=WalkArith.wf_i64 (by omega);obtain⟨n,hn⟩:=uI;have hf:(aS k).formed prog 93=true:=by simp only[aS,Value.formed,underlying93,Dy];rfl
 exact⟨_,nR underlying93 ktP hf (by rw[hn];exact XR n _ _ _ w1 w2 w3)⟩
theorem Tt(k:Int×Nat)(h1:0<=k.1/\k.1<=255)(h2:k.2<=1000):∃l,keyOf prog 90 (jg k)=some l:=by
 have w1:(Lit.int .u8 k.1).wf=true:=WalkArith.wf_u8 (by omega);have w2:(Lit.int .i64 k.2).wf=true:=WalkArith.wf_i64 (by omega);obtain⟨n,hn⟩:=uI;have hf:(jg k).formed prog 90=true:=by simp only[jg,Value.formed,underlying90,Dz];rfl
 exact⟨_,nR underlying90 ktC hf (by rw[hn];exact XT n _ _ w1 w2)⟩
def aH{α:Type}[BEq α](w:World)(k b:Nat)(kv:α->Value)(ts:List α):Prop:=
 ∃D:DataW Unit,w.ownsMap prog k (plainElem prog 3) b ts.length D/\Maps.size D=ts.length/\
  (∀x l,keyOf prog k (kv x)=some l->Maps.has D l=ts.contains x/\(ts.contains x=true->D.atKey l (.lit (.int .i64 0))=.lit (.int .i64 (ts.idxOf x))))/\
  ∀l,Maps.has D l=true->∃x,ts.contains x=true/\keyOf prog k (kv x)=some l
section
variable {α:Type} [BEq α] {w w':World} {k b:Nat} {kv:α->Value} {ts:List α}
theorem aH.lt(h:aH w k b kv ts):b<w.heap.size:=by
 obtain⟨D,h1,_⟩:=h;exact h1.lt
theorem aH.kept(h:aH w k b kv ts)(hb:w'.heap[b]?=w.heap[b]?):aH w' k b kv ts:=by
 obtain⟨D,⟨es,clock,h1,h2⟩,h3⟩:=h;exact⟨D,⟨es,clock,hb.trans h1,h2⟩,h3⟩
theorem jm(w:World)(k:Nat)(kv:α->Value):aH (w.alloc (.map #[] 0)) k w.heap.size kv ([]:List α):=
 ⟨.map [],World.ownsMap_made w _ _ _,rfl,λx l _=>⟨rfl,λh=>by simp at h⟩,λl h=>by cases h⟩
theorem qL[LawfulBEq α]{D:DataW Unit}(hinj:∀a b:α,kv a=kv b->a=b)(K:Keyed prog k)
 (h2:Maps.size D=ts.length)(h3:∀x l,keyOf prog k (kv x)=some l->Maps.has D l=ts.contains x/\(ts.contains x=true->D.atKey l (.lit (.int .i64 0))=.lit (.int .i64 (ts.idxOf x))))
 (h3':∀l,Maps.has D l=true->∃x,ts.contains x=true/\keyOf prog k (kv x)=some l)(h4:Tidy D){x:α}{l:Lit}(hl:keyOf prog k (kv x)=some l)(hx:ts.contains x=false)
 (h5:w'.ownsMap prog k (plainElem prog 3) b (ts.length+1) (D.put l (.lit (.int .i64 ts.length)))) :
  aH w' k b kv (ts++[x]):=by
 have hx':¬x∈ts:=by simpa using hx
 refine⟨_,by simpa using h5,?_,?_,?_⟩
 ·rw[size_put h4,(h3 x l hl).1,hx];simp[h2]
 ·intro y m hm;by_cases e:m=l
  ·subst e;have:y=x:=hinj _ _ (K.inj hm hl);subst this;refine⟨by rw[has_put_same h4.isMap (K.key hl)];simp,λ_=>?_⟩;rw[atKey_put_same h4.isMap (K.key hl)];simp[aj2,hx']
  ·have hne:y≠x:=λe'=>e (by subst e';rw[hm]at hl;exact aj6 hl);rw[has_put_other e,atKey_put_other e,(h3 y m hm).1];refine⟨by simp[hne],λhy=>?_⟩;have hy':y∈ts:=(by simpa[hne]using hy);rw[(h3 y m hm).2 (by simpa using hy')];simp[aj2,hy']
 ·intro m hm;by_cases e:m=l
  ·subst e;exact⟨x,by simp,hl⟩
  ·rw[has_put_other e]at hm;obtain⟨y,hy,hk⟩:=h3' m hm;exact⟨y,by simp at hy ⊢;exact Or.inl hy,hk⟩
end
theorem gZ{k:IntKind}{a b:Int}(h:a=b):Ending.returned (.int k a)=.returned (.int k b):=by rw[h]
theorem OJ(BT:Nat)(ts:List Key)(c:Int)(x y:Nat)(w:World)(h1:0<=c/\c<=255)(h2:x<=1000)(h3:y<=1000)(hl:ts.length<=1000)(hM:aH w 87 BT aS ts) :
  Calls prog 159 #[.map (some BT),.agg #[.int .u8 c,.int .i64 x,.int .i64 y]] w λe w'=>
   e=.returned (.int .i64 (ts.idxOf (c,x,y)))/\aH w' 87 BT aS (put ts (c,x,y))/\w.grownBy w' (some BT):=by
 obtain⟨l,hkey⟩:=LV (c,x,y) h1 h2 h3;obtain⟨D,hown,hsz,hall,hback⟩:=hM;have hk0:=hall _ _ hkey;have fZ:=hown.tidy qW;have hkey':keyOf prog 87 (.agg #[.int .u8 c,.int .i64 x,.int .i64 y])=some l:=hkey;have gX:=aj hall;have jJ:=aj hback;have oK:=aj hsz;have HK:=aj hkey;clear hall hsz hkey hback;cases hc:ts.contains (c,x,y)
 ·rw[hc]at hk0;have hhas:Maps.has D l=false:=hk0.1;clear hk0;have HC:=aj hc;clear hc
  go_enter func159,ntmps159
  go_wp2_with (first
   |(at_lookup;refine wpList_lookup_own_ok_int _ rfl _ _ 76 rfl 87 3 .i64 qW underlying76 underlying3 (zeroE _) BT ts.length D rfl (hown.alloc _) _ l rfl hkey' ?_;intro c0 hat hwc)
   |(at_len;refine wpList_len_own _ rfl _ 76 rfl 87 3 underlying76 _ BT ts.length D rfl (hown.alloc _) ?_)
   |(at_mapUpdate;refine wpList_mapUpdate_own _ rfl _ _ _ 76 rfl 87 3 qW underlying76 _ BT ts.length D rfl (hown.alloc _) (by unfold maxLen;omega) _ _ l rfl rfl hkey' _ [] (plainElem_int underlying3 (WalkArith.wf_i64 (by have:=ah oK;omega))) ?_;intro w1 hown1 hgrow1))
  go_ret
  have hsz:=ah oK;have hc:=ah HC;have hn:¬(c,x,y)∈ts:=by simpa using hc
  refine⟨gZ ?_,?_,(World.grownBy_alloc _ _ _).trans hgrow1⟩
  ·rw[hsz,ag4 hn]
  ·have hp:put ts (c,x,y)=ts++[(c,x,y)]:=(by unfold put;rw[hc];rfl);rw[hp];rw[hsz]at hown1;exact qL (λ_ _=>qN) qW hsz (ah gX) (ah jJ) fZ (ah HK) hc hown1
 ·rw[hc]at hk0;have hhas:Maps.has D l=true:=hk0.1;have HAT:=aj (hk0.2 rfl);clear hk0;have HC:=aj hc;clear hc
  go_enter func159,ntmps159
  go_wp2_with (first
   |(at_lookup;refine wpList_lookup_own_ok_int _ rfl _ _ 76 rfl 87 3 .i64 qW underlying76 underlying3 (zeroE _) BT ts.length D rfl (hown.alloc _) _ l rfl hkey' ?_;intro c0 hat hwc))
  go_ret
  have hc:=ah HC;refine⟨gZ ?_,?_,World.grownBy_alloc _ _ _⟩
  ·have h:=hat.symm.trans (ah HAT);simpa using h
  ·have hp:put ts (c,x,y)=ts:=(by unfold put;rw[hc];rfl);rw[hp];exact⟨D,hown.alloc _,ah oK,ah gX,ah jJ⟩
theorem Eu(BT:Nat)(ts:List Key)(c:Int)(x y:Nat)(w:World)(h1:0<=c/\c<=255)(h2:x<=1000)(h3:y<=1000)(hl:ts.length<=1000)(hM:aH w 93 BT aS ts) :
  Calls prog 67 #[.map (some BT),.agg #[.int .u8 c,.int .i64 x,.int .i64 y]] w λe w'=>
   e=.returned (.int .i64 (ts.idxOf (c,x,y)))/\aH w' 93 BT aS (put ts (c,x,y))/\w.grownBy w' (some BT):=by
 obtain⟨l,hkey⟩:=LW (c,x,y) h1 h2 h3;obtain⟨D,hown,hsz,hall,hback⟩:=hM;have hk0:=hall _ _ hkey;have fZ:=hown.tidy oN;have hkey':keyOf prog 93 (.agg #[.int .u8 c,.int .i64 x,.int .i64 y])=some l:=hkey;have gX:=aj hall;have jJ:=aj hback;have oK:=aj hsz;have HK:=aj hkey;clear hall hsz hkey hback;cases hc:ts.contains (c,x,y)
 ·rw[hc]at hk0;have hhas:Maps.has D l=false:=hk0.1;clear hk0;have HC:=aj hc;clear hc
  go_enter func67,ntmps67
  go_wp2_with (first
   |(at_lookup;refine wpList_lookup_own_ok_int _ rfl _ _ 80 rfl 93 3 .i64 oN underlying80 underlying3 (zeroE _) BT ts.length D rfl (hown.alloc _) _ l rfl hkey' ?_;intro c0 hat hwc)
   |(at_len;refine wpList_len_own _ rfl _ 80 rfl 93 3 underlying80 _ BT ts.length D rfl (hown.alloc _) ?_)
   |(at_mapUpdate;refine wpList_mapUpdate_own _ rfl _ _ _ 80 rfl 93 3 oN underlying80 _ BT ts.length D rfl (hown.alloc _) (by unfold maxLen;omega) _ _ l rfl rfl hkey' _ [] (plainElem_int underlying3 (WalkArith.wf_i64 (by have:=ah oK;omega))) ?_;intro w1 hown1 hgrow1))
  go_ret
  have hsz:=ah oK;have hc:=ah HC;have hn:¬(c,x,y)∈ts:=by simpa using hc
  refine⟨gZ ?_,?_,(World.grownBy_alloc _ _ _).trans hgrow1⟩
  ·rw[hsz,ag4 hn]
  ·have hp:put ts (c,x,y)=ts++[(c,x,y)]:=(by unfold put;rw[hc];rfl);rw[hp];rw[hsz]at hown1;exact qL (λ_ _=>qN) oN hsz (ah gX) (ah jJ) fZ (ah HK) hc hown1
 ·rw[hc]at hk0;have hhas:Maps.has D l=true:=hk0.1;have HAT:=aj (hk0.2 rfl);clear hk0;have HC:=aj hc;clear hc
  go_enter func67,ntmps67
  go_wp2_with (first
   |(at_lookup;refine wpList_lookup_own_ok_int _ rfl _ _ 80 rfl 93 3 .i64 oN underlying80 underlying3 (zeroE _) BT ts.length D rfl (hown.alloc _) _ l rfl hkey' ?_;intro c0 hat hwc))
  go_ret
  have hc:=ah HC;refine⟨gZ ?_,?_,World.grownBy_alloc _ _ _⟩
  ·have h:=hat.symm.trans (ah HAT);simpa using h
  ·have hp:put ts (c,x,y)=ts:=(by unfold put;rw[hc];rfl);rw[hp];exact⟨D,hown.alloc _,ah oK,ah gX,ah jJ⟩
theorem OO(BT:Nat)(ts:List (Int×Nat))(c:Int)(x:Nat)(w:World)(h1:0<=c/\c<=255)(h2:x<=1000)(hl:ts.length<=1000)(hM:aH w 90 BT jg ts) :
  Calls prog 108 #[.map (some BT),.agg #[.int .u8 c,.int .i64 x]] w λe w'=>
   e=.returned (.int .i64 (ts.idxOf (c,x)))/\aH w' 90 BT jg (put ts (c,x))/\w.grownBy w' (some BT):=by
 obtain⟨l,hkey⟩:=Tt (c,x) h1 h2;obtain⟨D,hown,hsz,hall,hback⟩:=hM;have hk0:=hall _ _ hkey;have fZ:=hown.tidy qX;have hkey':keyOf prog 90 (.agg #[.int .u8 c,.int .i64 x])=some l:=hkey;have gX:=aj hall;have jJ:=aj hback;have oK:=aj hsz;have HK:=aj hkey;clear hall hsz hkey hback;cases hc:ts.contains (c,x)
 ·rw[hc]at hk0;have hhas:Maps.has D l=false:=hk0.1;clear hk0;have HC:=aj hc;clear hc
  go_enter func108,ntmps108
  go_wp2_with (first
   |(at_lookup;refine wpList_lookup_own_ok_int _ rfl _ _ 78 rfl 90 3 .i64 qX underlying78 underlying3 (zeroE _) BT ts.length D rfl (hown.alloc _) _ l rfl hkey' ?_;intro c0 hat hwc)
   |(at_len;refine wpList_len_own _ rfl _ 78 rfl 90 3 underlying78 _ BT ts.length D rfl (hown.alloc _) ?_)
   |(at_mapUpdate;refine wpList_mapUpdate_own _ rfl _ _ _ 78 rfl 90 3 qX underlying78 _ BT ts.length D rfl (hown.alloc _) (by unfold maxLen;omega) _ _ l rfl rfl hkey' _ [] (plainElem_int underlying3 (WalkArith.wf_i64 (by have:=ah oK;omega))) ?_;intro w1 hown1 hgrow1))
  go_ret
  have hsz:=ah oK;have hc:=ah HC;have hn:¬(c,x)∈ts:=by simpa using hc
  refine⟨gZ ?_,?_,(World.grownBy_alloc _ _ _).trans hgrow1⟩
  ·rw[hsz,ag4 hn]
  ·have hp:put ts (c,x)=ts++[(c,x)]:=(by unfold put;rw[hc];rfl);rw[hp];rw[hsz]at hown1;exact qL (λ_ _=>BX) qX hsz (ah gX) (ah jJ) fZ (ah HK) hc hown1
 ·rw[hc]at hk0;have hhas:Maps.has D l=true:=hk0.1;have HAT:=aj (hk0.2 rfl);clear hk0;have HC:=aj hc;clear hc
  go_enter func108,ntmps108
  go_wp2_with (first
   |(at_lookup;refine wpList_lookup_own_ok_int _ rfl _ _ 78 rfl 90 3 .i64 qX underlying78 underlying3 (zeroE _) BT ts.length D rfl (hown.alloc _) _ l rfl hkey' ?_;intro c0 hat hwc))
  go_ret
  have hc:=ah HC;refine⟨gZ ?_,?_,World.grownBy_alloc _ _ _⟩
  ·have h:=hat.symm.trans (ah HAT);simpa using h
  ·have hp:put ts (c,x)=ts:=(by unfold put;rw[hc];rfl);rw[hp];exact⟨D,hown.alloc _,ah oK,ah gX,ah jJ⟩
end Go.Proofs.YthcppbmkacbbiaaGreat
