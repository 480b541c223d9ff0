import Derived.Test.YthcppbmkacbbiabGreatWc
set_option linter.unusedSimpArgs false
namespace Go.Proofs.YthcppbmkacbbiabGreat
namespace aB
abbrev Key:Type:=Int×Nat×Nat
abbrev RT:Type:=Except (Int×Nat) (Nat×List Key×Nat)
abbrev wZ:Type:=Except (Int×Nat) (Nat×List Key×Nat×Nat)
abbrev RF:Type:=Except (Int×Nat) (Nat×List Key×List (Int×Nat))
def put{α:Type}[BEq α](l:List α)(k:α):List α:=if l.contains k then l else l++[k]
def isName(c:Int):Bool:=decide (97<=c)&&decide (c<=101)
def au(c:Int):Bool:=c==38||c==124||c==62||c==45
def arg1(pk:Nat->Int)(rec:Nat->Nat->List Key->RT)(a d:Nat)(ts:List Key):RT:=
 if pk a=40 then
  if d=8 then .error (3,a)else
  match rec (a+1) (d+1) ts with
  |.error e=>.error e
  |.ok (a1,aF,n1)=>if pk a1=41 then .ok (a1+1,aF,n1)else .error (2,a1)
 else .error (2,a)
def arg2(pk:Nat->Int)(rec:Nat->Nat->List Key->RT)(a d:Nat)(ts:List Key):wZ:=
 if pk a=40 then
  if d=8 then .error (3,a)else
  match rec (a+1) (d+1) ts with
  |.error e=>.error e
  |.ok (a1,aF,n1)=>
   if pk a1=44 then
    match rec (a1+1) (d+1) aF with
    |.error e=>.error e
    |.ok (a2,ts2,n2)=>if pk a2=41 then .ok (a2+1,ts2,n1,n2)else .error (2,a2)
   else .error (2,a1)
 else .error (2,a)
def fin1(c:Int):RT->RT
 |.error e=>.error e
 |.ok (a1,aF,n1)=>.ok (a1,put aF (c,n1,0),aF.idxOf (c,n1,0))
def fin2(c:Int):wZ->RT
 |.error e=>.error e
 |.ok (a1,aF,n1,n2)=>.ok (a1,put aF (c,n1,n2),aF.idxOf (c,n1,n2))
def dR(pk:Nat->Int):Nat->Nat->Nat->List Key->RT
 |0,a,_,_=>.error (2,a)
 |n+1,a,d,ts=>
  if isName (pk a)=true then .ok (a+1,put ts (pk a,0,0),ts.idxOf (pk a,0,0))
  else if pk a=102 then fin1 102 (arg1 pk (dR pk n) (a+1) d ts)
  else if pk a=103 then fin2 103 (arg2 pk (dR pk n) (a+1) d ts)
  else .error (2,a)
def Z7(c:Int)(cs:List (Int×Nat)):RT->RF
 |.error e=>.error e
 |.ok (a1,aF,n1)=>.ok (a1,aF,put cs (c,n1))
def Lp(pk:Nat->Int)(n a d:Nat)(ts:List Key)(cs:List (Int×Nat)):RF:=
 match dR pk n a d ts with
 |.error e=>.error e
 |.ok (a1,aF,_)=>
  if pk a1=61 then
   match dR pk n (a1+1) d aF with
   |.error e=>.error e
   |.ok (a2,ts2,_)=>.ok (a2,ts2,cs)
  else .error (2,a1)
def Gu(pk:Nat->Int):Nat->Nat->Nat->List Key->List (Int×Nat)->RF
 |0,a,_,_,_=>.error (2,a)
 |n+1,a,d,ts,cs=>
  if pk a=33 then Gu pk n (a+1) d ts cs
  else if pk a=40 then
   if d=8 then .error (3,a)else
   match Gu pk n (a+1) (d+1) ts cs with
   |.error e=>.error e
   |.ok (a1,aF,cs1)=>
    if au (pk a1)=true then
     match Gu pk n (a1+1) (d+1) aF cs1 with
     |.error e=>.error e
     |.ok (a2,ts2,cs2)=>if pk a2=41 then .ok (a2+1,ts2,cs2)else .error (2,a2)
    else .error (2,a1)
  else if pk a=80\/pk a=81 then Z7 (pk a) cs (arg1 pk (dR pk (n+1)) (a+1) d ts)
  else Lp pk (n+1) a d ts cs
def check(pk:Nat->Int)(N:Nat):Int×Nat:=
 match Gu pk (N+1) 0 0 [] []with
 |.error e=>e
 |.ok (a1,ts,cs)=>if a1<N then(2,a1)else if 7<ts.length\/4<cs.length then(4,0)else(0,0)
theorem gY{α:Type}[BEq α](l:List α)(k:α):l.length<=(put l k).length/\(put l k).length<=l.length+1:=by
 unfold put;split<;>simp
theorem jK{α:Type}[BEq α][LawfulBEq α](l:List α)(k:α):l.idxOf k<(put l k).length:=by
 unfold put;by_cases h:k∈l
 ·rw[af6 (by simpa using h)];exact ah9 h
 ·rw[af2 (by simpa using h)];simp[ai9 h]
def Yq(N a:Nat)(ts:List Key):RT->Prop
 |.error e=>e.2<=N/\(e.1=2\/e.1=3)
 |.ok (a1,aF,m)=>a<a1/\a1<=N/\ts.length<=aF.length/\aF.length+a<=ts.length+a1/\m<aF.length
def Yo(N a:Nat)(ts:List Key):wZ->Prop
 |.error e=>e.2<=N/\(e.1=2\/e.1=3)
 |.ok (a1,aF,m,m2)=>a<a1/\a1<=N/\ts.length<=aF.length/\aF.length+a+1<=ts.length+a1/\m<aF.length/\m2<aF.length
def Yp(N a:Nat)(ts:List Key):RT->Prop
 |.error e=>e.2<=N/\(e.1=2\/e.1=3)
 |.ok (a1,aF,m)=>a<a1/\a1<=N/\ts.length<=aF.length/\aF.length+a+1<=ts.length+a1/\m<aF.length
def okF(N a:Nat)(ts:List Key)(cs:List (Int×Nat)):RF->Prop
 |.error e=>e.2<=N/\(e.1=2\/e.1=3)
 |.ok (a1,aF,cs1)=>a<a1/\a1<=N/\ts.length<=aF.length/\aF.length+a<=ts.length+a1/\cs1.length+a<=cs.length+a1
section
variable {pk:Nat->Int} {N:Nat}
theorem iZ(hpk:∀a,pk a≠0->a<N){rec:Nat->Nat->List Key->RT}{a d:Nat}{ts:List Key}(ha:a<=N)(h:pk a=40->Yq N (a+1) ts (rec (a+1) (d+1) ts)):Yp N a ts (arg1 pk rec a d ts):=by
 unfold arg1;split
 ·rename_i h40;have hl:=hpk a (by omega);have h':=h h40;split
  ·exact⟨ha,Or.inr rfl⟩
  ·split
   ·rename_i e he;rw[he]at h';exact h'
   ·rename_i a1 aF n1 he;rw[he]at h';obtain⟨p1,p2,p3,p4,p5⟩:=h';split
    ·rename_i h41;have:=hpk a1 (by omega);refine⟨?_,?_,?_,?_,?_⟩<;>omega
    ·exact⟨p2,Or.inl rfl⟩
 ·exact⟨ha,Or.inl rfl⟩
theorem Bc(hpk:∀a,pk a≠0->a<N){rec:Nat->Nat->List Key->RT}{a d:Nat}{ts:List Key}(ha:a<=N)(h:∀a' ts',pk a=40->a<a'->a'<=N->Yq N a' ts' (rec a' (d+1) ts')):Yo N a ts (arg2 pk rec a d ts):=by
 unfold arg2;split
 ·rename_i h40;have hl:=hpk a (by omega);have h':=h (a+1) ts h40 (by omega) (by omega);split
  ·exact⟨ha,Or.inr rfl⟩
  ·split
   ·rename_i e he;rw[he]at h';exact h'
   ·rename_i a1 aF n1 he;rw[he]at h';obtain⟨p1,p2,p3,p4,p5⟩:=h';split
    ·rename_i h44;have hl1:=hpk a1 (by omega);have h'':=h (a1+1) aF h40 (by omega) (by omega);split
     ·rename_i e he;rw[he]at h'';exact h''
     ·rename_i a2 ts2 n2 he2;rw[he2]at h'';obtain⟨q1,q2,q3,q4,q5⟩:=h'';split
      ·have:=hpk a2 (by omega);refine⟨?_,?_,?_,?_,?_,?_⟩<;>omega
      ·exact⟨q2,Or.inl rfl⟩
    ·exact⟨p2,Or.inl rfl⟩
 ·exact⟨ha,Or.inl rfl⟩
theorem O8{c:Int}{a:Nat}{ts:List Key}{r:RT}(h:Yp N (a+1) ts r):Yq N a ts (fin1 c r):=by
 unfold fin1;split
 ·exact h
 ·rename_i a1 aF n1;obtain⟨p1,p2,p3,p4,p5⟩:=h;have q:=gY aF (c,n1,0);refine⟨?_,?_,?_,?_,jK _ _⟩<;>omega
theorem O7{c:Int}{a:Nat}{ts:List Key}{r:wZ}(h:Yo N (a+1) ts r):Yq N a ts (fin2 c r):=by
 unfold fin2;split
 ·exact h
 ·rename_i a1 aF n1 n2;obtain⟨p1,p2,p3,p4,p5,p6⟩:=h;have q:=gY aF (c,n1,n2);refine⟨?_,?_,?_,?_,jK _ _⟩<;>omega
theorem dH(hpk:∀a,pk a≠0->a<N):∀(n a d:Nat) (ts:List Key),a<=N->Yq N a ts (dR pk n a d ts):=by
 intro n
 induction n with
 |zero=>intro a d ts ha;exact⟨ha,Or.inl rfl⟩
 |succ n ih=>
  intro a d ts ha;unfold dR;split
  ·rename_i h;have hl:a<N:=hpk a (λe=>by rw[e]at h;simp[isName]at h);have q:=gY ts (pk a,0,0);refine⟨?_,?_,?_,?_,jK _ _⟩<;>omega
  ·split
   ·rename_i h;have hl:=hpk a (by omega);exact O8 (iZ hpk (by omega) (λh40=>ih _ _ _ (by have:=hpk (a+1) (by omega);omega)))
   ·split
    ·rename_i h;have hl:=hpk a (by omega);exact O7 (Bc hpk (by omega) (λa' ts' _ _ h'=>ih _ _ _ h'))
    ·exact⟨ha,Or.inl rfl⟩
theorem O9(hpk:∀a,pk a≠0->a<N)(n a d:Nat)(ts:List Key)(cs:List (Int×Nat))(ha:a<=N):okF N a ts cs (Lp pk n a d ts cs):=by
 unfold Lp;have h:=dH hpk n a d ts ha;split
 ·rename_i e he;rw[he]at h;exact h
 ·rename_i a1 aF m he;rw[he]at h;obtain⟨p1,p2,p3,p4,p5⟩:=h;split
  ·rename_i h61;have hl:=hpk a1 (by omega);have h2:=dH hpk n (a1+1) d aF (by omega);split
   ·rename_i e he2;rw[he2]at h2;exact h2
   ·rename_i a2 ts2 m2 he2;rw[he2]at h2;obtain⟨q1,q2,q3,q4,q5⟩:=h2;refine⟨?_,?_,?_,?_,?_⟩<;>omega
  ·exact⟨p2,Or.inl rfl⟩
theorem qA(hpk:∀a,pk a≠0->a<N):∀(n a d:Nat) (ts:List Key) (cs:List (Int×Nat)),a<=N->okF N a ts cs (Gu pk n a d ts cs):=by
 intro n
 induction n with
 |zero=>intro a d ts cs ha;exact⟨ha,Or.inl rfl⟩
 |succ n ih=>
  intro a d ts cs ha;unfold Gu;split
  ·rename_i h;have hl:=hpk a (by omega);have h':=ih (a+1) d ts cs (by omega);revert h';generalize Gu pk n (a+1) d ts cs=r;intro h'
   match r,h' with
   |.error e,h'=>exact h'
   |.ok (a1,aF,cs1),h'=>
    obtain⟨p1,p2,p3,p4,p5⟩:=h';refine⟨?_,?_,?_,?_,?_⟩<;>omega
  ·split
   ·rename_i h;have hl:=hpk a (by omega);split
    ·exact⟨ha,Or.inr rfl⟩
    ·have h':=ih (a+1) (d+1) ts cs (by omega);split
     ·rename_i e he;rw[he]at h';exact h'
     ·rename_i a1 aF cs1 he;rw[he]at h';obtain⟨p1,p2,p3,p4,p5⟩:=h';split
      ·rename_i hj;have hl1:=hpk a1 (λe=>by rw[e]at hj;simp[au]at hj);have h'':=ih (a1+1) (d+1) aF cs1 (by omega);split
       ·rename_i e he2;rw[he2]at h'';exact h''
       ·rename_i a2 ts2 cs2 he2;rw[he2]at h'';obtain⟨q1,q2,q3,q4,q5⟩:=h'';split
        ·rename_i h41;have hl2:=hpk a2 (by omega);refine⟨?_,?_,?_,?_,?_⟩<;>omega
        ·exact⟨q2,Or.inl rfl⟩
      ·exact⟨p2,Or.inl rfl⟩
   ·split
    ·rename_i h;have hl:=hpk a (by omega);have h':=iZ hpk (rec:=dR pk (n+1)) (a:=a+1) (d:=d) (ts:=ts) (by omega) (λh40=>dH hpk _ _ _ _ (by have:=hpk (a+1) (by omega);omega));revert h';generalize arg1 pk (dR pk (n+1)) (a+1) d ts=r;intro h'
     match r,h' with
     |.error e,h'=>exact h'
     |.ok (a1,aF,n1),h'=>
      obtain⟨p1,p2,p3,p4,p5⟩:=h';have q:=gY cs (pk a,n1);refine⟨?_,?_,?_,?_,?_⟩<;>omega
    ·exact O9 hpk _ _ _ _ _ ha
end
abbrev RQ:Type:=Except (Int×Nat) (Nat×List Key×List (Int×Nat)×List Key×Key)
abbrev RP:Type:=Except (Int×Nat) (Nat×List Key×List (Int×Nat)×List Key×Nat)
def rU:RQ->RP
 |.error e=>.error e
 |.ok (a1,aF,cs1,ps1,q)=>.ok (a1,aF,cs1,put ps1 q,ps1.idxOf q)
def rdN:RP->RQ
 |.error e=>.error e
 |.ok (a1,aF,cs1,ps1,m)=>.ok (a1,aF,cs1,ps1,(33,m,0))
def SS(pk:Nat->Int)(n a d:Nat)(ts:List Key)(cs:List (Int×Nat))(ps:List Key):RQ:=
 match arg1 pk (dR pk n) (a+1) d ts with
 |.error e=>.error e
 |.ok (a1,aF,m)=>.ok (a1,aF,put cs (pk a,m),ps,(pk a,cs.idxOf (pk a,m),0))
def AV(pk:Nat->Int)(n a d:Nat)(ts:List Key)(cs:List (Int×Nat))(ps:List Key):RQ:=
 match dR pk n a d ts with
 |.error e=>.error e
 |.ok (a1,aF,m1)=>
  if pk a1=61 then
   match dR pk n (a1+1) d aF with
   |.error e=>.error e
   |.ok (a2,ts2,m2)=>.ok (a2,ts2,cs,ps,(61,m1,m2))
  else .error (2,a1)
def JL(pk:Nat->Int)(rec:Nat->Nat->List Key->List (Int×Nat)->List Key->RP)(a d:Nat)(ts:List Key)(cs:List (Int×Nat))(ps:List Key):RQ:=
 if d=8 then .error (3,a)else
 match rec (a+1) (d+1) ts cs ps with
 |.error e=>.error e
 |.ok (a1,aF,cs1,ps1,m1)=>
  if au (pk a1)=true then
   match rec (a1+1) (d+1) aF cs1 ps1 with
   |.error e=>.error e
   |.ok (a2,ts2,cs2,ps2,m2)=>if pk a2=41 then .ok (a2+1,ts2,cs2,ps2,(pk a1,m1,m2))else .error (2,a2)
  else .error (2,a1)
def gI(pk:Nat->Int):Nat->Nat->Nat->List Key->List (Int×Nat)->List Key->RP
 |0,a,_,_,_,_=>.error (2,a)
 |n+1,a,d,ts,cs,ps=>
  if pk a=33 then rU (rdN (gI pk n (a+1) d ts cs ps))
  else if pk a=40 then rU (JL pk (gI pk n) a d ts cs ps)
  else if pk a=80\/pk a=81 then rU (SS pk (n+1) a d ts cs ps)
  else rU (AV pk (n+1) a d ts cs ps)
def less:RP->RF
 |.error e=>.error e
 |.ok (a1,aF,cs1,_,_)=>.ok (a1,aF,cs1)
def E5:RQ->RF
 |.error e=>.error e
 |.ok (a1,aF,cs1,_,_)=>.ok (a1,aF,cs1)
theorem qE(r:RQ):less (rU r)=E5 r:=by
 rcases r with e|⟨a1,aF,cs1,ps1,q⟩<;>rfl
theorem Md(r:RP):E5 (rdN r)=less r:=by
 rcases r with e|⟨a1,aF,cs1,ps1,q⟩<;>rfl
theorem jv(pk:Nat->Int):∀(n a d:Nat) (ts:List Key) (cs:List (Int×Nat)) (ps:List Key),less (gI pk n a d ts cs ps)=Gu pk n a d ts cs:=by
 intro n
 induction n with
 |zero=>intro a d ts cs ps;rfl
 |succ n ih=>
  intro a d ts cs ps;unfold gI Gu;split
  ·rw[qE,Md,ih]
  ·split
   ·rw[qE];unfold JL;split
    ·rfl
    ·have h1:=ih (a+1) (d+1) ts cs ps;rw[<-h1];rcases gI pk n (a+1) (d+1) ts cs ps with e|⟨a1,aF,cs1,ps1,m1⟩
     ·rfl
     ·show E5 (if au (pk a1)=true then _ else _)=(if au (pk a1)=true then _ else _)
      split
      ·have h2:=ih (a1+1) (d+1) aF cs1 ps1;rw[<-h2];rcases gI pk n (a1+1) (d+1) aF cs1 ps1 with e|⟨a2,ts2,cs2,ps2,m2⟩
       ·rfl
       ·show E5 (if pk a2=41 then _ else _)=(if pk a2=41 then _ else _)
        split<;>rfl
      ·rfl
   ·split
    ·rw[qE];unfold SS Z7;rcases arg1 pk (dR pk (n+1)) (a+1) d ts with e|⟨a1,aF,m⟩<;>rfl
    ·rw[qE];unfold AV Lp;rcases dR pk (n+1) a d ts with e|⟨a1,aF,m⟩
     ·rfl
     ·show E5 (if pk a1=61 then _ else _)=(if pk a1=61 then _ else _)
      split
      ·rcases dR pk (n+1) (a1+1) d aF with e|⟨a2,ts2,m2⟩<;>rfl
      ·rfl
def okP(N a:Nat)(ts:List Key)(cs:List (Int×Nat))(ps:List Key):RP->Prop
 |.error e=>e.2<=N/\(e.1=2\/e.1=3)
 |.ok (a1,aF,cs1,ps1,m)=>a<a1/\a1<=N/\ts.length<=aF.length/\aF.length+a<=ts.length+a1/\cs1.length+a<=cs.length+a1/\ps1.length+a<=ps.length+a1/\m<ps1.length
def Yr(N a:Nat)(ts:List Key)(cs:List (Int×Nat))(ps:List Key):RQ->Prop
 |.error e=>e.2<=N/\(e.1=2\/e.1=3)
 |.ok (a1,aF,cs1,ps1,q)=>a<a1/\a1<=N/\ts.length<=aF.length/\aF.length+a<=ts.length+a1/\cs1.length+a<=cs.length+a1/\ps1.length+a+1<=ps.length+a1/\q.2.1<N+1/\q.2.2<N+1/\0<=q.1/\q.1<=255
section
variable {pk:Nat->Int} {N:Nat}
theorem sZ{a:Nat}{ts:List Key}{cs:List (Int×Nat)}{ps:List Key}{r:RQ}(h:Yr N a ts cs ps r):okP N a ts cs ps (rU r):=by
 rcases r with e|⟨a1,aF,cs1,ps1,q⟩
 ·exact h
 ·obtain⟨p1,p2,p3,p4,p5,p6,_⟩:=h;have:=gY ps1 q;exact⟨p1,p2,p3,p4,p5,by omega,jK _ _⟩
theorem Ub{a:Nat}{ts:List Key}{cs:List (Int×Nat)}{ps:List Key}{r:RP}(hp:ps.length<=a)(h:okP N (a+1) ts cs ps r):Yr N a ts cs ps (rdN r):=by
 rcases r with e|⟨a1,aF,cs1,ps1,m⟩
 ·exact h
 ·obtain⟨p1,p2,p3,p4,p5,p6,p7⟩:=h;refine⟨?_,?_,?_,?_,?_,?_,?_,?_,?_,?_⟩<;>(try simp)<;>omega
theorem Ud(hpk:∀a,pk a≠0->a<N)(hbd:∀a,0<=pk a/\pk a<=255){n a d:Nat}{ts:List Key}{cs:List (Int×Nat)}{ps:List Key}(ha:a<N)(hc:cs.length<=a):Yr N a ts cs ps (SS pk n a d ts cs ps):=by
 have h':=iZ hpk (rec:=dR pk n) (a:=a+1) (d:=d) (ts:=ts) (by omega) (λh40=>dH hpk _ _ _ _ (by have:=hpk (a+1) (by omega);omega));unfold SS;split
 ·rename_i e he;rw[he]at h';exact h'
 ·rename_i a1 aF m he;rw[he]at h';obtain⟨p1,p2,p3,p4,p5⟩:=h';have q:=gY cs (pk a,m);have:=hbd a;have hi:cs.idxOf (pk a,m)<=cs.length:=al6;refine⟨?_,?_,?_,?_,?_,?_,?_,?_,?_,?_⟩<;>(try simp)<;>omega
theorem JU(hpk:∀a,pk a≠0->a<N){n a d:Nat}{ts:List Key}{cs:List (Int×Nat)}{ps:List Key}(ha:a<=N)(ht:ts.length<=a):Yr N a ts cs ps (AV pk n a d ts cs ps):=by
 have h:=dH hpk n a d ts ha;unfold AV;split
 ·rename_i e he;rw[he]at h;exact h
 ·rename_i a1 aF m he;rw[he]at h;obtain⟨p1,p2,p3,p4,p5⟩:=h;split
  ·rename_i h61;have hl:=hpk a1 (by omega);have h2:=dH hpk n (a1+1) d aF (by omega);split
   ·rename_i e he2;rw[he2]at h2;exact h2
   ·rename_i a2 ts2 m2 he2;rw[he2]at h2;obtain⟨q1,q2,q3,q4,q5⟩:=h2;refine⟨?_,?_,?_,?_,?_,?_,?_,?_,?_,?_⟩<;>(try simp)<;>omega
  ·exact⟨p2,Or.inl rfl⟩
theorem qw(hpk:∀a,pk a≠0->a<N)(hbd:∀a,0<=pk a/\pk a<=255):∀(n a d:Nat) (ts:List Key) (cs:List (Int×Nat)) (ps:List Key),a<=N->ts.length<=a->cs.length<=a->ps.length<=a->okP N a ts cs ps (gI pk n a d ts cs ps):=by
 intro n
 induction n with
 |zero=>intro a d ts cs ps ha _ _ _;exact⟨ha,Or.inl rfl⟩
 |succ n ih=>
  intro a d ts cs ps ha ht hc hp;unfold gI;split
  ·rename_i e;have:=hpk a (by omega);exact sZ (Ub hp (ih (a+1) d ts cs ps (by omega) (by omega) (by omega) (by omega)))
  ·split
   ·rename_i e;have hl:=hpk a (by omega);refine sZ ?_;unfold JL;split
    ·exact⟨by omega,Or.inr rfl⟩
    ·have h':=ih (a+1) (d+1) ts cs ps (by omega) (by omega) (by omega) (by omega);split
     ·rename_i e he;rw[he]at h';exact h'
     ·rename_i a1 aF cs1 ps1 m1 he;rw[he]at h';obtain⟨p1,p2,p3,p4,p5,p6,p7⟩:=h';split
      ·rename_i hj;have hl1:=hpk a1 (λe=>by rw[e]at hj;simp[au]at hj);have h'':=ih (a1+1) (d+1) aF cs1 ps1 (by omega) (by omega) (by omega) (by omega);split
       ·rename_i e he2;rw[he2]at h'';exact h''
       ·rename_i a2 ts2 cs2 ps2 m2 he2;rw[he2]at h'';obtain⟨q1,q2,q3,q4,q5,q6,q7⟩:=h'';split
        ·rename_i h41;have hl2:=hpk a2 (by omega);have:=hbd a1;refine⟨?_,?_,?_,?_,?_,?_,?_,?_,?_,?_⟩<;>(try simp)<;>omega
        ·exact⟨q2,Or.inl rfl⟩
      ·exact⟨p2,Or.inl rfl⟩
   ·split
    ·rename_i e;have hl:=hpk a (by omega);exact sZ (Ud hpk hbd hl hc)
    ·exact sZ (JU hpk ha ht)
theorem Uc(hpk:∀a,pk a≠0->a<N)(hbd:∀a,0<=pk a/\pk a<=255){n a d:Nat}{ts:List Key}{cs:List (Int×Nat)}{ps:List Key}(ha:a<N)(ht:ts.length<=a)(hc:cs.length<=a)(hp:ps.length<=a):Yr N a ts cs ps (JL pk (gI pk n) a d ts cs ps):=by
 unfold JL;split
 ·exact⟨by omega,Or.inr rfl⟩
 ·have h':=qw hpk hbd n (a+1) (d+1) ts cs ps (by omega) (by omega) (by omega) (by omega);split
  ·rename_i e he;rw[he]at h';exact h'
  ·rename_i a1 aF cs1 ps1 m1 he;rw[he]at h';obtain⟨p1,p2,p3,p4,p5,p6,p7⟩:=h';split
   ·rename_i hj;have hl1:=hpk a1 (λe=>by rw[e]at hj;simp[au]at hj);have h'':=qw hpk hbd n (a1+1) (d+1) aF cs1 ps1 (by omega) (by omega) (by omega) (by omega);split
    ·rename_i e he2;rw[he2]at h'';exact h''
    ·rename_i a2 ts2 cs2 ps2 m2 he2;rw[he2]at h'';obtain⟨q1,q2,q3,q4,q5,q6,q7⟩:=h'';split
     ·rename_i h41;have hl2:=hpk a2 (by omega);have:=hbd a1;refine⟨?_,?_,?_,?_,?_,?_,?_,?_,?_,?_⟩<;>(try simp)<;>omega
     ·exact⟨q2,Or.inl rfl⟩
   ·exact⟨p2,Or.inl rfl⟩
end
end aB
end Go.Proofs.YthcppbmkacbbiabGreat
