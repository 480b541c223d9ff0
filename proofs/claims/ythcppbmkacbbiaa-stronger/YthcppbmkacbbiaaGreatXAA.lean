import Derived.Test.YthcppbmkacbbiaaGreatXc
set_option linter.unusedSimpArgs false
namespace Go.Proofs.YthcppbmkacbbiaaGreat
namespace aB
abbrev Key:Type:=Int×Nat×Nat
abbrev RT:Type:=Except (Int×Nat) (Nat×List Key×Nat)
abbrev zF:Type:=Except (Int×Nat) (Nat×List Key×Nat×Nat)
abbrev RF:Type:=Except (Int×Nat) (Nat×List Key×List (Int×Nat))
def put{α:Type}[BEq α](l:List α)(k:α):List α:=if l.contains k then l else l++[k]
def isName(c:Int):Bool:=decide (97<=c)&&decide (c<=101)
def au(c:Int):Bool:=c==38||c==124||c==62||c==45
def arg1(pk:Nat->Int)(rec:Nat->Nat->List Key->RT)(a d:Nat)(ts:List Key):RT:=
 if pk a=40 then
  if d=8 then .error (3,a)else
  match rec (a+1) (d+1) ts with
  |.error e=>.error e
  |.ok (a1,aF,n1)=>if pk a1=41 then .ok (a1+1,aF,n1)else .error (2,a1)
 else .error (2,a)
def arg2(pk:Nat->Int)(rec:Nat->Nat->List Key->RT)(a d:Nat)(ts:List Key):zF:=
 if pk a=40 then
  if d=8 then .error (3,a)else
  match rec (a+1) (d+1) ts with
  |.error e=>.error e
  |.ok (a1,aF,n1)=>
   if pk a1=44 then
    match rec (a1+1) (d+1) aF with
    |.error e=>.error e
    |.ok (a2,ts2,n2)=>if pk a2=41 then .ok (a2+1,ts2,n1,n2)else .error (2,a2)
   else .error (2,a1)
 else .error (2,a)
def fin1(c:Int):RT->RT
 |.error e=>.error e
 |.ok (a1,aF,n1)=>.ok (a1,put aF (c,n1,0),aF.idxOf (c,n1,0))
def fin2(c:Int):zF->RT
 |.error e=>.error e
 |.ok (a1,aF,n1,n2)=>.ok (a1,put aF (c,n1,n2),aF.idxOf (c,n1,n2))
def dO(pk:Nat->Int):Nat->Nat->Nat->List Key->RT
 |0,a,_,_=>.error (2,a)
 |n+1,a,d,ts=>
  if isName (pk a)=true then .ok (a+1,put ts (pk a,0,0),ts.idxOf (pk a,0,0))
  else if pk a=102 then fin1 102 (arg1 pk (dO pk n) (a+1) d ts)
  else if pk a=103 then fin2 103 (arg2 pk (dO pk n) (a+1) d ts)
  else .error (2,a)
def YZ(c:Int)(cs:List (Int×Nat)):RT->RF
 |.error e=>.error e
 |.ok (a1,aF,n1)=>.ok (a1,aF,put cs (c,n1))
def Gg(pk:Nat->Int)(n a d:Nat)(ts:List Key)(cs:List (Int×Nat)):RF:=
 match dO pk n a d ts with
 |.error e=>.error e
 |.ok (a1,aF,_)=>
  if pk a1=61 then
   match dO pk n (a1+1) d aF with
   |.error e=>.error e
   |.ok (a2,ts2,_)=>.ok (a2,ts2,cs)
  else .error (2,a1)
def Bz(pk:Nat->Int):Nat->Nat->Nat->List Key->List (Int×Nat)->RF
 |0,a,_,_,_=>.error (2,a)
 |n+1,a,d,ts,cs=>
  if pk a=33 then Bz pk n (a+1) d ts cs
  else if pk a=40 then
   if d=8 then .error (3,a)else
   match Bz pk n (a+1) (d+1) ts cs with
   |.error e=>.error e
   |.ok (a1,aF,cs1)=>
    if au (pk a1)=true then
     match Bz pk n (a1+1) (d+1) aF cs1 with
     |.error e=>.error e
     |.ok (a2,ts2,cs2)=>if pk a2=41 then .ok (a2+1,ts2,cs2)else .error (2,a2)
    else .error (2,a1)
  else if pk a=80\/pk a=81 then YZ (pk a) cs (arg1 pk (dO pk (n+1)) (a+1) d ts)
  else Gg pk (n+1) a d ts cs
def check(pk:Nat->Int)(N:Nat):Int×Nat:=
 match Bz pk (N+1) 0 0 [] []with
 |.error e=>e
 |.ok (a1,ts,cs)=>if a1<N then(2,a1)else if 7<ts.length\/4<cs.length then(4,0)else(0,0)
theorem fM{α:Type}[BEq α](l:List α)(k:α):l.length<=(put l k).length/\(put l k).length<=l.length+1:=by
 unfold put;split<;>simp
theorem ji{α:Type}[BEq α][LawfulBEq α](l:List α)(k:α):l.idxOf k<(put l k).length:=by
 unfold put;by_cases h:k∈l
 ·rw[ad3 (by simpa using h)];exact ae7 h
 ·rw[ac2 (by simpa using h)];simp[ag0 h]
def Xj(N a:Nat)(ts:List Key):RT->Prop
 |.error e=>e.2<=N/\(e.1=2\/e.1=3)
 |.ok (a1,aF,m)=>a<a1/\a1<=N/\ts.length<=aF.length/\aF.length+a<=ts.length+a1/\m<aF.length
def Xh(N a:Nat)(ts:List Key):zF->Prop
 |.error e=>e.2<=N/\(e.1=2\/e.1=3)
 |.ok (a1,aF,m,m2)=>a<a1/\a1<=N/\ts.length<=aF.length/\aF.length+a+1<=ts.length+a1/\m<aF.length/\m2<aF.length
def Xi(N a:Nat)(ts:List Key):RT->Prop
 |.error e=>e.2<=N/\(e.1=2\/e.1=3)
 |.ok (a1,aF,m)=>a<a1/\a1<=N/\ts.length<=aF.length/\aF.length+a+1<=ts.length+a1/\m<aF.length
def okF(N a:Nat)(ts:List Key)(cs:List (Int×Nat)):RF->Prop
 |.error e=>e.2<=N/\(e.1=2\/e.1=3)
 |.ok (a1,aF,cs1)=>a<a1/\a1<=N/\ts.length<=aF.length/\aF.length+a<=ts.length+a1/\cs1.length+a<=cs.length+a1
section
variable {pk:Nat->Int} {N:Nat}
theorem iV(hpk:∀a,pk a≠0->a<N){rec:Nat->Nat->List Key->RT}{a d:Nat}{ts:List Key}(ha:a<=N)(h:pk a=40->Xj N (a+1) ts (rec (a+1) (d+1) ts)):Xi N a ts (arg1 pk rec a d ts):=by
 unfold arg1;split
 ·rename_i h40;have hl:=hpk a (by omega);have h':=h h40;split
  ·exact⟨ha,Or.inr rfl⟩
  ·split
   ·rename_i e he;rw[he]at h';exact h'
   ·rename_i a1 aF n1 he;rw[he]at h';obtain⟨p1,p2,p3,p4,p5⟩:=h';split
    ·rename_i h41;have:=hpk a1 (by omega);refine⟨?_,?_,?_,?_,?_⟩<;>omega
    ·exact⟨p2,Or.inl rfl⟩
 ·exact⟨ha,Or.inl rfl⟩
theorem Ar(hpk:∀a,pk a≠0->a<N){rec:Nat->Nat->List Key->RT}{a d:Nat}{ts:List Key}(ha:a<=N)(h:∀a' ts',pk a=40->a<a'->a'<=N->Xj N a' ts' (rec a' (d+1) ts')):Xh N a ts (arg2 pk rec a d ts):=by
 unfold arg2;split
 ·rename_i h40;have hl:=hpk a (by omega);have h':=h (a+1) ts h40 (by omega) (by omega);split
  ·exact⟨ha,Or.inr rfl⟩
  ·split
   ·rename_i e he;rw[he]at h';exact h'
   ·rename_i a1 aF n1 he;rw[he]at h';obtain⟨p1,p2,p3,p4,p5⟩:=h';split
    ·rename_i h44;have hl1:=hpk a1 (by omega);have h'':=h (a1+1) aF h40 (by omega) (by omega);split
     ·rename_i e he;rw[he]at h'';exact h''
     ·rename_i a2 ts2 n2 he2;rw[he2]at h'';obtain⟨q1,q2,q3,q4,q5⟩:=h'';split
      ·have:=hpk a2 (by omega);refine⟨?_,?_,?_,?_,?_,?_⟩<;>omega
      ·exact⟨q2,Or.inl rfl⟩
    ·exact⟨p2,Or.inl rfl⟩
 ·exact⟨ha,Or.inl rfl⟩
theorem Oi{c:Int}{a:Nat}{ts:List Key}{r:RT}(h:Xi N (a+1) ts r):Xj N a ts (fin1 c r):=by
 unfold fin1;split
 ·exact h
 ·rename_i a1 aF n1;obtain⟨p1,p2,p3,p4,p5⟩:=h;have q:=fM aF (c,n1,0);refine⟨?_,?_,?_,?_,ji _ _⟩<;>omega
theorem Oh{c:Int}{a:Nat}{ts:List Key}{r:zF}(h:Xh N (a+1) ts r):Xj N a ts (fin2 c r):=by
 unfold fin2;split
 ·exact h
 ·rename_i a1 aF n1 n2;obtain⟨p1,p2,p3,p4,p5,p6⟩:=h;have q:=fM aF (c,n1,n2);refine⟨?_,?_,?_,?_,ji _ _⟩<;>omega
theorem bQ(hpk:∀a,pk a≠0->a<N):∀(n a d:Nat) (ts:List Key),a<=N->Xj N a ts (dO pk n a d ts):=by
 intro n
 induction n with
 |zero=>intro a d ts ha;exact⟨ha,Or.inl rfl⟩
 |succ n ih=>
  intro a d ts ha;unfold dO;split
  ·rename_i h;have hl:a<N:=hpk a (λe=>by rw[e]at h;simp[isName]at h);have q:=fM ts (pk a,0,0);refine⟨?_,?_,?_,?_,ji _ _⟩<;>omega
  ·split
   ·rename_i h;have hl:=hpk a (by omega);exact Oi (iV hpk (by omega) (λh40=>ih _ _ _ (by have:=hpk (a+1) (by omega);omega)))
   ·split
    ·rename_i h;have hl:=hpk a (by omega);exact Oh (Ar hpk (by omega) (λa' ts' _ _ h'=>ih _ _ _ h'))
    ·exact⟨ha,Or.inl rfl⟩
theorem Oj(hpk:∀a,pk a≠0->a<N)(n a d:Nat)(ts:List Key)(cs:List (Int×Nat))(ha:a<=N):okF N a ts cs (Gg pk n a d ts cs):=by
 unfold Gg;have h:=bQ hpk n a d ts ha;split
 ·rename_i e he;rw[he]at h;exact h
 ·rename_i a1 aF m he;rw[he]at h;obtain⟨p1,p2,p3,p4,p5⟩:=h;split
  ·rename_i h61;have hl:=hpk a1 (by omega);have h2:=bQ hpk n (a1+1) d aF (by omega);split
   ·rename_i e he2;rw[he2]at h2;exact h2
   ·rename_i a2 ts2 m2 he2;rw[he2]at h2;obtain⟨q1,q2,q3,q4,q5⟩:=h2;refine⟨?_,?_,?_,?_,?_⟩<;>omega
  ·exact⟨p2,Or.inl rfl⟩
theorem qh(hpk:∀a,pk a≠0->a<N):∀(n a d:Nat) (ts:List Key) (cs:List (Int×Nat)),a<=N->okF N a ts cs (Bz pk n a d ts cs):=by
 intro n
 induction n with
 |zero=>intro a d ts cs ha;exact⟨ha,Or.inl rfl⟩
 |succ n ih=>
  intro a d ts cs ha;unfold Bz;split
  ·rename_i h;have hl:=hpk a (by omega);have h':=ih (a+1) d ts cs (by omega);revert h';generalize Bz pk n (a+1) d ts cs=r;intro h'
   match r,h' with
   |.error e,h'=>exact h'
   |.ok (a1,aF,cs1),h'=>
    obtain⟨p1,p2,p3,p4,p5⟩:=h';refine⟨?_,?_,?_,?_,?_⟩<;>omega
  ·split
   ·rename_i h;have hl:=hpk a (by omega);split
    ·exact⟨ha,Or.inr rfl⟩
    ·have h':=ih (a+1) (d+1) ts cs (by omega);split
     ·rename_i e he;rw[he]at h';exact h'
     ·rename_i a1 aF cs1 he;rw[he]at h';obtain⟨p1,p2,p3,p4,p5⟩:=h';split
      ·rename_i hj;have hl1:=hpk a1 (λe=>by rw[e]at hj;simp[au]at hj);have h'':=ih (a1+1) (d+1) aF cs1 (by omega);split
       ·rename_i e he2;rw[he2]at h'';exact h''
       ·rename_i a2 ts2 cs2 he2;rw[he2]at h'';obtain⟨q1,q2,q3,q4,q5⟩:=h'';split
        ·rename_i h41;have hl2:=hpk a2 (by omega);refine⟨?_,?_,?_,?_,?_⟩<;>omega
        ·exact⟨q2,Or.inl rfl⟩
      ·exact⟨p2,Or.inl rfl⟩
   ·split
    ·rename_i h;have hl:=hpk a (by omega);have h':=iV hpk (rec:=dO pk (n+1)) (a:=a+1) (d:=d) (ts:=ts) (by omega) (λh40=>bQ hpk _ _ _ _ (by have:=hpk (a+1) (by omega);omega));revert h';generalize arg1 pk (dO pk (n+1)) (a+1) d ts=r;intro h'
     match r,h' with
     |.error e,h'=>exact h'
     |.ok (a1,aF,n1),h'=>
      obtain⟨p1,p2,p3,p4,p5⟩:=h';have q:=fM cs (pk a,n1);refine⟨?_,?_,?_,?_,?_⟩<;>omega
    ·exact Oj hpk _ _ _ _ _ ha
end
abbrev RQ:Type:=Except (Int×Nat) (Nat×List Key×List (Int×Nat)×List Key×Key)
abbrev RP:Type:=Except (Int×Nat) (Nat×List Key×List (Int×Nat)×List Key×Nat)
def uO:RQ->RP
 |.error e=>.error e
 |.ok (a1,aF,cs1,ps1,q)=>.ok (a1,aF,cs1,put ps1 q,ps1.idxOf q)
def Zr:RP->RQ
 |.error e=>.error e
 |.ok (a1,aF,cs1,ps1,m)=>.ok (a1,aF,cs1,ps1,(33,m,0))
def RD(pk:Nat->Int)(n a d:Nat)(ts:List Key)(cs:List (Int×Nat))(ps:List Key):RQ:=
 match arg1 pk (dO pk n) (a+1) d ts with
 |.error e=>.error e
 |.ok (a1,aF,m)=>.ok (a1,aF,put cs (pk a,m),ps,(pk a,cs.idxOf (pk a,m),0))
def BA(pk:Nat->Int)(n a d:Nat)(ts:List Key)(cs:List (Int×Nat))(ps:List Key):RQ:=
 match dO pk n a d ts with
 |.error e=>.error e
 |.ok (a1,aF,m1)=>
  if pk a1=61 then
   match dO pk n (a1+1) d aF with
   |.error e=>.error e
   |.ok (a2,ts2,m2)=>.ok (a2,ts2,cs,ps,(61,m1,m2))
  else .error (2,a1)
def Kr(pk:Nat->Int)(rec:Nat->Nat->List Key->List (Int×Nat)->List Key->RP)(a d:Nat)(ts:List Key)(cs:List (Int×Nat))(ps:List Key):RQ:=
 if d=8 then .error (3,a)else
 match rec (a+1) (d+1) ts cs ps with
 |.error e=>.error e
 |.ok (a1,aF,cs1,ps1,m1)=>
  if au (pk a1)=true then
   match rec (a1+1) (d+1) aF cs1 ps1 with
   |.error e=>.error e
   |.ok (a2,ts2,cs2,ps2,m2)=>if pk a2=41 then .ok (a2+1,ts2,cs2,ps2,(pk a1,m1,m2))else .error (2,a2)
  else .error (2,a1)
def iL(pk:Nat->Int):Nat->Nat->Nat->List Key->List (Int×Nat)->List Key->RP
 |0,a,_,_,_,_=>.error (2,a)
 |n+1,a,d,ts,cs,ps=>
  if pk a=33 then uO (Zr (iL pk n (a+1) d ts cs ps))
  else if pk a=40 then uO (Kr pk (iL pk n) a d ts cs ps)
  else if pk a=80\/pk a=81 then uO (RD pk (n+1) a d ts cs ps)
  else uO (BA pk (n+1) a d ts cs ps)
def less:RP->RF
 |.error e=>.error e
 |.ok (a1,aF,cs1,_,_)=>.ok (a1,aF,cs1)
def Ey:RQ->RF
 |.error e=>.error e
 |.ok (a1,aF,cs1,_,_)=>.ok (a1,aF,cs1)
theorem qw(r:RQ):less (uO r)=Ey r:=by
 rcases r with e|⟨a1,aF,cs1,ps1,q⟩<;>rfl
theorem KO(r:RP):Ey (Zr r)=less r:=by
 rcases r with e|⟨a1,aF,cs1,ps1,q⟩<;>rfl
theorem kD(pk:Nat->Int):∀(n a d:Nat) (ts:List Key) (cs:List (Int×Nat)) (ps:List Key),less (iL pk n a d ts cs ps)=Bz pk n a d ts cs:=by
 intro n
 induction n with
 |zero=>intro a d ts cs ps;rfl
 |succ n ih=>
  intro a d ts cs ps;unfold iL Bz;split
  ·rw[qw,KO,ih]
  ·split
   ·rw[qw];unfold Kr;split
    ·rfl
    ·have h1:=ih (a+1) (d+1) ts cs ps;rw[<-h1];rcases iL pk n (a+1) (d+1) ts cs ps with e|⟨a1,aF,cs1,ps1,m1⟩
     ·rfl
     ·show Ey (if au (pk a1)=true then _ else _)=(if au (pk a1)=true then _ else _)
      split
      ·have h2:=ih (a1+1) (d+1) aF cs1 ps1;rw[<-h2];rcases iL pk n (a1+1) (d+1) aF cs1 ps1 with e|⟨a2,ts2,cs2,ps2,m2⟩
       ·rfl
       ·show Ey (if pk a2=41 then _ else _)=(if pk a2=41 then _ else _)
        split<;>rfl
      ·rfl
   ·split
    ·rw[qw];unfold RD YZ;rcases arg1 pk (dO pk (n+1)) (a+1) d ts with e|⟨a1,aF,m⟩<;>rfl
    ·rw[qw];unfold BA Gg;rcases dO pk (n+1) a d ts with e|⟨a1,aF,m⟩
     ·rfl
     ·show Ey (if pk a1=61 then _ else _)=(if pk a1=61 then _ else _)
      split
      ·rcases dO pk (n+1) (a1+1) d aF with e|⟨a2,ts2,m2⟩<;>rfl
      ·rfl
def Zx(N a:Nat)(ts:List Key)(cs:List (Int×Nat))(ps:List Key):RP->Prop
 |.error e=>e.2<=N/\(e.1=2\/e.1=3)
 |.ok (a1,aF,cs1,ps1,m)=>a<a1/\a1<=N/\ts.length<=aF.length/\aF.length+a<=ts.length+a1/\cs1.length+a<=cs.length+a1/\ps1.length+a<=ps.length+a1/\m<ps1.length
def Xk(N a:Nat)(ts:List Key)(cs:List (Int×Nat))(ps:List Key):RQ->Prop
 |.error e=>e.2<=N/\(e.1=2\/e.1=3)
 |.ok (a1,aF,cs1,ps1,q)=>a<a1/\a1<=N/\ts.length<=aF.length/\aF.length+a<=ts.length+a1/\cs1.length+a<=cs.length+a1/\ps1.length+a+1<=ps.length+a1/\q.2.1<N+1/\q.2.2<N+1/\0<=q.1/\q.1<=255
section
variable {pk:Nat->Int} {N:Nat}
theorem su{a:Nat}{ts:List Key}{cs:List (Int×Nat)}{ps:List Key}{r:RQ}(h:Xk N a ts cs ps r):Zx N a ts cs ps (uO r):=by
 rcases r with e|⟨a1,aF,cs1,ps1,q⟩
 ·exact h
 ·obtain⟨p1,p2,p3,p4,p5,p6,_⟩:=h;have:=fM ps1 q;exact⟨p1,p2,p3,p4,p5,by omega,ji _ _⟩
theorem Si{a:Nat}{ts:List Key}{cs:List (Int×Nat)}{ps:List Key}{r:RP}(hp:ps.length<=a)(h:Zx N (a+1) ts cs ps r):Xk N a ts cs ps (Zr r):=by
 rcases r with e|⟨a1,aF,cs1,ps1,m⟩
 ·exact h
 ·obtain⟨p1,p2,p3,p4,p5,p6,p7⟩:=h;refine⟨?_,?_,?_,?_,?_,?_,?_,?_,?_,?_⟩<;>(try simp)<;>omega
theorem Sl(hpk:∀a,pk a≠0->a<N)(hbd:∀a,0<=pk a/\pk a<=255){n a d:Nat}{ts:List Key}{cs:List (Int×Nat)}{ps:List Key}(ha:a<N)(hc:cs.length<=a):Xk N a ts cs ps (RD pk n a d ts cs ps):=by
 have h':=iV hpk (rec:=dO pk n) (a:=a+1) (d:=d) (ts:=ts) (by omega) (λh40=>bQ hpk _ _ _ _ (by have:=hpk (a+1) (by omega);omega));unfold RD;split
 ·rename_i e he;rw[he]at h';exact h'
 ·rename_i a1 aF m he;rw[he]at h';obtain⟨p1,p2,p3,p4,p5⟩:=h';have q:=fM cs (pk a,m);have:=hbd a;have hi:cs.idxOf (pk a,m)<=cs.length:=aj7;refine⟨?_,?_,?_,?_,?_,?_,?_,?_,?_,?_⟩<;>(try simp)<;>omega
theorem Jd(hpk:∀a,pk a≠0->a<N){n a d:Nat}{ts:List Key}{cs:List (Int×Nat)}{ps:List Key}(ha:a<=N)(ht:ts.length<=a):Xk N a ts cs ps (BA pk n a d ts cs ps):=by
 have h:=bQ hpk n a d ts ha;unfold BA;split
 ·rename_i e he;rw[he]at h;exact h
 ·rename_i a1 aF m he;rw[he]at h;obtain⟨p1,p2,p3,p4,p5⟩:=h;split
  ·rename_i h61;have hl:=hpk a1 (by omega);have h2:=bQ hpk n (a1+1) d aF (by omega);split
   ·rename_i e he2;rw[he2]at h2;exact h2
   ·rename_i a2 ts2 m2 he2;rw[he2]at h2;obtain⟨q1,q2,q3,q4,q5⟩:=h2;refine⟨?_,?_,?_,?_,?_,?_,?_,?_,?_,?_⟩<;>(try simp)<;>omega
  ·exact⟨p2,Or.inl rfl⟩
theorem qg(hpk:∀a,pk a≠0->a<N)(hbd:∀a,0<=pk a/\pk a<=255):∀(n a d:Nat) (ts:List Key) (cs:List (Int×Nat)) (ps:List Key),a<=N->ts.length<=a->cs.length<=a->ps.length<=a->Zx N a ts cs ps (iL pk n a d ts cs ps):=by
 intro n
 induction n with
 |zero=>intro a d ts cs ps ha _ _ _;exact⟨ha,Or.inl rfl⟩
 |succ n ih=>
  intro a d ts cs ps ha ht hc hp;unfold iL;split
  ·rename_i e;have:=hpk a (by omega);exact su (Si hp (ih (a+1) d ts cs ps (by omega) (by omega) (by omega) (by omega)))
  ·split
   ·rename_i e;have hl:=hpk a (by omega);refine su ?_;unfold Kr;split
    ·exact⟨by omega,Or.inr rfl⟩
    ·have h':=ih (a+1) (d+1) ts cs ps (by omega) (by omega) (by omega) (by omega);split
     ·rename_i e he;rw[he]at h';exact h'
     ·rename_i a1 aF cs1 ps1 m1 he;rw[he]at h';obtain⟨p1,p2,p3,p4,p5,p6,p7⟩:=h';split
      ·rename_i hj;have hl1:=hpk a1 (λe=>by rw[e]at hj;simp[au]at hj);have h'':=ih (a1+1) (d+1) aF cs1 ps1 (by omega) (by omega) (by omega) (by omega);split
       ·rename_i e he2;rw[he2]at h'';exact h''
       ·rename_i a2 ts2 cs2 ps2 m2 he2;rw[he2]at h'';obtain⟨q1,q2,q3,q4,q5,q6,q7⟩:=h'';split
        ·rename_i h41;have hl2:=hpk a2 (by omega);have:=hbd a1;refine⟨?_,?_,?_,?_,?_,?_,?_,?_,?_,?_⟩<;>(try simp)<;>omega
        ·exact⟨q2,Or.inl rfl⟩
      ·exact⟨p2,Or.inl rfl⟩
   ·split
    ·rename_i e;have hl:=hpk a (by omega);exact su (Sl hpk hbd hl hc)
    ·exact su (Jd hpk ha ht)
theorem Sj(hpk:∀a,pk a≠0->a<N)(hbd:∀a,0<=pk a/\pk a<=255){n a d:Nat}{ts:List Key}{cs:List (Int×Nat)}{ps:List Key}(ha:a<N)(ht:ts.length<=a)(hc:cs.length<=a)(hp:ps.length<=a):Xk N a ts cs ps (Kr pk (iL pk n) a d ts cs ps):=by
 unfold Kr;split
 ·exact⟨by omega,Or.inr rfl⟩
 ·have h':=qg hpk hbd n (a+1) (d+1) ts cs ps (by omega) (by omega) (by omega) (by omega);split
  ·rename_i e he;rw[he]at h';exact h'
  ·rename_i a1 aF cs1 ps1 m1 he;rw[he]at h';obtain⟨p1,p2,p3,p4,p5,p6,p7⟩:=h';split
   ·rename_i hj;have hl1:=hpk a1 (λe=>by rw[e]at hj;simp[au]at hj);have h'':=qg hpk hbd n (a1+1) (d+1) aF cs1 ps1 (by omega) (by omega) (by omega) (by omega);split
    ·rename_i e he2;rw[he2]at h'';exact h''
    ·rename_i a2 ts2 cs2 ps2 m2 he2;rw[he2]at h'';obtain⟨q1,q2,q3,q4,q5,q6,q7⟩:=h'';split
     ·rename_i h41;have hl2:=hpk a2 (by omega);have:=hbd a1;refine⟨?_,?_,?_,?_,?_,?_,?_,?_,?_,?_⟩<;>(try simp)<;>omega
     ·exact⟨q2,Or.inl rfl⟩
   ·exact⟨p2,Or.inl rfl⟩
end
end aB
end Go.Proofs.YthcppbmkacbbiaaGreat
