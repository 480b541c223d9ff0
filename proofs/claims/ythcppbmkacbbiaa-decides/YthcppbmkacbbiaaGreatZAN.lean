import Derived.Test.YthcppbmkacbbiaaGreatZAM
set_option linter.unusedSimpArgs false
set_option maxHeartbeats 400000
namespace Go.Proofs.YthcppbmkacbbiaaGreat
open Go.Proofs.Tryz
section
open Go.RowKit
open au (St put)
def st0:St:=⟨0,0,0,[],[]⟩
def rstart(w:World)(s:ByteArray):World:=
 w.alloc (.cells #[.string s,.int .i64 0,.int .i64 0,.int .i64 0,.slice none 0 0,.slice none 0 0,.bool false,.slice none 0 0,.slice none 0 0] 120)
theorem qX(w:World)(s:ByteArray):RI (rstart w s) w.heap.size s st0 false (.slice none 0 0) (.slice none 0 0) where
 c0:=World.cell?_alloc_at _ _ _ _ rfl
 c1:=World.cell?_alloc_at _ _ _ _ rfl
 c2:=World.cell?_alloc_at _ _ _ _ rfl
 c3:=World.cell?_alloc_at _ _ _ _ rfl
 c6:=World.cell?_alloc_at _ _ _ _ rfl
 c7:=World.cell?_alloc_at _ _ _ _ rfl
 c8:=World.cell?_alloc_at _ _ _ _ rfl
 fz:=λ_=>World.frozen?_alloc_at _ _ _ _ rfl
 rows:=⟨.slice none 0 0,.slice none 0 0,World.cell?_alloc_at _ _ _ _ rfl,World.cell?_alloc_at _ _ _ _ rfl,World.ownsRow_nil _ _ _ _,World.ownsRow_nil _ _ _ _,Or.inl rfl⟩
theorem iq(w:World)(s:ByteArray):Below w.heap.size w (rstart w s):=(Below.refl _ _).alloc (af0 _) _
theorem uq(N:Nat):au.iJ N st0:=⟨ah9 _,ah9 _,λ_=>ah9 _,af0 _,af0 _⟩
theorem pX(N:Nat):au.need N st0<=N+1:=by unfold au.need;split<;>omega
def gQ(s:ByteArray):St:=au.aI s.data.toList (pk s) (s.size+1) st0
section
variable (w:World) (s:ByteArray)
theorem LM(hs:100<s.size)(hm:s.size<=maxLen) :
  Calls prog 56 #[.string s] w λe w'=>e=.returned (.tuple #[.pointer (some ⟨w.heap.size,0,none⟩),.int .i64 1,.int .i64 0])/\Below w.heap.size w w':=by
 unfold maxLen at hm
 go_enter func56,ntmps56
 go_wp2_with fail
 go_ret3
 exact⟨rfl,iq w s⟩
theorem Qx(hs:s.size<=100)(τ:St)(HT:Hid (gQ s=τ))(hE:τ.E≠0) :
  Calls prog 56 #[.string s] w λe w'=>e=.returned (.tuple #[.pointer (some ⟨w.heap.size,0,none⟩),.int .i64 τ.E,.int .i64 τ.a])/\Below w.heap.size w w':=by
 have hb:decide ((100:Int)<(s.size:Int))=false:=by simp;omega
 have hb1:(τ.E==0)=false:=by simpa using hE
 have hb2:(τ.E != 0)=true:=by simpa using hE
 go_enter func56,ntmps56
 go_wp2_with fail
 refine(BZ w.heap.size s _ _ hs (s.size+1) (rstart w s) st0 (uq _) (pX _) (qX w s)).mono ?_;rw[show au.aI s.data.toList (pk s) (s.size+1) st0=τ from ah HT];rintro e w1 ⟨⟨b,rfl⟩,hI,hB⟩;have c1:=hI.c1;have c3:=hI.c3
 go_wp2_with fail
 go_quiet (fail)
 go_wp2_with fail
 go_ret3
 exact⟨rfl,((iq w s).trans hB).trans (below_drewN _ _ _)⟩
theorem Qw(hs:s.size<=100)(τ:St)(HT:Hid (gQ s=τ))(hE:τ.E=0)(hlt:τ.a<s.size) :
  Calls prog 56 #[.string s] w λe w'=>e=.returned (.tuple #[.pointer (some ⟨w.heap.size,0,none⟩),.int .i64 2,.int .i64 τ.a])/\Below w.heap.size w w':=by
 have hb:decide ((100:Int)<(s.size:Int))=false:=by simp;omega
 have hb1:decide ((τ.a:Int)<(s.size:Int))=true:=by simp;omega
 have HE:=aj hE;clear hE
 go_enter func56,ntmps56
 go_wp2_with fail
 refine(BZ w.heap.size s _ _ hs (s.size+1) (rstart w s) st0 (uq _) (pX _) (qX w s)).mono ?_;rw[show au.aI s.data.toList (pk s) (s.size+1) st0=τ from ah HT];rintro e w1 ⟨⟨b,rfl⟩,hI,hB⟩;have c1:=hI.c1;have c3:=hI.c3;have f3:=hI.fz 3;rw[ah HE]at c3
 go_wp2_with fail
 go_quiet (fail)
 go_wp2_with fail
 go_ret3
 exact⟨rfl,(((iq w s).trans hB).trans (bH _ _ _ _)).trans (below_drewN _ _ _)⟩
theorem LJ(hs:s.size<=100)(τ:St)(HT:Hid (gQ s=τ))(hE:τ.E=0)(hlt:¬τ.a<s.size)(Yf:7<τ.T.length\/4<τ.C.length) :
  Calls prog 56 #[.string s] w λe w'=>e=.returned (.tuple #[.pointer (some ⟨w.heap.size,0,none⟩),.int .i64 4,.int .i64 0])/\Below w.heap.size w w':=by
 have hb:decide ((100:Int)<(s.size:Int))=false:=by simp;omega
 have hb1:decide ((τ.a:Int)<(s.size:Int))=false:=by simp;omega
 have HE:=aj hE;clear hE
 go_enter func56,ntmps56
 go_wp2_with fail
 refine(BZ w.heap.size s _ _ hs (s.size+1) (rstart w s) st0 (uq _) (pX _) (qX w s)).mono ?_;rw[show au.aI s.data.toList (pk s) (s.size+1) st0=τ from ah HT];rintro e w1 ⟨⟨b,rfl⟩,hI,hB⟩;have c1:=hI.c1;have c3:=hI.c3;rw[ah HE]at c3;obtain⟨v4,v5,r1,r2,r3,r4,r5⟩:=hI.rows;obtain⟨ao,cap,e4⟩:=aV r3;obtain⟨ao',cap',e5⟩:=aV r4;subst e4;subst e5;by_cases h7:7<τ.T.length
 ·have hb7:decide ((7:Int)<(τ.T.length:Int))=true:=by simp;omega
  go_wp2_with fail
  go_ret3
  exact⟨rfl,(iq w s).trans hB⟩
 ·have hb7:decide ((7:Int)<(τ.T.length:Int))=false:=by simp;omega
  have hb4:decide ((4:Int)<(τ.C.length:Int))=true:=by simp;omega
  go_wp2_with fail
  go_ret3
  exact⟨rfl,(iq w s).trans hB⟩
theorem BX(hs:s.size<=100)(τ:St)(HT:Hid (gQ s=τ))(hE:τ.E=0)(hlt:¬τ.a<s.size)(h7:τ.T.length<=7)(h4:τ.C.length<=4) :
  Calls prog 56 #[.string s] w λe w'=>e=.returned (.tuple #[.pointer (some ⟨w.heap.size,0,none⟩),.int .i64 0,.int .i64 0])/\Below w.heap.size w w'/\RI w' w.heap.size s τ false (.slice none 0 0) (.slice none 0 0):=by
 have hb:decide ((100:Int)<(s.size:Int))=false:=by simp;omega
 have hb1:decide ((τ.a:Int)<(s.size:Int))=false:=by simp;omega
 have HE:=aj hE;clear hE
 go_enter func56,ntmps56
 go_wp2_with fail
 refine(BZ w.heap.size s _ _ hs (s.size+1) (rstart w s) st0 (uq _) (pX _) (qX w s)).mono ?_;rw[show au.aI s.data.toList (pk s) (s.size+1) st0=τ from ah HT];rintro e w1 ⟨⟨b,rfl⟩,hI,hB⟩;have c1:=hI.c1;have c3:=hI.c3;rw[ah HE]at c3;obtain⟨v4,v5,r1,r2,r3,r4,r5⟩:=hI.rows;obtain⟨ao,cap,e4⟩:=aV r3;obtain⟨ao',cap',e5⟩:=aV r4;subst e4;subst e5;have hb7:decide ((7:Int)<(τ.T.length:Int))=false:=by simp;omega
 have hb4:decide ((4:Int)<(τ.C.length:Int))=false:=by simp;omega
 go_wp2_with fail
 go_ret3
 exact⟨rfl,(iq w s).trans hB,hI⟩
end
def zF(s:ByteArray):Int×Nat:=
 if 100<s.size then(1,0)else if (gQ s).E≠0 then((gQ s).E,(gQ s).a)else if (gQ s).a<s.size then(2,(gQ s).a)
 else if 7<(gQ s).T.length\/4<(gQ s).C.length then(4,0)else(0,0)
theorem D7(w:World)(s:ByteArray)(hm:s.size<=maxLen) :
  Calls prog 56 #[.string s] w λe w'=>e=.returned (.tuple #[.pointer (some ⟨w.heap.size,0,none⟩),.int .i64 (zF s).1,.int .i64 (zF s).2])/\Below w.heap.size w w':=by
 unfold zF;by_cases hs:100<s.size
 ·rw[af9 hs];exact LM w s hs hm
 ·rw[af6 hs];have hs':s.size<=100:=by omega
  by_cases hE:(gQ s).E≠0
  ·rw[af9 hE];exact Qx w s hs' _ (aj rfl) hE
  ·rw[af6 hE];have hE':(gQ s).E=0:=(by simpa using hE);by_cases h1:(gQ s).a<s.size
   ·rw[af9 h1];exact Qw w s hs' _ (aj rfl) hE' h1
   ·rw[af6 h1];by_cases h2:7<(gQ s).T.length\/4<(gQ s).C.length
    ·rw[af9 h2];exact LJ w s hs' _ (aj rfl) hE' h1 h2
    ·rw[af6 h2];refine(BX w s hs' _ (aj rfl) hE' h1 (by omega) (by omega)).mono ?_;rintro e w' ⟨rfl,h,_⟩;exact⟨rfl,h⟩
end
namespace au
def dX(nt nc i:Nat)(q:Key):Prop:=
 (q.1=33/\q.2.1<i/\q.2.2=0)\/(aA q.1=true/\q.2.1<i/\q.2.2<i)\/((q.1=80\/q.1=81)/\q.2.1<nc/\q.2.2=0)\/(q.1=61/\q.2.1<nt/\q.2.2<nt)
theorem dX.more{nt nc i nt' nc' i':Nat}{q:Key}(h:dX nt nc i q)(h1:nt<=nt')(h2:nc<=nc')(h3:i<=i'):dX nt' nc' i' q:=by
 unfold dX at *;rcases h with⟨a,b,c⟩|⟨a,b,c⟩|⟨a,b,c⟩|⟨a,b,c⟩
 ·exact Or.inl ⟨a,by omega,c⟩
 ·exact Or.inr (Or.inl ⟨a,by omega,by omega⟩)
 ·exact Or.inr (Or.inr (Or.inl ⟨a,by omega,c⟩))
 ·exact Or.inr (Or.inr (Or.inr ⟨a,by omega,by omega⟩))
theorem dX.bd{nt nc i:Nat}{q:Key}(h:dX nt nc i q)(h1:nt<=1000)(h2:nc<=1000)(h3:i<=1000):(0<=q.1/\q.1<=255)/\q.2.1<=1000/\q.2.2<=1000:=by
 unfold dX at h;rcases h with⟨a,b,c⟩|⟨a,b,c⟩|⟨a,b,c⟩|⟨a,b,c⟩
 ·omega
 ·simp[aA]at a;omega
 ·omega
 ·omega
structure bI(nt nc:Nat)(ps:List Key):Prop where
 nd:ps.Nodup
 ok:∀i (h:i<ps.length),dX nt nc i ps[i]
theorem bI.more{nt nc nt' nc':Nat}{ps:List Key}(h:bI nt nc ps)(h1:nt<=nt')(h2:nc<=nc'):bI nt' nc' ps:=⟨h.nd,λi hi=>(h.ok i hi).more h1 h2 (af0 _)⟩
theorem bI.put{nt nc:Nat}{ps:List Key}(h:bI nt nc ps){q:Key}(hq:dX nt nc ps.length q):bI nt nc (put ps q):=by
 refine⟨qZ q h.nd,?_⟩;unfold au.put;split
 ·exact h.ok
 ·intro i hi;by_cases hlt:i<ps.length
  ·rw[al5 hlt];exact h.ok i hlt
  ·have e:i=ps.length:=(by simp at hi;omega);subst e;rw[as2 (af0 _)];simpa using hq
def Yn(ts:List Key)(cs:List (Int×Nat))(ps:List Key):RP->Prop
 |.error _=>True
 |.ok (_,aK,cs1,ps1,m)=>bI aK.length cs1.length ps1/\m<ps1.length/\ts.length<=aK.length/\cs.length<=cs1.length/\ps <+: ps1
def Np(ts:List Key)(cs:List (Int×Nat))(ps:List Key):RQ->Prop
 |.error _=>True
 |.ok (_,aK,cs1,ps1,q)=>bI aK.length cs1.length ps1/\dX aK.length cs1.length ps1.length q/\ts.length<=aK.length/\cs.length<=cs1.length/\ps <+: ps1
section
variable {pk:Nat->Int} {N:Nat}
theorem vT{ts:List Key}{cs:List (Int×Nat)}{ps:List Key}{r:RQ}(h:Np ts cs ps r):Yn ts cs ps (sF r):=by
 rcases r with e|⟨a1,aK,cs1,ps1,q⟩
 ·trivial
 ·obtain⟨h1,h2,h3,h4,h5⟩:=h;exact⟨h1.put h2,iM _ _,h3,h4,h5.trans (oq q)⟩
theorem lW(hpk:∀a,pk a≠0->a<N):∀(n a d:Nat) (ts:List Key) (cs:List (Int×Nat)) (ps:List Key),a<=N->bI ts.length cs.length ps->Yn ts cs ps (jq pk n a d ts cs ps):=by
 intro n
 induction n with
 |zero=>intro a d ts cs ps _ _;trivial
 |succ n ih=>
  intro a d ts cs ps ha hi;unfold jq;split
  ·rename_i e;have hl:=hpk a (by omega);have h:=ih (a+1) d ts cs ps (by omega) hi;refine vT ?_;rcases hR:jq pk n (a+1) d ts cs ps with e|⟨a1,aK,cs1,ps1,m⟩
   ·trivial
   ·rw[hR]at h;obtain⟨h1,h2,h3,h4,h5⟩:=h;exact⟨h1,Or.inl ⟨rfl,h2,rfl⟩,h3,h4,h5⟩
  ·split
   ·rename_i e;have hl:=hpk a (by omega);refine vT ?_;unfold Oy;split
    ·trivial
    ·have h:=ih (a+1) (d+1) ts cs ps (by omega) hi;have hF:=ou hpk n (a+1) (d+1) ts cs (by omega);rw[<-lM pk n (a+1) (d+1) ts cs ps]at hF;rcases hR:jq pk n (a+1) (d+1) ts cs ps with e|⟨a1,aK,cs1,ps1,m1⟩
     ·trivial
     ·rw[hR]at h hF;obtain⟨h1,h2,h3,h4,h5⟩:=h;obtain⟨g1,g2,_⟩:=hF
      show Np ts cs ps (if aA (pk a1)=true then _ else _)
      split
      ·rename_i hj;have hl1:=hpk a1 (λe=>by rw[e]at hj;simp[aA]at hj);have h':=ih (a1+1) (d+1) aK cs1 ps1 (by omega) h1;rcases hR2:jq pk n (a1+1) (d+1) aK cs1 ps1 with e|⟨a2,ts2,cs2,ps2,m2⟩
       ·trivial
       ·rw[hR2]at h';obtain⟨k1,k2,k3,k4,k5⟩:=h'
        show Np ts cs ps (if pk a2=41 then _ else _)
        split
        ·have:=k5.length_le;exact⟨k1,Or.inr (Or.inl ⟨hj,by show m1<ps2.length;omega,k2⟩),by omega,by omega,h5.trans k5⟩
        ·trivial
      ·trivial
   ·split
    ·rename_i e8;have hl:=hpk a (by omega);refine vT ?_;have h':=jd hpk (rec:=fF pk (n+1)) (a:=a+1) (d:=d) (ts:=ts) (by omega) (λh40=>dI hpk _ _ _ _ (by have:=hpk (a+1) (by omega);omega));unfold Wv;rcases hR:arg1 pk (fF pk (n+1)) (a+1) d ts with e|⟨a1,aK,m⟩
     ·trivial
     ·rw[hR]at h';obtain⟨p1,p2,p3,p4,p5⟩:=h';have q:=dW cs (pk a,m);refine⟨hi.more p3 q.1,Or.inr (Or.inr (Or.inl ⟨e8,iM _ _,rfl⟩)),p3,q.1,am7 _⟩
    ·refine vT ?_;have h:=dI hpk (n+1) a d ts ha;unfold Eh;rcases hR:fF pk (n+1) a d ts with e|⟨a1,aK,m1⟩
     ·trivial
     ·rw[hR]at h;obtain⟨p1,p2,p3,p4,p5⟩:=h
      show Np ts cs ps (if pk a1=61 then _ else _)
      split
      ·rename_i h61;have hl1:=hpk a1 (by omega);have h2:=dI hpk (n+1) (a1+1) d aK (by omega);rcases hR2:fF pk (n+1) (a1+1) d aK with e|⟨a2,ts2,m2⟩
       ·trivial
       ·rw[hR2]at h2;obtain⟨q1,q2,q3,q4,q5⟩:=h2;exact⟨hi.more (by omega) (af0 _),Or.inr (Or.inr (Or.inr ⟨rfl,by show m1<ts2.length;omega,q5⟩)),by omega,af0 _,am7 _⟩
      ·trivial
def Ya(ps:List Key):RP->Prop
 |.error _=>True
 |.ok (_,_,_,ps1,m)=>(m<ps.length/\ps1=ps)\/m+1=ps1.length
def MW(ps:List Key):RQ->Prop
 |.error _=>True
 |.ok (_,_,_,ps1,q)=>q∈ps1->ps1=ps
theorem uZ{ps:List Key}{r:RQ}(h:MW ps r):Ya ps (sF r):=by
 rcases r with e|⟨a1,aK,cs1,ps1,q⟩
 ·trivial
 ·by_cases hq:q∈ps1
  ·have e:=h hq;subst e;refine Or.inl ⟨ai5 hq,?_⟩;unfold au.put;rw[af9 (by simpa using hq)]
  ·refine Or.inr ?_;unfold au.put;rw[af6 (by simpa using hq),ak0 hq];simp
theorem Na{nt nc:Nat}{ps:List Key}(h:bI nt nc ps){q:Key}(hq:q∈ps):∃j,j<ps.length/\dX nt nc j q:=by
 obtain⟨j,hj,e⟩:=aj2 hq;exact⟨j,hj,by rw[<-e];exact h.ok j hj⟩
theorem Tj(hpk:∀a,pk a≠0->a<N):∀(n a d:Nat) (ts:List Key) (cs:List (Int×Nat)) (ps:List Key),a<=N->bI ts.length cs.length ps->Ya ps (jq pk n a d ts cs ps):=by
 intro n
 induction n with
 |zero=>intro a d ts cs ps _ _;trivial
 |succ n ih=>
  intro a d ts cs ps ha hi;unfold jq;split
  ·rename_i e;have hl:=hpk a (by omega);have h:=ih (a+1) d ts cs ps (by omega) hi;have hf:=lW hpk n (a+1) d ts cs ps (by omega) hi;refine uZ ?_;rcases hR:jq pk n (a+1) d ts cs ps with e|⟨a1,aK,cs1,ps1,m⟩
   ·trivial
   ·rw[hR]at h hf;intro hq;obtain⟨j,hj,ho⟩:=Na hf.1 hq;rcases h with⟨_,h2⟩|h2
    ·exact h2
    ·rcases ho with⟨_,b,_⟩|⟨a,_,_⟩|⟨a,_,_⟩|⟨a,_,_⟩
     ·simp only at b;omega
     ·simp[aA]at a
     ·simp at a
     ·simp at a
  ·split
   ·rename_i e;have hl:=hpk a (by omega);refine uZ ?_;unfold Oy;split
    ·trivial
    ·have h:=ih (a+1) (d+1) ts cs ps (by omega) hi;have hf:=lW hpk n (a+1) (d+1) ts cs ps (by omega) hi;have hF:=ou hpk n (a+1) (d+1) ts cs (by omega);rw[<-lM pk n (a+1) (d+1) ts cs ps]at hF;rcases hR:jq pk n (a+1) (d+1) ts cs ps with e|⟨a1,aK,cs1,ps1,m1⟩
     ·trivial
     ·rw[hR]at h hF hf;obtain⟨g1,g2,_⟩:=hF
      show MW ps (if aA (pk a1)=true then _ else _)
      split
      ·rename_i hj;have hl1:=hpk a1 (λe=>by rw[e]at hj;simp[aA]at hj);have h':=ih (a1+1) (d+1) aK cs1 ps1 (by omega) hf.1;have hf':=lW hpk n (a1+1) (d+1) aK cs1 ps1 (by omega) hf.1;rcases hR2:jq pk n (a1+1) (d+1) aK cs1 ps1 with e|⟨a2,ts2,cs2,ps2,m2⟩
       ·trivial
       ·rw[hR2]at h' hf'
        show MW ps (if pk a2=41 then _ else _)
        split
        ·intro hq;obtain⟨j,hjl,ho⟩:=Na hf'.1 hq;have hb:m1<j/\m2<j:=by
          rcases ho with⟨a,_,_⟩|⟨_,b,c⟩|⟨a,_,_⟩|⟨a,_,_⟩
          ·simp only at a;rw[a]at hj;simp[aA]at hj
          ·exact⟨b,c⟩
          ·simp only at a;rcases a with a|a<;>(rw[a]at hj;simp[aA]at hj)
          ·simp only at a;rw[a]at hj;simp[aA]at hj
         rcases h' with⟨_,e2⟩|e2
         ·subst e2;rcases h with⟨_,e1⟩|e1
          ·exact e1
          ·omega
         ·omega
        ·trivial
      ·trivial
   ·split
    ·refine uZ ?_;unfold Wv;rcases arg1 pk (fF pk (n+1)) (a+1) d ts with e|⟨a1,aK,m⟩
     ·trivial
     ·intro _;rfl
    ·refine uZ ?_;unfold Eh;rcases fF pk (n+1) a d ts with e|⟨a1,aK,m1⟩
     ·trivial
     ·show MW ps (if pk a1=61 then _ else _)
      split
      ·rcases fF pk (n+1) (a1+1) d aK with e|⟨a2,ts2,m2⟩
       ·trivial
       ·intro _;rfl
      ·trivial
end
end au
open Go.RowKit Go.Maps Go.WideMaps
open au (Key put St)
def chk(s:ByteArray):Int×Nat:=if 100<s.size then(1,0)else au.check (pk s) s.size
def ctx(ts:List Key)(cs:List (Int×Nat)):List (List UInt8):=cs.map (au.dw (au.texts ts))
theorem Si(s:ByteArray):pk s=au.aY s.data.toList:=by
 funext a;unfold pk au.aY;by_cases h:a<s.size
 ·have h':a<s.data.toList.length:=by simpa using h
  rw[dif_pos h,af2 h'];simp[aj1]
 ·have h':¬a<s.data.toList.length:=by simpa using h
  rw[dif_neg h,List.getElem?_eq_none (by omega)]
theorem Gw(s:ByteArray):au.XW 0 (au.I4 (pk s) (s.size+1) 0 0 [] []) (gQ s):=by
 have h:=au.uF (l:=s.data.toList) (s.size+1) 0 0 [] [] (ah9 _) (by simp) au.MZ (λc hc=>by cases hc);unfold gQ;rw[Si];exact h
theorem uJ(s:ByteArray):zF s=chk s:=by
 unfold zF chk;by_cases hs:100<s.size
 ·rw[af9 hs,af9 hs]
 ·rw[af6 hs,af6 hs];have h:=Gw s;unfold au.check;cases hR:au.I4 (pk s) (s.size+1) 0 0 [] []with
  |error Ep=>
   obtain⟨E,p⟩:=Ep;rw[hR]at h;obtain⟨h1,h2,h3⟩:=h;rw[af9 (by rw[h1];exact h3),h1,h2]
  |ok q=>
   obtain⟨a1,ts,cs⟩:=q;rw[hR]at h;obtain⟨h1,h2,h3⟩:=h;rw[h1];simp[au.aW]
theorem Wx(s:ByteArray):au.Gd s.data.toList (gQ s):=by
 unfold gQ;exact au.KG _ _ ⟨λt ht=>(by cases ht),λt ht=>(by cases ht),List.Pairwise.nil⟩
theorem l9(s:ByteArray)(hs:s.size<=100)(h0:(chk s).1=0):∃ts cs ps,au.jq (pk s) (s.size+1) 0 0 [] [] []=.ok (s.size,ts,cs,ps,ps.length-1)/\ts.length<=7/\cs.length<=4/\au.Inv ts/\au.iZ ts cs/\
  gQ s=⟨s.size,0,0,au.texts ts,ctx ts cs⟩/\(∀t∈au.texts ts,t.length<=100)/\(∀t∈ctx ts cs,t.length<=100)/\cs.Nodup/\au.bI ts.length cs.length ps/\0<ps.length/\ps.length<=100:=by
 have h:=Gw s;have hg:=Wx s;have hok:=au.ou (pk:=pk s) (N:=s.size) (λa h=>dD h) (s.size+1) 0 0 [] [] (by omega);have hf:=au.lW (pk:=pk s) (N:=s.size) (λa h=>dD h) (s.size+1) 0 0 [] [] [] (by omega) ⟨aq8,λi hi=>absurd hi (by simp)⟩;have hla:=au.Tj (pk:=pk s) (N:=s.size) (λa h=>dD h) (s.size+1) 0 0 [] [] [] (by omega) ⟨aq8,λi hi=>absurd hi (by simp)⟩;have hop:=au.rC (pk:=pk s) (N:=s.size) (λa h=>dD h) (X8 s) (s.size+1) 0 0 [] [] [] (by omega) (by simp) (by simp) (by simp);have hls:=au.lM (pk s) (s.size+1) 0 0 [] [] [];unfold chk at h0;rw[af6 (by omega)]at h0;unfold au.check at h0;cases hR:au.I4 (pk s) (s.size+1) 0 0 [] []with
 |error Ep=>
  obtain⟨E,p⟩:=Ep;rw[hR]at h h0;obtain⟨_,_,h3⟩:=h;exact absurd h0 h3
 |ok q=>
  obtain⟨a1,ts,cs⟩:=q;rw[hR]at h h0 hok;obtain⟨h1,h2,h3⟩:=h;obtain⟨_,p2,_⟩:=hok;simp only at h0;have ha:a1=s.size:=by
   by_cases ha:a1<s.size
   ·rw[af9 ha]at h0;simp at h0
   ·omega
  subst ha;have Yf:¬(7<ts.length\/4<cs.length):=by
   intro hm;rw[af6 (by omega),af9 hm]at h0;simp at h0
  rw[h1]at hg;obtain⟨g1,g2,g3⟩:=hg;have hsz:s.data.toList.length=s.size:=by simp
  rw[hR]at hls;rcases hP:au.jq (pk s) (s.size+1) 0 0 [] [] []with e|⟨b1,ts',cs',ps,m⟩
  ·rw[hP]at hls;cases hls
  ·rw[hP]at hls hf hla hop;cases hls;have hm:m=ps.length-1:=by
    rcases hla with⟨h,_⟩|h
    ·simp at h
    ·omega
   obtain⟨_,o2,_,_,_,o6,_⟩:=hop;simp at o6;refine⟨ts,cs,ps,by rw[hm],by omega,by omega,h2,h3,h1,λt ht=>by have:=g1 t ht;omega,λt ht=>by have:=g2 t ht;omega,?_,hf.1,?_,by omega⟩
   ·exact(List.pairwise_map.1 g3).imp (λh e=>h (ap7 _ e))
   ·have:=hf.2.1;omega
theorem Xa{ts:List Key}(h:au.Inv ts)(hl:ts.length<=7):∀x∈ts,∃l,keyOf prog 87 (bD x)=some l:=by
 intro x hx;obtain⟨i,hi,rfl⟩:=aj2 hx;rcases h.key i hi with⟨h1,h2,h3,h4⟩|⟨h1,h2,h3⟩|⟨h1,h2,h3⟩
 ·exact O6 _ (by omega) (by omega) (by omega)
 ·exact O6 _ (by omega) (by omega) (by omega)
 ·exact O6 _ (by omega) (by omega) (by omega)
theorem Qg{ts:List Key}{cs:List (Int×Nat)}(h:au.iZ ts cs)(hl:ts.length<=7):∀x∈cs,∃l,keyOf prog 90 (jG x)=some l:=by
 intro x hx;obtain⟨h1,h2⟩:=h x hx;exact YT _ (by omega) (by omega)
theorem OB{nt nc:Nat}{ps:List Key}(h:au.bI nt nc ps)(h1:nt<=1000)(h2:nc<=1000)(h3:ps.length<=1000):∀x∈ps,∃l,keyOf prog 93 (bD x)=some l:=by
 intro x hx;obtain⟨i,hi,rfl⟩:=aj2 hx;obtain⟨b1,b2,b3⟩:=(h.ok i hi).bd h1 h2 (by omega);exact O7 _ b1 b2 b3
end Go.Proofs.YthcppbmkacbbiaaGreat
