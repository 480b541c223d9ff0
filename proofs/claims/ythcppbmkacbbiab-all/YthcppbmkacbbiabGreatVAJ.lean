import Derived.Test.YthcppbmkacbbiabGreatVAI
set_option linter.unusedSimpArgs false
set_option maxHeartbeats 400000
namespace Go.Proofs.YthcppbmkacbbiabGreat
open Go.Proofs.Tryz
section
open Go.RowKit
open au (St put)
theorem EW{l:List UInt8}{x:Nat}{τ:St}(h:τ.E≠0):au.iK l x τ=τ:=by unfold au.iK;rw[an8 h]
theorem zI{l:List UInt8}{x:Nat}{τ:St}(h:τ.E=0)(hc:τ.C.contains (au.cut l x τ.a)=true):au.iK l x τ=τ:=by
 unfold au.iK;rw[ao4 h];unfold put;rw[ao4 hc]
theorem zJ{l:List UInt8}{x:Nat}{τ:St}(h:τ.E=0)(hc:τ.C.contains (au.cut l x τ.a)=false):au.iK l x τ={τ with C:=τ.C++[au.cut l x τ.a]}:=by
 unfold au.iK;rw[ao4 h];unfold put;rw[hc];rfl
theorem afO(B:Nat)(s:ByteArray)(k1 k2:Value)(n:Nat)(hs:s.size<=100)(hF:KP B s k1 k2 n):KP B s k1 k2 (n+1):=by
 intro w σ hr hn h;have bY:=Vp s;unfold au.aK;split
 ·rename_i mV;obtain⟨hE,hp⟩:=au.jE mV;have f1:=au.wS bY O mV;have hlt:=bY σ.a O;have hn':s.size+1-σ.a<=n+1:=by unfold au.need at hn;rw[ao4 hE]at hn;exact hn
  exact ah6 w B s σ k1 k2 hs hr n (F mV) hlt (hr.fw f1 rfl) (kH O (λ_=>anf)) hF h
 ·rename_i mV;have TS:au.aJ (pk s) σ 33=false:=by simpa using mV
  split
  ·rename_i h8;have Pn:au.aJ (pk s) σ 80=true\/au.aJ (pk s) σ 81=true:=(by simpa using h8);have adk:σ.E=0/\pk s σ.a≠0:=by
    obtain e|e:=Pn
    ·obtain⟨a1,a2⟩:=au.jE e;exact⟨a1,O⟩
    ·obtain⟨a1,a2⟩:=au.jE e;exact⟨a1,O⟩
   obtain⟨hE,hp⟩:=adk;have f1:au.Fw s.size σ {σ with a:=σ.a+1}:=by
    obtain e|e:=Pn
    ·exact au.wS bY O e
    ·exact au.wS bY O e
   have hlt:=bY σ.a hp;have tJ:=hr.d8 hE;have hn':s.size+1-σ.a<=n+1:=(by unfold au.need at hn;rw[ao4 hE]at hn;exact hn);have DX:au.kV s.size {σ with a:=σ.a+1}:=hr.fw f1 rfl;have rE:=DX.open bY tJ;have f2:=au.jV bY DX.top;have uK:au.need s.size (au.aG (pk s) {σ with a:=σ.a+1})<=n+1:=kH O (λ_=>by have:=f2.le;simp at this;omega);obtain⟨f3,d3⟩:=au.jU bY s.data.toList (n+1) (au.aG (pk s) {σ with a:=σ.a+1}) f2.top;rw[au.pF]at d3;generalize h5:(au.aN s.data.toList (pk s) (n+1) (au.aG (pk s) {σ with a:=σ.a+1})).1=σ5 at f3 d3;have f4:=au.mF bY f3.top;have ff:=((f1.trans f2).trans f3).trans f4;generalize ht:au.dA (pk s) σ5=τ at f4 ff;have gX:τ.C.length<=500:=(by have:=ff.c;have:=ff.top;have:=hr.c;have:=ff.le;omega);have Wh:1<=σ5.d/\σ5.d<=9:=(by simp at d3;omega);cases Qq:au.aJ (pk s) σ 80 with
   |true=>
    by_cases Fq:τ.E=0
    ·cases hc:τ.C.contains (au.cut s.data.toList σ.a τ.a)with
     |true=>
      rw[zI Fq hc];exact abx w B s σ k1 k2 hs hr n (F TS) (F Qq) O tJ rE uK σ5 (F h5) f3.top Wh τ (F ht) (F Fq) ff.le ff.top gX _ (F rfl) (F hc) h
     |false=>
      rw[zJ Fq hc];exact aby w B s σ k1 k2 hs hr n (F TS) (F Qq) O tJ rE uK σ5 (F h5) f3.top Wh τ (F ht) (F Fq) ff.le ff.top gX _ (F rfl) (F hc) h
    ·rw[EW Fq];exact abz w B s σ k1 k2 hs hr n (F TS) (F Qq) O tJ rE uK σ5 (F h5) f3.top Wh τ (F ht) (F Fq) h
   |false=>
    have h81:au.aJ (pk s) σ 81=true:=(by rw[Qq]at Pn;simpa using Pn);by_cases Fq:τ.E=0
    ·cases hc:τ.C.contains (au.cut s.data.toList σ.a τ.a)with
     |true=>
      rw[zI Fq hc];exact abu w B s σ k1 k2 hs hr n (F TS) (F Qq) (F h81) O tJ rE uK σ5 (F h5) f3.top Wh τ (F ht) (F Fq) ff.le ff.top gX _ (F rfl) (F hc) h
     |false=>
      rw[zJ Fq hc];exact abv w B s σ k1 k2 hs hr n (F TS) (F Qq) (F h81) O tJ rE uK σ5 (F h5) f3.top Wh τ (F ht) (F Fq) ff.le ff.top gX _ (F rfl) (F hc) h
    ·rw[EW Fq];exact abw w B s σ k1 k2 hs hr n (F TS) (F Qq) (F h81) O tJ rE uK σ5 (F h5) f3.top Wh τ (F ht) (F Fq) h
  ·rename_i h8;have Pn:au.aJ (pk s) σ 80=false/\au.aJ (pk s) σ 81=false:=(by simpa using h8);split
   ·rename_i iC;obtain⟨hE,hp⟩:=au.jE iC;have hlt:=bY σ.a O;have tJ:=hr.d8 hE;have hn':s.size+1-σ.a<=n+1:=(by unfold au.need at hn;rw[ao4 hE]at hn;exact hn);have JD:=hr.open bY tJ;have f2:=au.jV bY hr.top;have hn5:au.need s.size (au.aG (pk s) σ)<=n:=kH O (λe=>by
     have:=au.nH (pk s) σ e;rw[this.2.2.2];simp;omega)
    obtain⟨f3,d3⟩:=au.sN bY s.data.toList n (au.aG (pk s) σ) f2.top;have NQ:=JD.fw f3 d3;rw[au.pF]at d3;have hn6:1<=n:=O;have JH:(au.aK s.data.toList (pk s) n (au.aG (pk s) σ)).E=0->σ.a+1<=(au.aK s.data.toList (pk s) n (au.aG (pk s) σ)).a:=λe=>by
     have ho:(au.aG (pk s) σ).E=0:=Decidable.byContradiction λbg=>f3.dead bg e;have:=au.nH (pk s) σ ho;have I:=f3.le;rw[this.2.2.2]at I ⊢;simpa using I
    generalize h6:au.aK s.data.toList (pk s) n (au.aG (pk s) σ)=σ6 at f3 d3 NQ JH;have f4:=au.kZ bY (l:=[38,124,62,45]) (by rfl) f3.top;have d4:=au.wY (pk s) [38,124,62,45] σ6;have Yo:=NQ.fw f4 d4;cases h7:au.bF (pk s) [38,124,62,45] σ6 with
    |mk σ7 c7=>
     rw[h7]at f4 d4 Yo;simp only at f4 d4 Yo;have hn7:au.need s.size σ7<=n:=kH hn6 (λe=>by
      have ho:σ6.E=0:=Decidable.byContradiction λbg=>f4.dead bg e;have I:=JH ho;have M:=f4.le;omega)
     obtain⟨f5,d5⟩:=au.sN bY s.data.toList n σ7 f4.top;simp only;generalize h8e:au.aK s.data.toList (pk s) n σ7=σ8 at f5 d5;exact akI w B s σ k1 k2 hs hr n (F TS) (F Pn.1) (F Pn.2) (F iC) tJ JD hn5 hF σ6 (F h6) f3.top σ7 c7 (F h7) Yo hn7 σ8 (F h8e) f5.top O h
   ·rename_i iC;have al4:au.aJ (pk s) σ 40=false:=(by simpa using iC);obtain⟨f3,d3⟩:=au.jU bY s.data.toList (n+1) σ hr.top;have JD:=hr.fw f3 d3;have Tv:(au.aN s.data.toList (pk s) (n+1) σ).1.E=0->σ.E=0:=λe=>Decidable.byContradiction λbg=>f3.dead bg e;generalize h5:(au.aN s.data.toList (pk s) (n+1) σ).1=σ5 at f3 d3 JD Tv;have f4:=au.kZ bY (l:=[61]) (by rfl) f3.top;have d4:=au.wY (pk s) [61] σ5;have NQ:=JD.fw f4 d4;cases h6:au.bF (pk s) [61] σ5 with
    |mk σ6 c6=>
     rw[h6]at f4 d4 NQ;simp only at f4 d4 NQ;have hn6:au.need s.size σ6<=n+1:=kH O (λe=>by
      have ho:σ5.E=0:=Decidable.byContradiction λbg=>f4.dead bg e;have hE:=Tv ho;unfold au.need at hn;rw[ao4 hE]at hn;have:=f4.le;have:=f3.le;omega)
     exact akH w B s σ k1 k2 hs hr n (F TS) (F Pn.1) (F Pn.2) (F al4) hn σ5 (F h5) f3.top σ6 c6 (F h6) NQ hn6 h
theorem KX(B:Nat)(s:ByteArray)(k1 k2:Value)(hs:s.size<=100):∀n,KP B s k1 k2 n
 |0=>λw σ hr hn h=>absurd hn (by have:=Jh hr.top;omega)
 |n+1=>afO B s k1 k2 n hs (KX B s k1 k2 hs n)
def st0:St:=⟨0,0,0,[],[]⟩
def rstart(w:World)(s:ByteArray):World:=
 w.alloc (.cells #[.string s,A 0,A 0,A 0,.slice none 0 0,.slice none 0 0,.bool false,.slice none 0 0,.slice none 0 0] 168)
theorem zu(w:World)(s:ByteArray):RI (rstart w s) w.heap.size s st0 false (.slice none 0 0) (.slice none 0 0) where
 c0:=World.cell?_alloc_at _ _ _ _ rfl
 c1:=World.cell?_alloc_at _ _ _ _ rfl
 c2:=World.cell?_alloc_at _ _ _ _ rfl
 c3:=World.cell?_alloc_at _ _ _ _ rfl
 c6:=World.cell?_alloc_at _ _ _ _ rfl
 c7:=World.cell?_alloc_at _ _ _ _ rfl
 c8:=World.cell?_alloc_at _ _ _ _ rfl
 fz:=λ_=>World.frozen?_alloc_at _ _ _ _ rfl
 rows:=⟨.slice none 0 0,.slice none 0 0,World.cell?_alloc_at _ _ _ _ rfl,World.cell?_alloc_at _ _ _ _ rfl,World.ownsRow_nil _ _ _ _,World.ownsRow_nil _ _ _ _,Or.inl rfl⟩
theorem kG(w:World)(s:ByteArray):Below w.heap.size w (rstart w s):=(Below.refl _ _).alloc (an2 _) _
theorem CZ(N:Nat):au.kV N st0:=⟨ap7 _,ap7 _,λ_=>ap7 _,an2 _,an2 _⟩
theorem x9(N:Nat):au.need N st0<=N+1:=by unfold au.need;split<;>omega
def iV(s:ByteArray):St:=au.aK s.data.toList (pk s) (s.size+1) st0
section
variable (w:World) (s:ByteArray)
theorem Xx(hs:100<s.size)(hm:s.size<=maxLen) :
  Calls prog 80 #[.string s] w λe w'=>e=.returned (.tuple #[Aa w.heap.size 0,A 1,A 0])/\Ag w w':=by
 unfold maxLen at hm
 go_in
 go_wp2_with fail
 go_ret3
 exact⟨rfl,kG w s⟩
theorem abk(hs:s.size<=100)(τ:St)(HT:Hid (iV s=τ))(hE:τ.E≠0) :
  Calls prog 80 #[.string s] w λe w'=>e=.returned (.tuple #[Aa w.heap.size 0,A τ.E,A τ.a])/\Ag w w':=by
 have hb:decide ((100:Int)<(s.size:Int))=false:=anf
 have iD:(τ.E==0)=false:=by simpa using hE
 have fF:(τ.E != 0)=true:=by simpa using hE
 go_in
 go_wp2_with fail
 refine(KX w.heap.size s _ _ hs (s.size+1) (rstart w s) st0 (CZ _) (x9 _) (zu w s)).mono ?_;rw[show au.aK s.data.toList (pk s) (s.size+1) st0=τ from Z HT];rintro e w1 ⟨⟨b,rfl⟩,hI,hB⟩;have c1:=hI.c1;have c3:=hI.c3
 go_wp2_with fail
 go_quiet (fail)
 go_wp2_with fail
 go_ret3
 exact⟨rfl,((kG w s).trans hB).trans (below_drewN _ _ _)⟩
theorem abj(hs:s.size<=100)(τ:St)(HT:Hid (iV s=τ))(hE:τ.E=0)(hlt:τ.a<s.size) :
  Calls prog 80 #[.string s] w λe w'=>e=.returned (.tuple #[Aa w.heap.size 0,A 2,A τ.a])/\Ag w w':=by
 have hb:decide ((100:Int)<(s.size:Int))=false:=anf
 have iD:decide ((τ.a:Int)<(s.size:Int))=true:=anf
 have HE:=F hE
 go_in
 go_wp2_with fail
 refine(KX w.heap.size s _ _ hs (s.size+1) (rstart w s) st0 (CZ _) (x9 _) (zu w s)).mono ?_;rw[show au.aK s.data.toList (pk s) (s.size+1) st0=τ from Z HT];rintro e w1 ⟨⟨b,rfl⟩,hI,hB⟩;have c1:=hI.c1;have c3:=hI.c3;have f3:=hI.fz 3;rw[Z HE]at c3
 go_wp2_with fail
 go_quiet (fail)
 go_wp2_with fail
 go_ret3
 exact⟨rfl,(((kG w s).trans hB).trans (bU _ _ _ _)).trans (below_drewN _ _ _)⟩
theorem Xw(hs:s.size<=100)(τ:St)(HT:Hid (iV s=τ))(hE:τ.E=0)(hlt:¬τ.a<s.size)(af7:7<τ.T.length\/4<τ.C.length) :
  Calls prog 80 #[.string s] w λe w'=>e=.returned (.tuple #[Aa w.heap.size 0,A 4,A 0])/\Ag w w':=by
 have hb:decide ((100:Int)<(s.size:Int))=false:=anf
 have iD:decide ((τ.a:Int)<(s.size:Int))=false:=anf
 have HE:=F hE
 go_in
 go_wp2_with fail
 refine(KX w.heap.size s _ _ hs (s.size+1) (rstart w s) st0 (CZ _) (x9 _) (zu w s)).mono ?_;rw[show au.aK s.data.toList (pk s) (s.size+1) st0=τ from Z HT];rintro e w1 ⟨⟨b,rfl⟩,hI,hB⟩;have c1:=hI.c1;have c3:=hI.c3;rw[Z HE]at c3;obtain⟨v4,v5,r1,r2,r3,r4,r5⟩:=hI.rows;obtain⟨ao,cap,e4⟩:=bD r3;obtain⟨ao',qB,e5⟩:=bD r4;subst e4;subst e5;by_cases h7:7<τ.T.length
 ·have hb7:decide ((7:Int)<(τ.T.length:Int))=true:=anf
  go_wp2_with fail
  go_ret3
  exact⟨rfl,(kG w s).trans hB⟩
 ·have hb7:decide ((7:Int)<(τ.T.length:Int))=false:=anf
  have sD:decide ((4:Int)<(τ.C.length:Int))=true:=anf
  go_wp2_with fail
  go_ret3
  exact⟨rfl,(kG w s).trans hB⟩
theorem Eo(hs:s.size<=100)(τ:St)(HT:Hid (iV s=τ))(hE:τ.E=0)(hlt:¬τ.a<s.size)(h7:τ.T.length<=7)(h4:τ.C.length<=4) :
  Calls prog 80 #[.string s] w λe w'=>e=.returned (.tuple #[Aa w.heap.size 0,A 0,A 0])/\Ag w w'/\RI w' w.heap.size s τ false (.slice none 0 0) (.slice none 0 0):=by
 have hb:decide ((100:Int)<(s.size:Int))=false:=anf
 have iD:decide ((τ.a:Int)<(s.size:Int))=false:=anf
 have HE:=F hE
 go_in
 go_wp2_with fail
 refine(KX w.heap.size s _ _ hs (s.size+1) (rstart w s) st0 (CZ _) (x9 _) (zu w s)).mono ?_;rw[show au.aK s.data.toList (pk s) (s.size+1) st0=τ from Z HT];rintro e w1 ⟨⟨b,rfl⟩,hI,hB⟩;have c1:=hI.c1;have c3:=hI.c3;rw[Z HE]at c3;obtain⟨v4,v5,r1,r2,r3,r4,r5⟩:=hI.rows;obtain⟨ao,cap,e4⟩:=bD r3;obtain⟨ao',qB,e5⟩:=bD r4;subst e4;subst e5;have hb7:decide ((7:Int)<(τ.T.length:Int))=false:=anf
 have sD:decide ((4:Int)<(τ.C.length:Int))=false:=anf
 go_wp2_with fail
 go_ret3
 exact⟨rfl,(kG w s).trans hB,hI⟩
end
def yA(s:ByteArray):Int×Nat:=
 if 100<s.size then(1,0)else if (iV s).E≠0 then((iV s).E,(iV s).a)else if (iV s).a<s.size then(2,(iV s).a)
 else if 7<(iV s).T.length\/4<(iV s).C.length then(4,0)else(0,0)
theorem Aj(w:World)(s:ByteArray)(hm:s.size<=maxLen) :
  Calls prog 80 #[.string s] w λe w'=>e=.returned (.tuple #[Aa w.heap.size 0,A (yA s).1,A (yA s).2])/\Ag w w':=by
 unfold yA;by_cases hs:100<s.size
 ·rw[ao4 hs];exact Xx w s hs hm
 ·rw[an8 hs];have hs':s.size<=100:=O
  by_cases hE:(iV s).E≠0
  ·rw[ao4 hE];exact abk w s hs' _ (F rfl) hE
  ·rw[an8 hE];have hE':(iV s).E=0:=(by simpa using hE);by_cases I:(iV s).a<s.size
   ·rw[ao4 I];exact abj w s hs' _ (F rfl) hE' I
   ·rw[an8 I];by_cases M:7<(iV s).T.length\/4<(iV s).C.length
    ·rw[ao4 M];exact Xw w s hs' _ (F rfl) hE' I M
    ·rw[an8 M];refine(Eo w s hs' _ (F rfl) hE' I O O).mono ?_;rintro e w' ⟨rfl,h,_⟩;exact⟨rfl,h⟩
theorem XC(w:World)(s:ByteArray)(hm:s.size<=maxLen) :
  Calls prog 37 #[.string s] w λe w'=>e=.returned (.tuple #[A (yA s).1,A (yA s).2])/\Ag w w':=by
 have HR:=F (λw=>Aj w s hm);generalize yA s=c at HR
 go_in
 go_wp2_with fail
 refine((Z HR) _).mono ?_;rintro e w1 ⟨rfl,I⟩
 go_wp2_with fail
 go_ret2
 exact⟨rfl,I⟩
end
namespace au
def fQ(nt nc i:Nat)(q:Key):Prop:=
 (q.1=33/\q.2.1<i/\q.2.2=0)\/(aB q.1=true/\q.2.1<i/\q.2.2<i)\/((q.1=80\/q.1=81)/\q.2.1<nc/\q.2.2=0)\/(q.1=61/\q.2.1<nt/\q.2.2<nt)
theorem fQ.more{nt nc i nt' nc' i':Nat}{q:Key}(h:fQ nt nc i q)(I:nt<=nt')(M:nc<=nc')(h3:i<=i'):fQ nt' nc' i' q:=by
 unfold fQ at *;obtain⟨a,b,c⟩|⟨a,b,c⟩|⟨a,b,c⟩|⟨a,b,c⟩:=h
 ·exact Or.inl ⟨a,O,c⟩
 ·exact Or.inr (Or.inl ⟨a,O,O⟩)
 ·exact Or.inr (Or.inr (Or.inl ⟨a,O,c⟩))
 ·exact Or.inr (Or.inr (Or.inr ⟨a,O,O⟩))
theorem fQ.bd{nt nc i:Nat}{q:Key}(h:fQ nt nc i q)(I:nt<=1000)(M:nc<=1000)(h3:i<=1000):(0<=q.1/\q.1<=255)/\q.2.1<=1000/\q.2.2<=1000:=by
 unfold fQ at h;obtain⟨a,b,c⟩|⟨a,b,c⟩|⟨a,b,c⟩|⟨a,b,c⟩:=h
 ·omega
 ·simp[aB]at a;omega
 ·omega
 ·omega
structure bJ(nt nc:Nat)(ps:Ai):Prop where
 nd:ps.Nodup
 ok:∀i (h:i<ps.length),fQ nt nc i ps[i]
theorem bJ.more{nt nc nt' nc':Nat}{ps:Ai}(h:bJ nt nc ps)(I:nt<=nt')(M:nc<=nc'):bJ nt' nc' ps:=⟨h.nd,λi hi=>(h.ok i hi).more I M (an2 _)⟩
theorem bJ.put{nt nc:Nat}{ps:Ai}(h:bJ nt nc ps){q:Key}(hq:fQ nt nc ps.length q):bJ nt nc (put ps q):=by
 refine⟨zA q h.nd,?_⟩;unfold au.put;split
 ·exact h.ok
 ·intro i hi;by_cases hlt:i<ps.length
  ·rw[au6 hlt];exact h.ok i hlt
  ·have e:i=ps.length:=(by simp at hi;omega);subst e;rw[aA6 (an2 _)];simpa using hq
def agj(Y:Ai)(cs:Ah)(ps:Ai):RP->Prop
 |.error _=>True
 |.ok (_,aP,dQ,ps1,m)=>bJ aP.length dQ.length ps1/\m<ps1.length/\Y.length<=aP.length/\cs.length<=dQ.length/\ps <+: ps1
def YO(Y:Ai)(cs:Ah)(ps:Ai):RQ->Prop
 |.error _=>True
 |.ok (_,aP,dQ,ps1,q)=>bJ aP.length dQ.length ps1/\fQ aP.length dQ.length ps1.length q/\Y.length<=aP.length/\cs.length<=dQ.length/\ps <+: ps1
section
variable {pk:Nat->Int} {N:Nat}
theorem Eb{Y:Ai}{cs:Ah}{ps:Ai}{r:RQ}(h:YO Y cs ps r):agj Y cs ps (AY r):=by
 obtain e|⟨a1,aP,dQ,ps1,q⟩:=r
 ·trivial
 ·obtain⟨I,M,h3,h4,h5⟩:=h;exact⟨I.put M,lC _ _,h3,h4,h5.trans (vU q)⟩
theorem rX(bY:∀a,pk a≠0->a<N):∀(n a d:Nat) (Y:Ai) (cs:Ah) (ps:Ai),a<=N->bJ Y.length cs.length ps->agj Y cs ps (lG pk n a d Y cs ps):=by
 intro n
 induction n with
 |zero=>intro a d Y cs ps _ _;trivial
 |succ n ih=>
  intro a d Y cs ps ha hi;unfold lG;split
  ·rename_i e;have hl:=bY a O;have h:=ih (a+1) d Y cs ps O hi;refine Eb ?_;rcases hR:lG pk n (a+1) d Y cs ps with e|⟨a1,aP,dQ,ps1,m⟩
   ·trivial
   ·rw[hR]at h;obtain⟨I,M,h3,h4,h5⟩:=h;exact⟨I,Or.inl ⟨rfl,M,rfl⟩,h3,h4,h5⟩
  ·split
   ·rename_i e;have hl:=bY a O;refine Eb ?_;unfold ZA;split
    ·trivial
    ·have h:=ih (a+1) (d+1) Y cs ps O hi;have hF:=vW bY n (a+1) (d+1) Y cs O;rw[<-qZ pk n (a+1) (d+1) Y cs ps]at hF;rcases hR:lG pk n (a+1) (d+1) Y cs ps with e|⟨a1,aP,dQ,ps1,m1⟩
     ·trivial
     ·rw[hR]at h hF;obtain⟨I,M,h3,h4,h5⟩:=h;obtain⟨g1,g2,_⟩:=hF
      show YO Y cs ps (if aB (pk a1)=true then _ else _)
      split
      ·rename_i hj;have zM:=bY a1 (λe=>by rw[e]at hj;simp[aB]at hj);have h':=ih (a1+1) (d+1) aP dQ ps1 O I;rcases mX:lG pk n (a1+1) (d+1) aP dQ ps1 with e|⟨a2,ts2,Ce,ps2,m2⟩
       ·trivial
       ·rw[mX]at h';obtain⟨k1,k2,k3,k4,k5⟩:=h'
        show YO Y cs ps (if pk a2=41 then _ else _)
        split
        ·have:=k5.length_le;exact⟨k1,Or.inr (Or.inl ⟨hj,by show m1<ps2.length;omega,k2⟩),O,O,h5.trans k5⟩
        ·trivial
      ·trivial
   ·split
    ·rename_i e8;have hl:=bY a O;refine Eb ?_;have h':=lN bY (rec:=iU pk (n+1)) (a:=a+1) (d:=d) (Y:=Y) O (λiC=>eX bY _ _ _ _ (by have:=bY (a+1) O;omega));unfold rdC;rcases hR:arg1 pk (iU pk (n+1)) (a+1) d Y with e|⟨a1,aP,m⟩
     ·trivial
     ·rw[hR]at h';obtain⟨p1,p2,p3,p4,p5⟩:=h';have q:=gu cs (pk a,m);refine⟨hi.more p3 q.1,Or.inr (Or.inr (Or.inl ⟨e8,lC _ _,rfl⟩)),p3,q.1,av9 _⟩
    ·refine Eb ?_;have h:=eX bY (n+1) a d Y ha;unfold OC;rcases hR:iU pk (n+1) a d Y with e|⟨a1,aP,m1⟩
     ·trivial
     ·rw[hR]at h;obtain⟨p1,p2,p3,p4,p5⟩:=h
      show YO Y cs ps (if pk a1=61 then _ else _)
      split
      ·rename_i jP;have zM:=bY a1 O;have M:=eX bY (n+1) (a1+1) d aP O;rcases mX:iU pk (n+1) (a1+1) d aP with e|⟨a2,ts2,m2⟩
       ·trivial
       ·rw[mX]at M;obtain⟨q1,q2,q3,q4,q5⟩:=M;exact⟨hi.more O (an2 _),Or.inr (Or.inr (Or.inr ⟨rfl,by show m1<ts2.length;omega,q5⟩)),O,an2 _,av9 _⟩
      ·trivial
def afX(ps:Ai):RP->Prop
 |.error _=>True
 |.ok (_,_,_,ps1,m)=>(m<ps.length/\ps1=ps)\/m+1=ps1.length
def Yf(ps:Ai):RQ->Prop
 |.error _=>True
 |.ok (_,_,_,ps1,q)=>q∈ps1->ps1=ps
theorem DI{ps:Ai}{r:RQ}(h:Yf ps r):afX ps (AY r):=by
 obtain e|⟨a1,aP,dQ,ps1,q⟩:=r
 ·trivial
 ·by_cases hq:q∈ps1
  ·have e:=h hq;subst e;refine Or.inl ⟨ar0 hq,?_⟩;unfold au.put;rw[ao4 (by simpa using hq)]
  ·refine Or.inr ?_;unfold au.put;rw[an8 (by simpa using hq),as3 hq];simp
theorem Yi{nt nc:Nat}{ps:Ai}(h:bJ nt nc ps){q:Key}(hq:q∈ps):∃j,j<ps.length/\fQ nt nc j q:=by
 obtain⟨j,hj,e⟩:=ar6 hq;exact⟨j,hj,by rw[<-e];exact h.ok j hj⟩
theorem acM(bY:∀a,pk a≠0->a<N):∀(n a d:Nat) (Y:Ai) (cs:Ah) (ps:Ai),a<=N->bJ Y.length cs.length ps->afX ps (lG pk n a d Y cs ps):=by
 intro n
 induction n with
 |zero=>intro a d Y cs ps _ _;trivial
 |succ n ih=>
  intro a d Y cs ps ha hi;unfold lG;split
  ·rename_i e;have hl:=bY a O;have h:=ih (a+1) d Y cs ps O hi;have hf:=rX bY n (a+1) d Y cs ps O hi;refine DI ?_;rcases hR:lG pk n (a+1) d Y cs ps with e|⟨a1,aP,dQ,ps1,m⟩
   ·trivial
   ·rw[hR]at h hf;intro hq;obtain⟨j,hj,ho⟩:=Yi hf.1 hq;obtain⟨_,M⟩|M:=h
    ·exact M
    ·obtain⟨_,b,_⟩|⟨a,_,_⟩|⟨a,_,_⟩|⟨a,_,_⟩:=ho
     ·simp only at b;omega
     ·simp[aB]at a
     ·simp at a
     ·simp at a
  ·split
   ·rename_i e;have hl:=bY a O;refine DI ?_;unfold ZA;split
    ·trivial
    ·have h:=ih (a+1) (d+1) Y cs ps O hi;have hf:=rX bY n (a+1) (d+1) Y cs ps O hi;have hF:=vW bY n (a+1) (d+1) Y cs O;rw[<-qZ pk n (a+1) (d+1) Y cs ps]at hF;rcases hR:lG pk n (a+1) (d+1) Y cs ps with e|⟨a1,aP,dQ,ps1,m1⟩
     ·trivial
     ·rw[hR]at h hF hf;obtain⟨g1,g2,_⟩:=hF
      show Yf ps (if aB (pk a1)=true then _ else _)
      split
      ·rename_i hj;have zM:=bY a1 (λe=>by rw[e]at hj;simp[aB]at hj);have h':=ih (a1+1) (d+1) aP dQ ps1 O hf.1;have O5:=rX bY n (a1+1) (d+1) aP dQ ps1 O hf.1;rcases mX:lG pk n (a1+1) (d+1) aP dQ ps1 with e|⟨a2,ts2,Ce,ps2,m2⟩
       ·trivial
       ·rw[mX]at h' O5
        show Yf ps (if pk a2=41 then _ else _)
        split
        ·intro hq;obtain⟨j,uN,ho⟩:=Yi O5.1 hq;have hb:m1<j/\m2<j:=by
          obtain⟨a,_,_⟩|⟨_,b,c⟩|⟨a,_,_⟩|⟨a,_,_⟩:=ho
          ·simp only at a;rw[a]at hj;simp[aB]at hj
          ·exact⟨b,c⟩
          ·simp only at a;obtain a|a:=a<;>(rw[a]at hj;simp[aB]at hj)
          ·simp only at a;rw[a]at hj;simp[aB]at hj
         obtain⟨_,e2⟩|e2:=h'
         ·subst e2;obtain⟨_,e1⟩|e1:=h
          ·exact e1
          ·omega
         ·omega
        ·trivial
      ·trivial
   ·split
    ·refine DI ?_;unfold rdC;obtain e|⟨a1,aP,m⟩:=arg1 pk (iU pk (n+1)) (a+1) d Y
     ·trivial
     ·intro _;rfl
    ·refine DI ?_;unfold OC;obtain e|⟨a1,aP,m1⟩:=iU pk (n+1) a d Y
     ·trivial
     ·show Yf ps (if pk a1=61 then _ else _)
      split
      ·obtain e|⟨a2,ts2,m2⟩:=iU pk (n+1) (a1+1) d aP
       ·trivial
       ·intro _;rfl
      ·trivial
end
end au
open Go.RowKit Go.Maps Go.WideMaps
open au (Key put St)
def chk(s:ByteArray):Int×Nat:=if 100<s.size then(1,0)else au.check (pk s) s.size
def ctx(Y:Ai)(cs:Ah):List (List UInt8):=cs.map (au.dH (au.texts Y))
theorem ach(s:ByteArray):pk s=au.bK s.data.toList:=by
 funext a;unfold pk au.bK;by_cases h:a<s.size
 ·have h':a<s.data.toList.length:=by simpa using h
  rw[dif_pos h,an3 h'];simp[ar4]
 ·have h':¬a<s.data.toList.length:=by simpa using h
  rw[dif_neg h,List.getElem?_eq_none O]
theorem Q7(s:ByteArray):au.afM 0 (au.UE (pk s) (s.size+1) 0 0 [] []) (iV s):=by
 have h:=au.Dj (l:=s.data.toList) (s.size+1) 0 0 [] [] (ap7 _) R au.Yh (λc hc=>by cases hc);unfold iV;rw[ach];exact h
theorem qU(s:ByteArray):yA s=chk s:=by
 unfold yA chk;by_cases hs:100<s.size
 ·rw[ao4 hs,ao4 hs]
 ·rw[an8 hs,an8 hs];have h:=Q7 s;unfold au.check;cases hR:au.UE (pk s) (s.size+1) 0 0 [] []with
  |error Ep=>
   obtain⟨E,p⟩:=Ep;rw[hR]at h;obtain⟨I,M,h3⟩:=h;rw[ao4 (by rw[I];exact h3),I,M]
  |ok q=>
   obtain⟨a1,Y,cs⟩:=q;rw[hR]at h;obtain⟨I,M,h3⟩:=h;rw[I];simp[au.aO]
theorem aeO(s:ByteArray):au.Gd s.data.toList (iV s):=by
 unfold iV;exact au.WM _ _ ⟨λt ht=>(by cases ht),λt ht=>(by cases ht),List.Pairwise.nil⟩
theorem ji(s:ByteArray)(hs:s.size<=100)(h0:(chk s).1=0):∃Y cs ps,au.lG (pk s) (s.size+1) 0 0 [] [] []=.ok (s.size,Y,cs,ps,ps.length-1)/\Y.length<=7/\cs.length<=4/\au.Inv Y/\au.kD Y cs/\
  iV s=⟨s.size,0,0,au.texts Y,ctx Y cs⟩/\(∀t∈au.texts Y,t.length<=100)/\(∀t∈ctx Y cs,t.length<=100)/\cs.Nodup/\au.bJ Y.length cs.length ps/\0<ps.length/\ps.length<=100:=by
 have h:=Q7 s;have hg:=aeO s;have iq:=au.vW (pk:=pk s) (N:=s.size) (λa h=>dW h) (s.size+1) 0 0 [] [] O;have hf:=au.rX (pk:=pk s) (N:=s.size) (λa h=>dW h) (s.size+1) 0 0 [] [] [] O ⟨az6,λi hi=>absurd hi R⟩;have hla:=au.acM (pk:=pk s) (N:=s.size) (λa h=>dW h) (s.size+1) 0 0 [] [] [] O ⟨az6,λi hi=>absurd hi R⟩;have VU:=au.zB (pk:=pk s) (N:=s.size) (λa h=>dW h) (afV s) (s.size+1) 0 0 [] [] [] O R R R;have uM:=au.qZ (pk s) (s.size+1) 0 0 [] [] [];unfold chk at h0;rw[an8 O]at h0;unfold au.check at h0;cases hR:au.UE (pk s) (s.size+1) 0 0 [] []with
 |error Ep=>
  obtain⟨E,p⟩:=Ep;rw[hR]at h h0;obtain⟨_,_,h3⟩:=h;exact absurd h0 h3
 |ok q=>
  obtain⟨a1,Y,cs⟩:=q;rw[hR]at h h0 iq;obtain⟨I,M,h3⟩:=h;obtain⟨_,p2,_⟩:=iq;simp only at h0;have ha:a1=s.size:=by
   by_cases ha:a1<s.size
   ·rw[ao4 ha]at h0;simp at h0
   ·omega
  subst ha;have af7:¬(7<Y.length\/4<cs.length):=by
   intro hm;rw[an8 O,ao4 hm]at h0;simp at h0
  rw[I]at hg;obtain⟨g1,g2,g3⟩:=hg;have eH:s.data.toList.length=s.size:=R
  rw[hR]at uM;rcases hP:au.lG (pk s) (s.size+1) 0 0 [] [] []with e|⟨b1,ts',cs',ps,m⟩
  ·rw[hP]at uM;cases uM
  ·rw[hP]at uM hf hla VU;cases uM;have hm:m=ps.length-1:=by
    obtain⟨h,_⟩|h:=hla
    ·simp at h
    ·omega
   obtain⟨_,o2,_,_,_,o6,_⟩:=VU;simp at o6;refine⟨Y,cs,ps,by rw[hm],O,O,M,h3,I,λt ht=>by have:=g1 t ht;omega,λt ht=>by have:=g2 t ht;omega,?_,hf.1,?_,O⟩
   ·exact(List.pairwise_map.1 g3).imp (λh e=>h (ax1 _ e))
   ·have:=hf.2.1;omega
theorem ae9{Y:Ai}(h:au.Inv Y)(hl:Y.length<=7):∀x∈Y,∃l,keyOf prog 76 (bZ x)=some l:=by
 intro x hx;obtain⟨i,hi,rfl⟩:=ar6 hx;obtain⟨I,M,h3,h4⟩|⟨I,M,h3⟩|⟨I,M,h3⟩:=h.key i hi
 ·exact aai _ O O O
 ·exact aai _ O O O
 ·exact aai _ O O O
theorem aa1{Y:Ai}{cs:Ah}(h:au.kD Y cs)(hl:Y.length<=7):∀x∈cs,∃l,keyOf prog 79 (mZ x)=some l:=by
 intro x hx;obtain⟨I,M⟩:=h x hx;exact afa _ O O
theorem ZF{nt nc:Nat}{ps:Ai}(h:au.bJ nt nc ps)(I:nt<=1000)(M:nc<=1000)(h3:ps.length<=1000):∀x∈ps,∃l,keyOf prog 82 (bZ x)=some l:=by
 intro x hx;obtain⟨i,hi,rfl⟩:=ar6 hx;obtain⟨b1,b2,b3⟩:=(h.ok i hi).bd I M O;exact aaj _ b1 b2 b3
end Go.Proofs.YthcppbmkacbbiabGreat
