import Derived.Test.YthcppbmkacbbiabGreatVBC
set_option linter.unusedSimpArgs false
set_option maxHeartbeats 8000000
set_option maxRecDepth 100000
namespace Go.Proofs.YthcppbmkacbbiabGreat
open Go.Proofs.Tryz
open Go.RowKit Go.Maps Go.WideMaps
open Sat (View Rule og dN)
open au (Key put)
def VK(w w':World):Prop:=∀(k:Nat) (cur:Array Value) (t:TypeId) (x:Nat×Nat),t≠130->t≠203->w.heap[k]?=some (Obj.cells cur t x)->w'.heap[k]?=some (Obj.cells cur t x)
theorem aZ{w w':World}(h:VK w w'){k:Nat}{cur:Array Value}{t:TypeId}{x:Nat×Nat}(e:w.heap[k]?=some (Obj.cells cur t x))(I:t≠130:=by decide)(M:t≠203:=by decide):w'.heap[k]?=some (Obj.cells cur t x):=h k cur t x I M e
theorem VK.refl(w:World):VK w w:=λ_ _ _ _ _ _ h=>h
theorem VK.trans{a b c:World}(h:VK a b)(k:VK b c):VK a c:=λi cur t x I M e=>k i cur t x I M (h i cur t x I M e)
theorem VK.grown{w w':World}(h:w.grownBy w' none):VK w w':=λk cur t x _ _ e=>(h.block k (an0.1 e).1 R).trans e
theorem VK.map{w w':World}{b:Nat}(h:w.grownBy w' (some b))(hb:∀cur t x,w.heap[b]?≠some (Obj.cells cur t x)):VK w w':=λk cur t x _ _ e=>(h.block k (an0.1 e).1 (λe2=>by cases e2;exact hb _ _ _ e)).trans e
theorem VK.but{S:Nat->Prop}{w w':World}(h:But S w w')(hS:∀k,S k->∀cur t x,t≠130->t≠203->w.heap[k]?≠some (Obj.cells cur t x)):VK w w':=λk cur t x I M e=>(h.block k (an0.1 e).1 (λe2=>hS k e2 cur t x I M e)).trans e
theorem aT.noC{w:World}{k b:Nat}{kv:Key->Value}{Y:Ai}(h:aT w k b kv Y):∀cur t x,w.heap[b]?≠some (Obj.cells cur t x):=by
 obtain⟨D,⟨es,c,I,_⟩,_⟩:=h;intro cur t x e;rw[I]at e;cases e
theorem xE.noC{w:World}{lb:Nat}{mu ms:Option Nat}{rv:Value}(h:xE w lb mu ms rv):∀cur t x,t≠203->w.heap[lb]?≠some (Obj.cells cur t x):=by
 intro cur t x ht e;rw[h.out]at e;simp at e;exact ht e.2.1.symm
theorem dM.noC{w:World}{rv:Value}{ak:List Rule}(h:dM w rv ak):∀k,some k=rv.ownBlock->∀cur t x,t≠130->w.heap[k]?≠some (Obj.cells cur t x):=by
 obtain⟨vs,⟨I,M⟩,h3⟩:=h;intro k hk cur t x ht e;obtain⟨rfl,_⟩|⟨g,cap,G9,rfl,q2,q3,q4⟩:=M
 ·cases hk
 ·cases hk;rw[q3]at e;simp at e;exact ht e.2.1.symm
theorem jT(x:Nat)(i:Bool)(w:World):Calls prog 127 #[.agg #[A x,.bool i]] w λe w'=>e=.returned (.agg #[A x,.bool (!i)])/\w.grownBy w' none:=Qw (x,i) w
theorem aei(w:World)(a:View):bQ (w.alloc (.cells #[A a.1,.bool a.2] 207)) (Ac w.heap.size 0 1 1) [a]:=by
 refine Or.inr ⟨w.heap.size,1,_,_,rfl,ap5 _ _,R,λi hi=>?_⟩;have:i=0:=by simp at hi;omega
 subst this;exact⟨rfl,rfl⟩
theorem aeh(w:World)(a b:View):bQ (w.alloc (.cells #[.int .i64 a.1,.bool a.2,.int .i64 b.1,.bool b.2] 207)) (.slice (some ⟨w.heap.size,0,none⟩) 2 2) [a,b]:=by
 refine Or.inr ⟨w.heap.size,2,_,_,rfl,ap5 _ _,R,λi hi=>?_⟩
 match i,hi with
 |0,_=>exact⟨rfl,rfl⟩
 |1,_=>exact⟨rfl,rfl⟩
theorem wQ(w:World)(a b c:View):bQ (w.alloc (.cells #[.int .i64 a.1,.bool a.2,.int .i64 b.1,.bool b.2,.int .i64 c.1,.bool c.2] 207)) (.slice (some ⟨w.heap.size,0,none⟩) 3 3) [a,b,c]:=by
 refine Or.inr ⟨w.heap.size,3,_,_,rfl,ap5 _ _,R,λi hi=>?_⟩
 match i,hi with
 |0,_=>exact⟨rfl,rfl⟩
 |1,_=>exact⟨rfl,rfl⟩
 |2,_=>exact⟨rfl,rfl⟩
theorem fH(X:Nat->Prop)(n0:Nat)(w:World)(lb BU BS:Nat)(f:Key->Key)(dom:Key->Prop)(Us:Ai)(ak:List Rule)(L:List (List dw))(v:Value)(ls:List dw)(h:LG n0 w lb BU BS f dom Us ak X)(hX:∀k,X k->k<w.heap.size)(hP:vG Us ak L)(hv:bQ w v (ls.map (vw Us)))
 (h0:ls≠[])(hl:ls.length<=500)(hm:∀l∈ls,l.1∈Us)(hn:n0<=w.heap.size)(hr:ak.length<=100000) :
  Calls prog 124 #[Aa lb 0,v] w λe w'=>(∃z,e=.returned z)/\∃dR,LG n0 w' lb BU BS f dom Us dR X/\vG Us dR (L++[ls])/\Below n0 w w'/\VK w w':=by
 obtain⟨rv,I,M,h3⟩:=h.rv;refine(WX X w lb (some BU) (some BS) rv ak I M hX v _ hv (by simpa using hl) hr).mono ?_;rintro e w' ⟨hz,rv',hL,hR,hb,ho⟩;obtain⟨g1,g2⟩:=h.dem I M.v h3 hn hL hR hb ho;refine⟨hz,_,g1,hP.demand h0 O hm,g2,VK.but hb (λk e cur t x t1 t2=>?_)⟩;obtain e|e:=e
 ·rw[e];exact I.noC cur t x t2
 ·exact M.v.noC k e cur t x t1
theorem FH(X:Nat->Prop)(n0:Nat)(w:World)(lb BU BS:Nat)(f:Key->Key)(dom:Key->Prop)(Us:Ai)(aW:List Rule)(L:List (List dw))(lw lf ls:dw)(wM:LG n0 w lb BU BS f dom Us aW X)(hX:∀k,X k->k<w.heap.size)(WC:vG Us aW L)(VY:lw.1∈Us)(Yu:lf.1∈Us)(Yt:ls.1∈Us)(hn:n0<=w.heap.size)(hR:L.length<=90000) :
  Calls prog 164 #[Aa lb 0,vV (vw Us lw),vV (vw Us lf),vV (vw Us ls)] w λe w'=>(∃z,e=.returned z)/\∃dR,LG n0 w' lb BU BS f dom Us dR X/\vG Us dR (L++y9 lw lf ls)/\Below n0 w w'/\VK w w':=by
 obtain⟨xw,hxw⟩:∃x,Us.idxOf lw.1=x:=⟨_,rfl⟩;obtain⟨xf,LW⟩:∃x,Us.idxOf lf.1=x:=⟨_,rfl⟩;obtain⟨xs,VL⟩:∃x,Us.idxOf ls.1=x:=⟨_,rfl⟩;obtain⟨iw,hiw⟩:∃x,lw.2=x:=⟨_,rfl⟩;obtain⟨jf,hif⟩:∃x,lf.2=x:=⟨_,rfl⟩;obtain⟨js,his⟩:∃x,ls.2=x:=⟨_,rfl⟩;have L0:=L;have ahF:aW.length<=100000:=by rw[WC.len];omega
 unfold vV vw;rw[hxw,LW,VL,hiw,hif,his];obtain⟨W0,Io⟩:∃W0,((w.alloc (.cells #[A xw,.bool iw] 207)).alloc (.cells #[A xf,.bool jf] 207)).alloc (.cells #[A xs,.bool js] 207)=W0:=⟨_,rfl⟩;have Ql:w.grownBy W0 none:=by rw[<-Io];exact((an1 _ _ none).trans (an1 _ _ none)).trans (an1 _ _ none)
 have bw0:W0.heap[w.heap.size]?=some (.cells #[A xw,.bool iw] 207 (0,0)):=by
  rw[<-Io,ao3 _ _ _ anf,ao3 _ _ _ R,ap5]
 have bf0:W0.heap[w.heap.size+1]?=some (.cells #[A xf,.bool jf] 207 (0,0)):=by
  have e:w.heap.size+1=(w.alloc (.cells #[A xw,.bool iw] 207)).heap.size:=R
  rw[<-Io,ao3 _ _ _ R,e,ap5]
 have bs0:W0.heap[w.heap.size+1+1]?=some (.cells #[A xs,.bool js] 207 (0,0)):=by
  have e:w.heap.size+1+1=((w.alloc (.cells #[A xw,.bool iw] 207)).alloc (.cells #[A xf,.bool jf] 207)).heap.size:=R
  rw[<-Io,e,ap5]
 have adD:=wM.grow Ql;have mg:Below n0 w W0:=(But.aC Ql).below hn (λk _ e=>by cases e);have NK:VK w W0:=VK.grown Ql;have Gh:=Ql.size;clear wM
 go_in
 go_wp2_with fail
 clear Io;obtain⟨V0,hV0⟩:∃V,W0.drew=V:=⟨_,rfl⟩;have GY:W0.grownBy V0 none:=by rw[<-hV0];exact⟨rfl,rfl,rfl,an2 _,λ_ _ _=>rfl⟩
 refine aq8 (S:=λW'=>VK V0 W') rfl ?_;have aA:VK V0 V0:=VK.refl _;have TP:V0.grownBy V0 none:=as8 _ _;simp only[ao5,ao1,ap0,Nat.reduceAdd,an7,an6,ao6,ao8,ao7];change wpAnyH prog .any _ _ _ _ _ _ W0.drew;rw[hV0];clear hV0;have cw0:V0.heap[w.heap.size]?=some (.cells #[A xw,.bool iw] 207 (0,0)):=(GY.block _ (an0.1 bw0).1 R).trans bw0;have dw0:V0.cell? (J w.heap.size 0)=some (A xw):=by rw[cell_of cw0];rfl
 have ew0:V0.cell? (J w.heap.size 1)=some (.bool iw):=by rw[cell_of cw0];rfl
 have cf0:V0.heap[w.heap.size+1]?=some (.cells #[A xf,.bool jf] 207 (0,0)):=(GY.block _ (an0.1 bf0).1 R).trans bf0;have df0:V0.cell? (J (w.heap.size+1) 0)=some (A xf):=by rw[cell_of cf0];rfl
 have ef0:V0.cell? (J (w.heap.size+1) 1)=some (.bool jf):=by rw[cell_of cf0];rfl
 have cs0:V0.heap[w.heap.size+1+1]?=some (.cells #[A xs,.bool js] 207 (0,0)):=(GY.block _ (an0.1 bs0).1 R).trans bs0;have ds0:V0.cell? (J (w.heap.size+1+1) 0)=some (A xs):=by rw[cell_of cs0];rfl
 have es0:V0.cell? (J (w.heap.size+1+1) 1)=some (.bool js):=by rw[cell_of cs0];rfl
 have TN:=adD.grow GY;refine dF 0 (Aa lb 0) aA ?_
 simp only[aF];refine tH 1 (.agg #[A xw,.bool iw]) (λw' hS=>?_) aA ?_
 ·have q:=aZ hS cw0;have q0:=(cell_of q 0);have q1:=(cell_of q 1)
  go_simp
 simp only[aF];refine tH 3 (.agg #[A xf,.bool jf]) (λw' hS=>?_) aA ?_
 ·have q:=aZ hS cf0;have q0:=(cell_of q 0);have q1:=(cell_of q 1)
  go_simp
 simp only[aF];refine oH 2 (λK hK=>?_);go_simp;refine(jT xw iw V0).mono ?_;rintro e n02 ⟨rfl,ajr⟩;replace aA:=aA.trans (VK.grown ajr);refine hK.out _ _ aA ?_;clear hK K;replace TP:=TP.trans ajr;refine oH 4 (λK hK=>?_);go_simp;replace aA:=aA.trans (VK.grown (an1 _ (.cells #[A xw,.bool (!iw),A xf,.bool jf] 207) none));refine hK.out _ _ aA ?_;clear hK K;replace TP:=TP.trans (an1 _ (.cells #[A xw,.bool (!iw),A xf,.bool jf] 207) none);have akb:=TN.grow TP;have afd:=TP.size;have ams:=GY.size;have agX:bQ (n02.alloc (.cells #[A xw,.bool (!iw),A xf,.bool jf] 207)) (Ac n02.heap.size 0 2 2) ([nl lw,lf].map (vw Us)):=by
  have:=aeh n02 (xw,!iw) (xf,jf);simpa[vw,nl,<-hxw,<-hiw,<-LW,<-hif,<-VL,<-his]using this
 refine oH 5 (λK hK=>?_);go_simp;refine(fH X n0 (n02.alloc (.cells #[A xw,.bool (!iw),A xf,.bool jf] 207)) lb BU BS f dom Us aW (L) _ [nl lw,lf] akb (λk h=>by have:=hX k h;simp at afd ⊢;omega) WC agX R R (by simpa[nl]using ⟨VY,Yu⟩) (by simp at afd ⊢;omega) ahF).mono ?_;rintro e z0 ⟨⟨r0,rfl⟩,IY,D8,Wy,aaL,aaw⟩;refine hK.out _ _ (aA.trans aaw) (ar2 (by kernel_rfl) ?_ _);clear hK K;have ahE:IY.length<=100000:=by rw[Wy.len];simp;omega
 have JA:VK W0 z0:=(VK.grown (GY.trans TP)).trans aaw;have Wp:Below n0 W0 z0:=((But.aC (GY.trans TP)).below O (λk _ e=>by cases e)).trans aaL;have bw1:=aZ JA bw0;have bf1:=aZ JA bf0;have bs1:=aZ JA bs0;have ai0:w.heap.size<=z0.heap.size:=ap3 O Wp.size;have D7:=mg.trans Wp;have DV:=NK.trans JA;clear mg NK;have mg:=D7;have NK:=DV;clear D7 DV aaL aaw JA Wp bw0 bf0 bs0 adD TN WC cw0 cf0 cs0 dw0 df0 ds0 ew0 ef0 es0
 go_wp2_with fail
 obtain⟨V1,Ws⟩:∃V,z0.drew=V:=⟨_,rfl⟩;have BL:z0.grownBy V1 none:=by rw[<-Ws];exact⟨rfl,rfl,rfl,an2 _,λ_ _ _=>rfl⟩
 refine aq8 (S:=λW'=>VK V1 W') rfl ?_;have aA:VK V1 V1:=VK.refl _;have AV:V1.grownBy V1 none:=as8 _ _;simp only[ao5,ao1,ap0,Nat.reduceAdd,an7,an6,ao6,ao8,ao7];change wpAnyH prog .any _ _ _ _ _ _ z0.drew;rw[Ws];clear Ws;have cw1:V1.heap[w.heap.size]?=some (.cells #[A xw,.bool iw] 207 (0,0)):=(BL.block _ (an0.1 bw1).1 R).trans bw1;have dw1:V1.cell? (J w.heap.size 0)=some (A xw):=by rw[cell_of cw1];rfl
 have ew1:V1.cell? (J w.heap.size 1)=some (.bool iw):=by rw[cell_of cw1];rfl
 have cf1:V1.heap[w.heap.size+1]?=some (.cells #[A xf,.bool jf] 207 (0,0)):=(BL.block _ (an0.1 bf1).1 R).trans bf1;have df1:V1.cell? (J (w.heap.size+1) 0)=some (A xf):=by rw[cell_of cf1];rfl
 have ef1:V1.cell? (J (w.heap.size+1) 1)=some (.bool jf):=by rw[cell_of cf1];rfl
 have dQ:V1.heap[w.heap.size+1+1]?=some (.cells #[A xs,.bool js] 207 (0,0)):=(BL.block _ (an0.1 bs1).1 R).trans bs1;have ds1:V1.cell? (J (w.heap.size+1+1) 0)=some (A xs):=by rw[cell_of dQ];rfl
 have es1:V1.cell? (J (w.heap.size+1+1) 1)=some (.bool js):=by rw[cell_of dQ];rfl
 have TM:=D8.grow BL;refine dF 0 (Aa lb 0) aA ?_
 simp only[aF];refine tH 1 (.agg #[A xw,.bool iw]) (λw' hS=>?_) aA ?_
 ·have q:=aZ hS cw1;have q0:=(cell_of q 0);have q1:=(cell_of q 1)
  go_simp
 simp only[aF];refine tH 3 (.agg #[A xs,.bool js]) (λw' hS=>?_) aA ?_
 ·have q:=aZ hS dQ;have q0:=(cell_of q 0);have q1:=(cell_of q 1)
  go_simp
 simp only[aF];refine oH 2 (λK hK=>?_);go_simp;refine(jT xw iw V1).mono ?_;rintro e n12 ⟨rfl,ajq⟩;replace aA:=aA.trans (VK.grown ajq);refine hK.out _ _ aA ?_;clear hK K;replace AV:=AV.trans ajq;refine oH 4 (λK hK=>?_);go_simp;replace aA:=aA.trans (VK.grown (an1 _ (.cells #[A xw,.bool (!iw),A xs,.bool js] 207) none));refine hK.out _ _ aA ?_;clear hK K;replace AV:=AV.trans (an1 _ (.cells #[A xw,.bool (!iw),A xs,.bool js] 207) none);have adB:=TM.grow AV;have vZ:=AV.size;have aiW:=BL.size;have agW:bQ (n12.alloc (.cells #[A xw,.bool (!iw),A xs,.bool js] 207)) (Ac n12.heap.size 0 2 2) ([nl lw,ls].map (vw Us)):=by
  have:=aeh n12 (xw,!iw) (xs,js);simpa[vw,nl,<-hxw,<-hiw,<-LW,<-hif,<-VL,<-his]using this
 refine oH 5 (λK hK=>?_);go_simp;refine(fH X n0 (n12.alloc (.cells #[A xw,.bool (!iw),A xs,.bool js] 207)) lb BU BS f dom Us IY (L++[[nl lw,lf]]) _ [nl lw,ls] adB (λk h=>by have:=hX k h;simp at vZ ⊢;omega) Wy agW R R (by simpa[nl]using ⟨VY,Yt⟩) (by simp at vZ ⊢;omega) ahE).mono ?_;rintro e z1 ⟨⟨r1,rfl⟩,IX,AU,BN,TA,GN⟩;refine hK.out _ _ (aA.trans GN) (ar2 (by kernel_rfl) ?_ _);clear hK K;have ahD:IX.length<=100000:=by rw[BN.len];simp;omega
 have Jz:VK z0 z1:=(VK.grown (BL.trans AV)).trans GN;have Wn:Below n0 z0 z1:=((But.aC (BL.trans AV)).below O (λk _ e=>by cases e)).trans TA;have bw2:=aZ Jz bw1;have bf2:=aZ Jz bf1;have bs2:=aZ Jz bs1;have aiZ:w.heap.size<=z1.heap.size:=ap3 O Wn.size;have D7:=mg.trans Wn;have DV:=NK.trans Jz;clear mg NK;have mg:=D7;have NK:=DV;clear D7 DV TA GN Jz Wn bw1 bf1 bs1 D8 TM Wy cw1 cf1 dQ dw1 df1 ds1 ew1 ef1 es1
 go_wp2_with fail
 obtain⟨V2,hV2⟩:∃V,z1.drew=V:=⟨_,rfl⟩;have BK:z1.grownBy V2 none:=by rw[<-hV2];exact⟨rfl,rfl,rfl,an2 _,λ_ _ _=>rfl⟩
 refine aq8 (S:=λW'=>VK V2 W') rfl ?_;have aA:VK V2 V2:=VK.refl _;have yT:V2.grownBy V2 none:=as8 _ _;simp only[ao5,ao1,ap0,Nat.reduceAdd,an7,an6,ao6,ao8,ao7];change wpAnyH prog .any _ _ _ _ _ _ z1.drew;rw[hV2];clear hV2;have cw2:V2.heap[w.heap.size]?=some (.cells #[A xw,.bool iw] 207 (0,0)):=(BK.block _ (an0.1 bw2).1 R).trans bw2;have dw2:V2.cell? (J w.heap.size 0)=some (A xw):=by rw[cell_of cw2];rfl
 have ew2:V2.cell? (J w.heap.size 1)=some (.bool iw):=by rw[cell_of cw2];rfl
 have cf2:V2.heap[w.heap.size+1]?=some (.cells #[A xf,.bool jf] 207 (0,0)):=(BK.block _ (an0.1 bf2).1 R).trans bf2;have df2:V2.cell? (J (w.heap.size+1) 0)=some (A xf):=by rw[cell_of cf2];rfl
 have ef2:V2.cell? (J (w.heap.size+1) 1)=some (.bool jf):=by rw[cell_of cf2];rfl
 have Ce:V2.heap[w.heap.size+1+1]?=some (.cells #[A xs,.bool js] 207 (0,0)):=(BK.block _ (an0.1 bs2).1 R).trans bs2;have ds2:V2.cell? (J (w.heap.size+1+1) 0)=some (A xs):=by rw[cell_of Ce];rfl
 have es2:V2.cell? (J (w.heap.size+1+1) 1)=some (.bool js):=by rw[cell_of Ce];rfl
 have YD:=AU.grow BK;refine dF 0 (Aa lb 0) aA ?_
 simp only[aF];refine tH 1 (.agg #[A xw,.bool iw]) (λw' hS=>?_) aA ?_
 ·have q:=aZ hS cw2;have q0:=(cell_of q 0);have q1:=(cell_of q 1)
  go_simp
 simp only[aF];refine tH 2 (.agg #[A xf,.bool jf]) (λw' hS=>?_) aA ?_
 ·have q:=aZ hS cf2;have q0:=(cell_of q 0);have q1:=(cell_of q 1)
  go_simp
 simp only[aF];refine tH 4 (.agg #[A xs,.bool js]) (λw' hS=>?_) aA ?_
 ·have q:=aZ hS Ce;have q0:=(cell_of q 0);have q1:=(cell_of q 1)
  go_simp
 simp only[aF];refine oH 3 (λK hK=>?_);go_simp;refine(jT xf jf V2).mono ?_;rintro e n23 ⟨rfl,ajm⟩;replace aA:=aA.trans (VK.grown ajm);refine hK.out _ _ aA ?_;clear hK K;replace yT:=yT.trans ajm;refine oH 5 (λK hK=>?_);go_simp;refine(jT xs js n23).mono ?_;rintro e n25 ⟨rfl,adi⟩;replace aA:=aA.trans (VK.grown adi);refine hK.out _ _ aA ?_;clear hK K;replace yT:=yT.trans adi;refine oH 6 (λK hK=>?_);go_simp;replace aA:=aA.trans (VK.grown (an1 _ (.cells #[A xw,.bool iw,A xf,.bool (!jf),A xs,.bool (!js)] 207) none));refine hK.out _ _ aA ?_;clear hK K;replace yT:=yT.trans (an1 _ (.cells #[A xw,.bool iw,A xf,.bool (!jf),A xs,.bool (!js)] 207) none);have adA:=YD.grow yT;have E5:=yT.size;have aiV:=BK.size;have ac8:bQ (n25.alloc (.cells #[A xw,.bool iw,A xf,.bool (!jf),A xs,.bool (!js)] 207)) (Ac n25.heap.size 0 3 3) ([lw,nl lf,nl ls].map (vw Us)):=by
  have:=wQ n25 (xw,iw) (xf,!jf) (xs,!js);simpa[vw,nl,<-hxw,<-hiw,<-LW,<-hif,<-VL,<-his]using this
 refine oH 7 (λK hK=>?_);go_simp;refine(fH X n0 (n25.alloc (.cells #[A xw,.bool iw,A xf,.bool (!jf),A xs,.bool (!js)] 207)) lb BU BS f dom Us IX (L++[[nl lw,lf]]++[[nl lw,ls]]) _ [lw,nl lf,nl ls] adA (λk h=>by have:=hX k h;simp at E5 ⊢;omega) BN ac8 R R (by simpa[nl]using ⟨VY,Yu,Yt⟩) (by simp at E5 ⊢;omega) ahD).mono ?_;rintro e z2 ⟨⟨r2,rfl⟩,jK,wL,qo,aaK,aav⟩;refine hK.out _ _ (aA.trans aav) (ar2 (by kernel_rfl) ?_ _);clear hK K;have aj6:jK.length<=100000:=by rw[qo.len];simp;omega
 have VQ:VK z1 z2:=(VK.grown (BK.trans yT)).trans aav;have adr:Below n0 z1 z2:=((But.aC (BK.trans yT)).below O (λk _ e=>by cases e)).trans aaK;have Q1:=F wL;have Q2:=F qo;have Q3:=F (mg.trans adr);have Q4:=F (NK.trans VQ);clear wL qo mg NK
 go_wp2_with fail
 go_end0
 refine⟨⟨_,rfl⟩,_,Z Q1,?_,Z Q3,Z Q4⟩;have h:=Z Q2;simpa[y9]using h
theorem Xd(X:Nat->Prop)(n0:Nat)(w:World)(lb BU BS:Nat)(f:Key->Key)(dom:Key->Prop)(Us:Ai)(aW:List Rule)(L:List (List dw))(lw lf ls:dw)(wM:LG n0 w lb BU BS f dom Us aW X)(hX:∀k,X k->k<w.heap.size)(WC:vG Us aW L)(VY:lw.1∈Us)(Yu:lf.1∈Us)(Yt:ls.1∈Us)(hn:n0<=w.heap.size)(hR:L.length<=90000) :
  Calls prog 165 #[Aa lb 0,vV (vw Us lw),vV (vw Us lf),vV (vw Us ls)] w λe w'=>(∃z,e=.returned z)/\∃dR,LG n0 w' lb BU BS f dom Us dR X/\vG Us dR (L++Cm lw lf ls)/\Below n0 w w'/\VK w w':=by
 obtain⟨xw,hxw⟩:∃x,Us.idxOf lw.1=x:=⟨_,rfl⟩;obtain⟨xf,LW⟩:∃x,Us.idxOf lf.1=x:=⟨_,rfl⟩;obtain⟨xs,VL⟩:∃x,Us.idxOf ls.1=x:=⟨_,rfl⟩;obtain⟨iw,hiw⟩:∃x,lw.2=x:=⟨_,rfl⟩;obtain⟨jf,hif⟩:∃x,lf.2=x:=⟨_,rfl⟩;obtain⟨js,his⟩:∃x,ls.2=x:=⟨_,rfl⟩;have L0:=L;have ahF:aW.length<=100000:=by rw[WC.len];omega
 unfold vV vw;rw[hxw,LW,VL,hiw,hif,his];obtain⟨W0,Io⟩:∃W0,((w.alloc (.cells #[A xw,.bool iw] 207)).alloc (.cells #[A xf,.bool jf] 207)).alloc (.cells #[A xs,.bool js] 207)=W0:=⟨_,rfl⟩;have Ql:w.grownBy W0 none:=by rw[<-Io];exact((an1 _ _ none).trans (an1 _ _ none)).trans (an1 _ _ none)
 have bw0:W0.heap[w.heap.size]?=some (.cells #[A xw,.bool iw] 207 (0,0)):=by
  rw[<-Io,ao3 _ _ _ anf,ao3 _ _ _ R,ap5]
 have bf0:W0.heap[w.heap.size+1]?=some (.cells #[A xf,.bool jf] 207 (0,0)):=by
  have e:w.heap.size+1=(w.alloc (.cells #[A xw,.bool iw] 207)).heap.size:=R
  rw[<-Io,ao3 _ _ _ R,e,ap5]
 have bs0:W0.heap[w.heap.size+1+1]?=some (.cells #[A xs,.bool js] 207 (0,0)):=by
  have e:w.heap.size+1+1=((w.alloc (.cells #[A xw,.bool iw] 207)).alloc (.cells #[A xf,.bool jf] 207)).heap.size:=R
  rw[<-Io,e,ap5]
 have adD:=wM.grow Ql;have mg:Below n0 w W0:=(But.aC Ql).below hn (λk _ e=>by cases e);have NK:VK w W0:=VK.grown Ql;have Gh:=Ql.size;clear wM;have GY:W0.grownBy W0 none:=as8 _ _;have cw0:W0.heap[w.heap.size]?=some (.cells #[A xw,.bool iw] 207 (0,0)):=(GY.block _ (an0.1 bw0).1 R).trans bw0;have dw0:W0.cell? (J w.heap.size 0)=some (A xw):=by rw[cell_of cw0];rfl
 have ew0:W0.cell? (J w.heap.size 1)=some (.bool iw):=by rw[cell_of cw0];rfl
 have cf0:W0.heap[w.heap.size+1]?=some (.cells #[A xf,.bool jf] 207 (0,0)):=(GY.block _ (an0.1 bf0).1 R).trans bf0;have df0:W0.cell? (J (w.heap.size+1) 0)=some (A xf):=by rw[cell_of cf0];rfl
 have ef0:W0.cell? (J (w.heap.size+1) 1)=some (.bool jf):=by rw[cell_of cf0];rfl
 have cs0:W0.heap[w.heap.size+1+1]?=some (.cells #[A xs,.bool js] 207 (0,0)):=(GY.block _ (an0.1 bs0).1 R).trans bs0;have ds0:W0.cell? (J (w.heap.size+1+1) 0)=some (A xs):=by rw[cell_of cs0];rfl
 have es0:W0.cell? (J (w.heap.size+1+1) 1)=some (.bool js):=by rw[cell_of cs0];rfl
 have TN:=adD.grow GY;have ahk:W0.grownBy (W0.alloc (.cells #[A xw,.bool iw,A xf,.bool jf,A xs,.bool js] 207)) none:=an1 _ _ none;have agX:bQ (W0.alloc (.cells #[A xw,.bool iw,A xf,.bool jf,A xs,.bool js] 207)) (Ac W0.heap.size 0 3 3) ([lw,lf,ls].map (vw Us)):=by
  have:=wQ W0 (xw,iw) (xf,jf) (xs,js);simpa[vw,nl,<-hxw,<-hiw,<-LW,<-hif,<-VL,<-his]using this
 have alA:=fH X n0 (W0.alloc (.cells #[A xw,.bool iw,A xf,.bool jf,A xs,.bool js] 207)) lb BU BS f dom Us aW (L) _ [lw,lf,ls] (TN.grow ahk) (λk h=>by have:=hX k h;simp;omega) WC agX R R (by simpa[nl]using ⟨VY,Yu,Yt⟩) anf ahF
 go_in
 go_wp2_with fail
 clear Io;refine alA.mono ?_;rintro e z0 ⟨⟨r0,rfl⟩,IY,D8,Wy,aaL,aaw⟩;have ahE:IY.length<=100000:=by rw[Wy.len];simp;omega
 have JA:VK W0 z0:=(VK.grown ahk).trans aaw;have Wp:Below n0 W0 z0:=((But.aC ahk).below O (λk _ e=>by cases e)).trans aaL;have bw1:=aZ JA bw0;have bf1:=aZ JA bf0;have bs1:=aZ JA bs0;have ai0:w.heap.size<=z0.heap.size:=ap3 O Wp.size;have D7:=mg.trans Wp;have DV:=NK.trans JA;clear mg NK;have mg:=D7;have NK:=DV;clear D7 DV aaL aaw JA Wp bw0 bf0 bs0 adD TN WC cw0 cf0 cs0 dw0 df0 ds0 ew0 ef0 es0
 go_wp2_with fail
 obtain⟨V1,Ws⟩:∃V,z0.drew=V:=⟨_,rfl⟩;have BL:z0.grownBy V1 none:=by rw[<-Ws];exact⟨rfl,rfl,rfl,an2 _,λ_ _ _=>rfl⟩
 refine aq8 (S:=λW'=>VK V1 W') rfl ?_;have aA:VK V1 V1:=VK.refl _;have AV:V1.grownBy V1 none:=as8 _ _;simp only[ao5,ao1,ap0,Nat.reduceAdd,an7,an6,ao6,ao8,ao7];change wpAnyH prog .any _ _ _ _ _ _ z0.drew;rw[Ws];clear Ws;have cw1:V1.heap[w.heap.size]?=some (.cells #[A xw,.bool iw] 207 (0,0)):=(BL.block _ (an0.1 bw1).1 R).trans bw1;have dw1:V1.cell? (J w.heap.size 0)=some (A xw):=by rw[cell_of cw1];rfl
 have ew1:V1.cell? (J w.heap.size 1)=some (.bool iw):=by rw[cell_of cw1];rfl
 have cf1:V1.heap[w.heap.size+1]?=some (.cells #[A xf,.bool jf] 207 (0,0)):=(BL.block _ (an0.1 bf1).1 R).trans bf1;have df1:V1.cell? (J (w.heap.size+1) 0)=some (A xf):=by rw[cell_of cf1];rfl
 have ef1:V1.cell? (J (w.heap.size+1) 1)=some (.bool jf):=by rw[cell_of cf1];rfl
 have dQ:V1.heap[w.heap.size+1+1]?=some (.cells #[A xs,.bool js] 207 (0,0)):=(BL.block _ (an0.1 bs1).1 R).trans bs1;have ds1:V1.cell? (J (w.heap.size+1+1) 0)=some (A xs):=by rw[cell_of dQ];rfl
 have es1:V1.cell? (J (w.heap.size+1+1) 1)=some (.bool js):=by rw[cell_of dQ];rfl
 have TM:=D8.grow BL;refine dF 0 (Aa lb 0) aA ?_
 simp only[aF];refine tH 1 (.agg #[A xw,.bool iw]) (λw' hS=>?_) aA ?_
 ·have q:=aZ hS cw1;have q0:=(cell_of q 0);have q1:=(cell_of q 1)
  go_simp
 simp only[aF];refine tH 2 (.agg #[A xf,.bool jf]) (λw' hS=>?_) aA ?_
 ·have q:=aZ hS cf1;have q0:=(cell_of q 0);have q1:=(cell_of q 1)
  go_simp
 simp only[aF];refine tH 4 (.agg #[A xs,.bool js]) (λw' hS=>?_) aA ?_
 ·have q:=aZ hS dQ;have q0:=(cell_of q 0);have q1:=(cell_of q 1)
  go_simp
 simp only[aF];refine oH 3 (λK hK=>?_);go_simp;refine(jT xf jf V1).mono ?_;rintro e n13 ⟨rfl,ajp⟩;replace aA:=aA.trans (VK.grown ajp);refine hK.out _ _ aA ?_;clear hK K;replace AV:=AV.trans ajp;refine oH 5 (λK hK=>?_);go_simp;refine(jT xs js n13).mono ?_;rintro e n15 ⟨rfl,ajo⟩;replace aA:=aA.trans (VK.grown ajo);refine hK.out _ _ aA ?_;clear hK K;replace AV:=AV.trans ajo;refine oH 6 (λK hK=>?_);go_simp;replace aA:=aA.trans (VK.grown (an1 _ (.cells #[A xw,.bool iw,A xf,.bool (!jf),A xs,.bool (!js)] 207) none));refine hK.out _ _ aA ?_;clear hK K;replace AV:=AV.trans (an1 _ (.cells #[A xw,.bool iw,A xf,.bool (!jf),A xs,.bool (!js)] 207) none);have adB:=TM.grow AV;have vZ:=AV.size;have aiW:=BL.size;have agW:bQ (n15.alloc (.cells #[A xw,.bool iw,A xf,.bool (!jf),A xs,.bool (!js)] 207)) (Ac n15.heap.size 0 3 3) ([lw,nl lf,nl ls].map (vw Us)):=by
  have:=wQ n15 (xw,iw) (xf,!jf) (xs,!js);simpa[vw,nl,<-hxw,<-hiw,<-LW,<-hif,<-VL,<-his]using this
 refine oH 7 (λK hK=>?_);go_simp;refine(fH X n0 (n15.alloc (.cells #[A xw,.bool iw,A xf,.bool (!jf),A xs,.bool (!js)] 207)) lb BU BS f dom Us IY (L++[[lw,lf,ls]]) _ [lw,nl lf,nl ls] adB (λk h=>by have:=hX k h;simp at vZ ⊢;omega) Wy agW R R (by simpa[nl]using ⟨VY,Yu,Yt⟩) (by simp at vZ ⊢;omega) ahE).mono ?_;rintro e z1 ⟨⟨r1,rfl⟩,IX,AU,BN,TA,GN⟩;refine hK.out _ _ (aA.trans GN) (ar2 (by kernel_rfl) ?_ _);clear hK K;have ahD:IX.length<=100000:=by rw[BN.len];simp;omega
 have Jz:VK z0 z1:=(VK.grown (BL.trans AV)).trans GN;have Wn:Below n0 z0 z1:=((But.aC (BL.trans AV)).below O (λk _ e=>by cases e)).trans TA;have bw2:=aZ Jz bw1;have bf2:=aZ Jz bf1;have bs2:=aZ Jz bs1;have aiZ:w.heap.size<=z1.heap.size:=ap3 O Wn.size;have D7:=mg.trans Wn;have DV:=NK.trans Jz;clear mg NK;have mg:=D7;have NK:=DV;clear D7 DV TA GN Jz Wn bw1 bf1 bs1 D8 TM Wy cw1 cf1 dQ dw1 df1 ds1 ew1 ef1 es1
 go_wp2_with fail
 obtain⟨V2,hV2⟩:∃V,z1.drew=V:=⟨_,rfl⟩;have BK:z1.grownBy V2 none:=by rw[<-hV2];exact⟨rfl,rfl,rfl,an2 _,λ_ _ _=>rfl⟩
 refine aq8 (S:=λW'=>VK V2 W') rfl ?_;have aA:VK V2 V2:=VK.refl _;have yT:V2.grownBy V2 none:=as8 _ _;simp only[ao5,ao1,ap0,Nat.reduceAdd,an7,an6,ao6,ao8,ao7];change wpAnyH prog .any _ _ _ _ _ _ z1.drew;rw[hV2];clear hV2;have cw2:V2.heap[w.heap.size]?=some (.cells #[A xw,.bool iw] 207 (0,0)):=(BK.block _ (an0.1 bw2).1 R).trans bw2;have dw2:V2.cell? (J w.heap.size 0)=some (A xw):=by rw[cell_of cw2];rfl
 have ew2:V2.cell? (J w.heap.size 1)=some (.bool iw):=by rw[cell_of cw2];rfl
 have cf2:V2.heap[w.heap.size+1]?=some (.cells #[A xf,.bool jf] 207 (0,0)):=(BK.block _ (an0.1 bf2).1 R).trans bf2;have df2:V2.cell? (J (w.heap.size+1) 0)=some (A xf):=by rw[cell_of cf2];rfl
 have ef2:V2.cell? (J (w.heap.size+1) 1)=some (.bool jf):=by rw[cell_of cf2];rfl
 have Ce:V2.heap[w.heap.size+1+1]?=some (.cells #[A xs,.bool js] 207 (0,0)):=(BK.block _ (an0.1 bs2).1 R).trans bs2;have ds2:V2.cell? (J (w.heap.size+1+1) 0)=some (A xs):=by rw[cell_of Ce];rfl
 have es2:V2.cell? (J (w.heap.size+1+1) 1)=some (.bool js):=by rw[cell_of Ce];rfl
 have YD:=AU.grow BK;refine dF 0 (Aa lb 0) aA ?_
 simp only[aF];refine tH 1 (.agg #[A xw,.bool iw]) (λw' hS=>?_) aA ?_
 ·have q:=aZ hS cw2;have q0:=(cell_of q 0);have q1:=(cell_of q 1)
  go_simp
 simp only[aF];refine tH 3 (.agg #[A xf,.bool jf]) (λw' hS=>?_) aA ?_
 ·have q:=aZ hS cf2;have q0:=(cell_of q 0);have q1:=(cell_of q 1)
  go_simp
 simp only[aF];refine tH 4 (.agg #[A xs,.bool js]) (λw' hS=>?_) aA ?_
 ·have q:=aZ hS Ce;have q0:=(cell_of q 0);have q1:=(cell_of q 1)
  go_simp
 simp only[aF];refine oH 2 (λK hK=>?_);go_simp;refine(jT xw iw V2).mono ?_;rintro e n22 ⟨rfl,ajn⟩;replace aA:=aA.trans (VK.grown ajn);refine hK.out _ _ aA ?_;clear hK K;replace yT:=yT.trans ajn;refine oH 5 (λK hK=>?_);go_simp;refine(jT xs js n22).mono ?_;rintro e n25 ⟨rfl,adi⟩;replace aA:=aA.trans (VK.grown adi);refine hK.out _ _ aA ?_;clear hK K;replace yT:=yT.trans adi;refine oH 6 (λK hK=>?_);go_simp;replace aA:=aA.trans (VK.grown (an1 _ (.cells #[A xw,.bool (!iw),A xf,.bool jf,A xs,.bool (!js)] 207) none));refine hK.out _ _ aA ?_;clear hK K;replace yT:=yT.trans (an1 _ (.cells #[A xw,.bool (!iw),A xf,.bool jf,A xs,.bool (!js)] 207) none);have adA:=YD.grow yT;have E5:=yT.size;have aiV:=BK.size;have ac8:bQ (n25.alloc (.cells #[A xw,.bool (!iw),A xf,.bool jf,A xs,.bool (!js)] 207)) (Ac n25.heap.size 0 3 3) ([nl lw,lf,nl ls].map (vw Us)):=by
  have:=wQ n25 (xw,!iw) (xf,jf) (xs,!js);simpa[vw,nl,<-hxw,<-hiw,<-LW,<-hif,<-VL,<-his]using this
 refine oH 7 (λK hK=>?_);go_simp;refine(fH X n0 (n25.alloc (.cells #[A xw,.bool (!iw),A xf,.bool jf,A xs,.bool (!js)] 207)) lb BU BS f dom Us IX (L++[[lw,lf,ls]]++[[lw,nl lf,nl ls]]) _ [nl lw,lf,nl ls] adA (λk h=>by have:=hX k h;simp at E5 ⊢;omega) BN ac8 R R (by simpa[nl]using ⟨VY,Yu,Yt⟩) (by simp at E5 ⊢;omega) ahD).mono ?_;rintro e z2 ⟨⟨r2,rfl⟩,jK,wL,qo,aaK,aav⟩;refine hK.out _ _ (aA.trans aav) (ar2 (by kernel_rfl) ?_ _);clear hK K;have aj6:jK.length<=100000:=by rw[qo.len];simp;omega
 have VQ:VK z1 z2:=(VK.grown (BK.trans yT)).trans aav;have adr:Below n0 z1 z2:=((But.aC (BK.trans yT)).below O (λk _ e=>by cases e)).trans aaK;have bw3:=aZ VQ bw2;have bf3:=aZ VQ bf2;have bs3:=aZ VQ bs2;have amA:w.heap.size<=z2.heap.size:=ap3 O adr.size;have D7:=mg.trans adr;have DV:=NK.trans VQ;clear mg NK;have mg:=D7;have NK:=DV;clear D7 DV aaK aav VQ adr bw2 bf2 bs2 AU YD BN cw2 cf2 Ce dw2 df2 ds2 ew2 ef2 es2
 go_wp2_with fail
 obtain⟨V3,hV3⟩:∃V,z2.drew=V:=⟨_,rfl⟩;have V7:z2.grownBy V3 none:=by rw[<-hV3];exact⟨rfl,rfl,rfl,an2 _,λ_ _ _=>rfl⟩
 refine aq8 (S:=λW'=>VK V3 W') rfl ?_;have aA:VK V3 V3:=VK.refl _;have NY:V3.grownBy V3 none:=as8 _ _;simp only[ao5,ao1,ap0,Nat.reduceAdd,an7,an6,ao6,ao8,ao7];change wpAnyH prog .any _ _ _ _ _ _ z2.drew;rw[hV3];clear hV3;have cw3:V3.heap[w.heap.size]?=some (.cells #[A xw,.bool iw] 207 (0,0)):=(V7.block _ (an0.1 bw3).1 R).trans bw3;have dw3:V3.cell? (J w.heap.size 0)=some (A xw):=by rw[cell_of cw3];rfl
 have ew3:V3.cell? (J w.heap.size 1)=some (.bool iw):=by rw[cell_of cw3];rfl
 have cf3:V3.heap[w.heap.size+1]?=some (.cells #[A xf,.bool jf] 207 (0,0)):=(V7.block _ (an0.1 bf3).1 R).trans bf3;have df3:V3.cell? (J (w.heap.size+1) 0)=some (A xf):=by rw[cell_of cf3];rfl
 have ef3:V3.cell? (J (w.heap.size+1) 1)=some (.bool jf):=by rw[cell_of cf3];rfl
 have cs3:V3.heap[w.heap.size+1+1]?=some (.cells #[A xs,.bool js] 207 (0,0)):=(V7.block _ (an0.1 bs3).1 R).trans bs3;have ds3:V3.cell? (J (w.heap.size+1+1) 0)=some (A xs):=by rw[cell_of cs3];rfl
 have es3:V3.cell? (J (w.heap.size+1+1) 1)=some (.bool js):=by rw[cell_of cs3];rfl
 have akd:=wL.grow V7;refine dF 0 (Aa lb 0) aA ?_
 simp only[aF];refine tH 1 (.agg #[A xw,.bool iw]) (λw' hS=>?_) aA ?_
 ·have q:=aZ hS cw3;have q0:=(cell_of q 0);have q1:=(cell_of q 1)
  go_simp
 simp only[aF];refine tH 3 (.agg #[A xf,.bool jf]) (λw' hS=>?_) aA ?_
 ·have q:=aZ hS cf3;have q0:=(cell_of q 0);have q1:=(cell_of q 1)
  go_simp
 simp only[aF];refine tH 5 (.agg #[A xs,.bool js]) (λw' hS=>?_) aA ?_
 ·have q:=aZ hS cs3;have q0:=(cell_of q 0);have q1:=(cell_of q 1)
  go_simp
 simp only[aF];refine oH 2 (λK hK=>?_);go_simp;refine(jT xw iw V3).mono ?_;rintro e n32 ⟨rfl,ajl⟩;replace aA:=aA.trans (VK.grown ajl);refine hK.out _ _ aA ?_;clear hK K;replace NY:=NY.trans ajl;refine oH 4 (λK hK=>?_);go_simp;refine(jT xf jf n32).mono ?_;rintro e n34 ⟨rfl,ajk⟩;replace aA:=aA.trans (VK.grown ajk);refine hK.out _ _ aA ?_;clear hK K;replace NY:=NY.trans ajk;refine oH 6 (λK hK=>?_);go_simp;replace aA:=aA.trans (VK.grown (an1 _ (.cells #[A xw,.bool (!iw),A xf,.bool (!jf),A xs,.bool js] 207) none));refine hK.out _ _ aA ?_;clear hK K;replace NY:=NY.trans (an1 _ (.cells #[A xw,.bool (!iw),A xf,.bool (!jf),A xs,.bool js] 207) none);have aj9:=akd.grow NY;have agS:=NY.size;have amr:=V7.size;have alc:bQ (n34.alloc (.cells #[A xw,.bool (!iw),A xf,.bool (!jf),A xs,.bool js] 207)) (Ac n34.heap.size 0 3 3) ([nl lw,nl lf,ls].map (vw Us)):=by
  have:=wQ n34 (xw,!iw) (xf,!jf) (xs,js);simpa[vw,nl,<-hxw,<-hiw,<-LW,<-hif,<-VL,<-his]using this
 refine oH 7 (λK hK=>?_);go_simp;refine(fH X n0 (n34.alloc (.cells #[A xw,.bool (!iw),A xf,.bool (!jf),A xs,.bool js] 207)) lb BU BS f dom Us jK (L++[[lw,lf,ls]]++[[lw,nl lf,nl ls]]++[[nl lw,lf,nl ls]]) _ [nl lw,nl lf,ls] aj9 (λk h=>by have:=hX k h;simp at agS ⊢;omega) qo alc R R (by simpa[nl]using ⟨VY,Yu,Yt⟩) (by simp at agS ⊢;omega) aj6).mono ?_;rintro e z3 ⟨⟨r3,rfl⟩,agC,akc,ahI,aaJ,JB⟩;refine hK.out _ _ (aA.trans JB) (ar2 (by kernel_rfl) ?_ _);clear hK K;have am7:agC.length<=100000:=by rw[ahI.len];simp;omega
 have ak3:VK z2 z3:=(VK.grown (V7.trans NY)).trans JB;have alN:Below n0 z2 z3:=((But.aC (V7.trans NY)).below O (λk _ e=>by cases e)).trans aaJ;have Q1:=F akc;have Q2:=F ahI;have Q3:=F (mg.trans alN);have Q4:=F (NK.trans ak3);clear akc ahI mg NK
 go_wp2_with fail
 go_end0
 refine⟨⟨_,rfl⟩,_,Z Q1,?_,Z Q3,Z Q4⟩;have h:=Z Q2;simpa[Cm]using h
end Go.Proofs.YthcppbmkacbbiabGreat
