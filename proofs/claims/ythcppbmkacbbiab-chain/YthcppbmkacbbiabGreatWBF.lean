import Derived.Test.YthcppbmkacbbiabGreatWBB
import Derived.Test.YthcppbmkacbbiabGreatWBE
set_option linter.unusedSimpArgs false
set_option maxHeartbeats 8000000
set_option maxRecDepth 100000
namespace Go.Proofs.YthcppbmkacbbiabGreat
open Go.Proofs.Tryz
open Go.RowKit Go.Maps Go.WideMaps
open Sat (View Rule jk bG)
open aB (Key put)
def VK(w w':World):Prop:=∀(k:Nat) (cur:Array Value) (t:TypeId) (x:Nat×Nat),t≠130->t≠203->w.heap[k]?=some (Obj.cells cur t x)->w'.heap[k]?=some (Obj.cells cur t x)
theorem aI{w w':World}(h:VK w w'){k:Nat}{cur:Array Value}{t:TypeId}{x:Nat×Nat}(e:w.heap[k]?=some (Obj.cells cur t x))(h1:t≠130:=by decide)(h2:t≠203:=by decide):w'.heap[k]?=some (Obj.cells cur t x):=h k cur t x h1 h2 e
theorem VK.refl(w:World):VK w w:=λ_ _ _ _ _ _ h=>h
theorem VK.trans{a b c:World}(h:VK a b)(k:VK b c):VK a c:=λi cur t x h1 h2 e=>k i cur t x h1 h2 (h i cur t x h1 h2 e)
theorem VK.grown{w w':World}(h:w.grownBy w' none):VK w w':=λk cur t x _ _ e=>(h.block k (ad3.1 e).1 (by simp)).trans e
theorem VK.map{w w':World}{b:Nat}(h:w.grownBy w' (some b))(hb:∀cur t x,w.heap[b]?≠some (Obj.cells cur t x)):VK w w':=λk cur t x _ _ e=>(h.block k (ad3.1 e).1 (λe2=>by cases e2;exact hb _ _ _ e)).trans e
theorem VK.but{S:Nat->Prop}{w w':World}(h:But S w w')(hS:∀k,S k->∀cur t x,t≠130->t≠203->w.heap[k]?≠some (Obj.cells cur t x)):VK w w':=λk cur t x h1 h2 e=>(h.block k (ad3.1 e).1 (λe2=>hS k e2 cur t x h1 h2 e)).trans e
theorem aH.Oe{w:World}{k b:Nat}{kv:Key->Value}{ts:List Key}(h:aH w k b kv ts):∀cur t x,w.heap[b]?≠some (Obj.cells cur t x):=by
 obtain⟨D,⟨es,c,h1,_⟩,_⟩:=h;intro cur t x e;rw[h1]at e;cases e
theorem nY.Oe{w:World}{lb:Nat}{mu ms:Option Nat}{rv:Value}(h:nY w lb mu ms rv):∀cur t x,t≠203->w.heap[lb]?≠some (Obj.cells cur t x):=by
 intro cur t x ht e;rw[h.out]at e;simp at e;exact ht e.2.1.symm
theorem bF.Oe{w:World}{rv:Value}{ak:List Rule}(h:bF w rv ak):∀k,some k=rv.ownBlock->∀cur t x,t≠130->w.heap[k]?≠some (Obj.cells cur t x):=by
 obtain⟨vs,⟨h1,h2⟩,h3⟩:=h;intro k hk cur t x ht e;rcases h2 with⟨rfl,_⟩|⟨g,cap,cur',rfl,q2,q3,q4⟩
 ·cases hk
 ·cases hk;rw[q3]at e;simp at e;exact ht e.2.1.symm
theorem fJ(x:Nat)(i:Bool)(w:World):Calls prog 127 #[.agg #[.int .i64 x,.bool i]] w λe w'=>e=.returned (.agg #[.int .i64 x,.bool (!i)])/\w.grownBy w' none:=Ed (x,i) w
theorem RX(w:World)(a:View):aP (w.alloc (.cells #[.int .i64 a.1,.bool a.2] 207)) (.slice (some ⟨w.heap.size,0,none⟩) 1 1) [a]:=by
 refine Or.inr ⟨w.heap.size,1,_,_,rfl,ae9 _ _,by simp,λi hi=>?_⟩;have:i=0:=by simp at hi;omega
 subst this;exact⟨rfl,rfl⟩
theorem RV(w:World)(a b:View):aP (w.alloc (.cells #[.int .i64 a.1,.bool a.2,.int .i64 b.1,.bool b.2] 207)) (.slice (some ⟨w.heap.size,0,none⟩) 2 2) [a,b]:=by
 refine Or.inr ⟨w.heap.size,2,_,_,rfl,ae9 _ _,by simp,λi hi=>?_⟩
 match i,hi with
 |0,_=>exact⟨rfl,rfl⟩
 |1,_=>exact⟨rfl,rfl⟩
theorem nK(w:World)(a b c:View):aP (w.alloc (.cells #[.int .i64 a.1,.bool a.2,.int .i64 b.1,.bool b.2,.int .i64 c.1,.bool c.2] 207)) (.slice (some ⟨w.heap.size,0,none⟩) 3 3) [a,b,c]:=by
 refine Or.inr ⟨w.heap.size,3,_,_,rfl,ae9 _ _,by simp,λi hi=>?_⟩
 match i,hi with
 |0,_=>exact⟨rfl,rfl⟩
 |1,_=>exact⟨rfl,rfl⟩
 |2,_=>exact⟨rfl,rfl⟩
theorem dA(X:Nat->Prop)(n0:Nat)(w:World)(lb BU BS:Nat)(f:Key->Key)(dom:Key->Prop)(Us:List Key)(ak:List Rule)(L:List (List aU))(v:Value)(ls:List aU)(h:LG n0 w lb BU BS f dom Us ak X)(hX:∀k,X k->k<w.heap.size)(hP:jW Us ak L)(hv:aP w v (ls.map (vw Us)))
 (h0:ls≠[])(hl:ls.length<=500)(hm:∀l∈ls,l.1∈Us)(hn:n0<=w.heap.size)(hr:ak.length<=100000) :
  Calls prog 124 #[.pointer (some ⟨lb,0,none⟩),v] w λe w'=>(∃z,e=.returned z)/\∃aK,LG n0 w' lb BU BS f dom Us aK X/\jW Us aK (L++[ls])/\Below n0 w w'/\VK w w':=by
 obtain⟨rv,h1,h2,h3⟩:=h.rv;refine(Ja X w lb (some BU) (some BS) rv ak h1 h2 hX v _ hv (by simpa using hl) hr).mono ?_;rintro e w' ⟨hz,rv',hL,hR,hb,ho⟩;obtain⟨g1,g2⟩:=h.dem h1 h2.v h3 hn hL hR hb ho;refine⟨hz,_,g1,hP.demand h0 (by omega) hm,g2,VK.but hb (λk e cur t x t1 t2=>?_)⟩;rcases e with e|e
 ·rw[e];exact h1.Oe cur t x t2
 ·exact h2.v.Oe k e cur t x t1
theorem vM(X:Nat->Prop)(n0:Nat)(w:World)(lb BU BS:Nat)(f:Key->Key)(dom:Key->Prop)(Us:List Key)(aJ:List Rule)(L:List (List aU))(lw lf ls:aU)(iQ:LG n0 w lb BU BS f dom Us aJ X)(hX:∀k,X k->k<w.heap.size)(IK:jW Us aJ L)(hmw:lw.1∈Us)(hmf:lf.1∈Us)(hms:ls.1∈Us)(hn:n0<=w.heap.size)(hR:L.length<=90000) :
  Calls prog 164 #[.pointer (some ⟨lb,0,none⟩),vV (vw Us lw),vV (vw Us lf),vV (vw Us ls)] w λe w'=>(∃z,e=.returned z)/\∃aK,LG n0 w' lb BU BS f dom Us aK X/\jW Us aK (L++lC lw lf ls)/\Below n0 w w'/\VK w w':=by
 obtain⟨xw,hxw⟩:∃x,Us.idxOf lw.1=x:=⟨_,rfl⟩;obtain⟨xf,hxf⟩:∃x,Us.idxOf lf.1=x:=⟨_,rfl⟩;obtain⟨xs,hxs⟩:∃x,Us.idxOf ls.1=x:=⟨_,rfl⟩;obtain⟨iw,hiw⟩:∃x,lw.2=x:=⟨_,rfl⟩;obtain⟨jf,hif⟩:∃x,lf.2=x:=⟨_,rfl⟩;obtain⟨js,his⟩:∃x,ls.2=x:=⟨_,rfl⟩;have L0:=L;have Xn:aJ.length<=100000:=by rw[IK.len];omega
 unfold vV vw;rw[hxw,hxf,hxs,hiw,hif,his];obtain⟨W0,hW0⟩:∃W0,((w.alloc (.cells #[.int .i64 xw,.bool iw] 207)).alloc (.cells #[.int .i64 xf,.bool jf] 207)).alloc (.cells #[.int .i64 xs,.bool js] 207)=W0:=⟨_,rfl⟩;have hg0:w.grownBy W0 none:=by rw[<-hW0];exact((ad4 _ _ none).trans (ad4 _ _ none)).trans (ad4 _ _ none)
 have bw0:W0.heap[w.heap.size]?=some (.cells #[.int .i64 xw,.bool iw] 207 (0,0)):=by
  rw[<-hW0,ae3 _ _ _ (by simp;omega),ae3 _ _ _ (by simp),ae9]
 have bf0:W0.heap[w.heap.size+1]?=some (.cells #[.int .i64 xf,.bool jf] 207 (0,0)):=by
  have e:w.heap.size+1=(w.alloc (.cells #[.int .i64 xw,.bool iw] 207)).heap.size:=by simp
  rw[<-hW0,ae3 _ _ _ (by simp),e,ae9]
 have bs0:W0.heap[w.heap.size+1+1]?=some (.cells #[.int .i64 xs,.bool js] 207 (0,0)):=by
  have e:w.heap.size+1+1=((w.alloc (.cells #[.int .i64 xw,.bool iw] 207)).alloc (.cells #[.int .i64 xf,.bool jf] 207)).heap.size:=by simp
  rw[<-hW0,e,ae9]
 have QH:=iQ.grow hg0;have hbl:Below n0 w W0:=(But.aA hg0).below hn (λk _ e=>by cases e);have hvk:VK w W0:=VK.grown hg0;have hsW:=hg0.size;clear iQ
 go_enter func164,ntmps164
 go_wp2_with fail
 clear hW0;obtain⟨V0,hV0⟩:∃V,W0.drew=V:=⟨_,rfl⟩;have wS:W0.grownBy V0 none:=by rw[<-hV0];exact⟨rfl,rfl,rfl,ad5 _,λ_ _ _=>rfl⟩
 refine ah0 (S:=λW'=>VK V0 W') rfl ?_;have hS0:VK V0 V0:=VK.refl _;have hG0:V0.grownBy V0 none:=ah7 _ _;simp only[ae2,ae1,ae8,Nat.reduceAdd,ae0,ad9,ae4,ae7,ae6];change wpAnyH prog .any _ _ _ _ _ _ W0.drew;rw[hV0];clear hV0;have cw0:V0.heap[w.heap.size]?=some (.cells #[.int .i64 xw,.bool iw] 207 (0,0)):=(wS.block _ (ad3.1 bw0).1 (by simp)).trans bw0;have dw0:V0.cell? ⟨w.heap.size,0,none⟩=some (.int .i64 xw):=by rw[cell_of cw0];rfl
 have ew0:V0.cell? ⟨w.heap.size,1,none⟩=some (.bool iw):=by rw[cell_of cw0];rfl
 have cf0:V0.heap[w.heap.size+1]?=some (.cells #[.int .i64 xf,.bool jf] 207 (0,0)):=(wS.block _ (ad3.1 bf0).1 (by simp)).trans bf0;have df0:V0.cell? ⟨w.heap.size+1,0,none⟩=some (.int .i64 xf):=by rw[cell_of cf0];rfl
 have ef0:V0.cell? ⟨w.heap.size+1,1,none⟩=some (.bool jf):=by rw[cell_of cf0];rfl
 have cs0:V0.heap[w.heap.size+1+1]?=some (.cells #[.int .i64 xs,.bool js] 207 (0,0)):=(wS.block _ (ad3.1 bs0).1 (by simp)).trans bs0;have ds0:V0.cell? ⟨w.heap.size+1+1,0,none⟩=some (.int .i64 xs):=by rw[cell_of cs0];rfl
 have es0:V0.cell? ⟨w.heap.size+1+1,1,none⟩=some (.bool js):=by rw[cell_of cs0];rfl
 have FY:=QH.grow wS;refine tH 0 (.pointer (some ⟨lb,0,none⟩)) (λw' hS=>?_) hS0 ?_
 ·go_simp
 simp only[aC];refine tH 1 (.agg #[.int .i64 xw,.bool iw]) (λw' hS=>?_) hS0 ?_
 ·have q:=aI hS cw0;have q0:=(cell_of q 0);have q1:=(cell_of q 1)
  go_simp
 simp only[aC];refine tH 3 (.agg #[.int .i64 xf,.bool jf]) (λw' hS=>?_) hS0 ?_
 ·have q:=aI hS cf0;have q0:=(cell_of q 0);have q1:=(cell_of q 1)
  go_simp
 simp only[aC];refine oH 2 (λK hK=>?_);go_simp;refine(fJ xw iw V0).mono ?_;rintro e n02 ⟨rfl,hn02⟩;replace hS0:=hS0.trans (VK.grown hn02);refine hK.out _ _ hS0 ?_;clear hK K;replace hG0:=hG0.trans hn02;refine oH 4 (λK hK=>?_);go_simp;replace hS0:=hS0.trans (VK.grown (ad4 _ (.cells #[.int .i64 xw,.bool (!iw),.int .i64 xf,.bool jf] 207) none));refine hK.out _ _ hS0 ?_;clear hK K;replace hG0:=hG0.trans (ad4 _ (.cells #[.int .i64 xw,.bool (!iw),.int .i64 xf,.bool jf] 207) none);have Zz:=FY.grow hG0;have hsz0:=hG0.size;have acs:=wS.size;have WM:aP (n02.alloc (.cells #[.int .i64 xw,.bool (!iw),.int .i64 xf,.bool jf] 207)) (.slice (some ⟨n02.heap.size,0,none⟩) 2 2) ([nl lw,lf].map (vw Us)):=by
  have:=RV n02 (xw,!iw) (xf,jf);simpa[vw,nl,<-hxw,<-hiw,<-hxf,<-hif,<-hxs,<-his]using this
 refine oH 5 (λK hK=>?_);go_simp;refine(dA X n0 (n02.alloc (.cells #[.int .i64 xw,.bool (!iw),.int .i64 xf,.bool jf] 207)) lb BU BS f dom Us aJ (L) _ [nl lw,lf] Zz (λk h=>by have:=hX k h;simp at hsz0 ⊢;omega) IK WM (by simp) (by simp) (by simpa[nl]using ⟨hmw,hmf⟩) (by simp at hsz0 ⊢;omega) Xn).mono ?_;rintro e z0 ⟨⟨r0,rfl⟩,yh,iK,IJ,Qs,Nh⟩;refine hK.out _ _ (hS0.trans Nh) (ag5 (by kernel_rfl) ?_ _);clear hK K;have Xm:yh.length<=100000:=by rw[IJ.len];simp;omega
 have yR:VK W0 z0:=(VK.grown (wS.trans hG0)).trans Nh;have Iz:Below n0 W0 z0:=((But.aA (wS.trans hG0)).below (by omega) (λk _ e=>by cases e)).trans Qs;have bw1:=aI yR bw0;have bf1:=aI yR bf0;have bs1:=aI yR bs0;have YL:w.heap.size<=z0.heap.size:=af7 (by omega) Iz.size;have uj:=hbl.trans Iz;have uf:=hvk.trans yR;clear hbl hvk;have hbl:=uj;have hvk:=uf;clear uj uf Qs Nh yR Iz bw0 bf0 bs0 QH FY IK cw0 cf0 cs0 dw0 df0 ds0 ew0 ef0 es0
 go_wp2_with fail
 obtain⟨V1,hV1⟩:∃V,z0.drew=V:=⟨_,rfl⟩;have rO:z0.grownBy V1 none:=by rw[<-hV1];exact⟨rfl,rfl,rfl,ad5 _,λ_ _ _=>rfl⟩
 refine ah0 (S:=λW'=>VK V1 W') rfl ?_;have hS0:VK V1 V1:=VK.refl _;have hG1:V1.grownBy V1 none:=ah7 _ _;simp only[ae2,ae1,ae8,Nat.reduceAdd,ae0,ad9,ae4,ae7,ae6];change wpAnyH prog .any _ _ _ _ _ _ z0.drew;rw[hV1];clear hV1;have cw1:V1.heap[w.heap.size]?=some (.cells #[.int .i64 xw,.bool iw] 207 (0,0)):=(rO.block _ (ad3.1 bw1).1 (by simp)).trans bw1;have dw1:V1.cell? ⟨w.heap.size,0,none⟩=some (.int .i64 xw):=by rw[cell_of cw1];rfl
 have ew1:V1.cell? ⟨w.heap.size,1,none⟩=some (.bool iw):=by rw[cell_of cw1];rfl
 have cf1:V1.heap[w.heap.size+1]?=some (.cells #[.int .i64 xf,.bool jf] 207 (0,0)):=(rO.block _ (ad3.1 bf1).1 (by simp)).trans bf1;have df1:V1.cell? ⟨w.heap.size+1,0,none⟩=some (.int .i64 xf):=by rw[cell_of cf1];rfl
 have ef1:V1.cell? ⟨w.heap.size+1,1,none⟩=some (.bool jf):=by rw[cell_of cf1];rfl
 have cs1:V1.heap[w.heap.size+1+1]?=some (.cells #[.int .i64 xs,.bool js] 207 (0,0)):=(rO.block _ (ad3.1 bs1).1 (by simp)).trans bs1;have ds1:V1.cell? ⟨w.heap.size+1+1,0,none⟩=some (.int .i64 xs):=by rw[cell_of cs1];rfl
 have es1:V1.cell? ⟨w.heap.size+1+1,1,none⟩=some (.bool js):=by rw[cell_of cs1];rfl
 have FX:=iK.grow rO;refine tH 0 (.pointer (some ⟨lb,0,none⟩)) (λw' hS=>?_) hS0 ?_
 ·go_simp
 simp only[aC];refine tH 1 (.agg #[.int .i64 xw,.bool iw]) (λw' hS=>?_) hS0 ?_
 ·have q:=aI hS cw1;have q0:=(cell_of q 0);have q1:=(cell_of q 1)
  go_simp
 simp only[aC];refine tH 3 (.agg #[.int .i64 xs,.bool js]) (λw' hS=>?_) hS0 ?_
 ·have q:=aI hS cs1;have q0:=(cell_of q 0);have q1:=(cell_of q 1)
  go_simp
 simp only[aC];refine oH 2 (λK hK=>?_);go_simp;refine(fJ xw iw V1).mono ?_;rintro e n12 ⟨rfl,hn12⟩;replace hS0:=hS0.trans (VK.grown hn12);refine hK.out _ _ hS0 ?_;clear hK K;replace hG1:=hG1.trans hn12;refine oH 4 (λK hK=>?_);go_simp;replace hS0:=hS0.trans (VK.grown (ad4 _ (.cells #[.int .i64 xw,.bool (!iw),.int .i64 xs,.bool js] 207) none));refine hK.out _ _ hS0 ?_;clear hK K;replace hG1:=hG1.trans (ad4 _ (.cells #[.int .i64 xw,.bool (!iw),.int .i64 xs,.bool js] 207) none);have QG:=FX.grow hG1;have hsz1:=hG1.size;have YI:=rO.size;have WL:aP (n12.alloc (.cells #[.int .i64 xw,.bool (!iw),.int .i64 xs,.bool js] 207)) (.slice (some ⟨n12.heap.size,0,none⟩) 2 2) ([nl lw,ls].map (vw Us)):=by
  have:=RV n12 (xw,!iw) (xs,js);simpa[vw,nl,<-hxw,<-hiw,<-hxf,<-hif,<-hxs,<-his]using this
 refine oH 5 (λK hK=>?_);go_simp;refine(dA X n0 (n12.alloc (.cells #[.int .i64 xw,.bool (!iw),.int .i64 xs,.bool js] 207)) lb BU BS f dom Us yh (L++[[nl lw,lf]]) _ [nl lw,ls] QG (λk h=>by have:=hX k h;simp at hsz1 ⊢;omega) IJ WL (by simp) (by simp) (by simpa[nl]using ⟨hmw,hms⟩) (by simp at hsz1 ⊢;omega) Xm).mono ?_;rintro e z1 ⟨⟨r1,rfl⟩,yg,iJ,oz,FV,gZ⟩;refine hK.out _ _ (hS0.trans gZ) (ag5 (by kernel_rfl) ?_ _);clear hK K;have Xl:yg.length<=100000:=by rw[oz.len];simp;omega
 have yQ:VK z0 z1:=(VK.grown (rO.trans hG1)).trans gZ;have Iy:Below n0 z0 z1:=((But.aA (rO.trans hG1)).below (by omega) (λk _ e=>by cases e)).trans FV;have bw2:=aI yQ bw1;have bf2:=aI yQ bf1;have bs2:=aI yQ bs1;have YK:w.heap.size<=z1.heap.size:=af7 (by omega) Iy.size;have uj:=hbl.trans Iy;have uf:=hvk.trans yQ;clear hbl hvk;have hbl:=uj;have hvk:=uf;clear uj uf FV gZ yQ Iy bw1 bf1 bs1 iK FX IJ cw1 cf1 cs1 dw1 df1 ds1 ew1 ef1 es1
 go_wp2_with fail
 obtain⟨V2,hV2⟩:∃V,z1.drew=V:=⟨_,rfl⟩;have rM:z1.grownBy V2 none:=by rw[<-hV2];exact⟨rfl,rfl,rfl,ad5 _,λ_ _ _=>rfl⟩
 refine ah0 (S:=λW'=>VK V2 W') rfl ?_;have hS0:VK V2 V2:=VK.refl _;have hG2:V2.grownBy V2 none:=ah7 _ _;simp only[ae2,ae1,ae8,Nat.reduceAdd,ae0,ad9,ae4,ae7,ae6];change wpAnyH prog .any _ _ _ _ _ _ z1.drew;rw[hV2];clear hV2;have cw2:V2.heap[w.heap.size]?=some (.cells #[.int .i64 xw,.bool iw] 207 (0,0)):=(rM.block _ (ad3.1 bw2).1 (by simp)).trans bw2;have dw2:V2.cell? ⟨w.heap.size,0,none⟩=some (.int .i64 xw):=by rw[cell_of cw2];rfl
 have ew2:V2.cell? ⟨w.heap.size,1,none⟩=some (.bool iw):=by rw[cell_of cw2];rfl
 have cf2:V2.heap[w.heap.size+1]?=some (.cells #[.int .i64 xf,.bool jf] 207 (0,0)):=(rM.block _ (ad3.1 bf2).1 (by simp)).trans bf2;have df2:V2.cell? ⟨w.heap.size+1,0,none⟩=some (.int .i64 xf):=by rw[cell_of cf2];rfl
 have ef2:V2.cell? ⟨w.heap.size+1,1,none⟩=some (.bool jf):=by rw[cell_of cf2];rfl
 have cs2:V2.heap[w.heap.size+1+1]?=some (.cells #[.int .i64 xs,.bool js] 207 (0,0)):=(rM.block _ (ad3.1 bs2).1 (by simp)).trans bs2;have ds2:V2.cell? ⟨w.heap.size+1+1,0,none⟩=some (.int .i64 xs):=by rw[cell_of cs2];rfl
 have es2:V2.cell? ⟨w.heap.size+1+1,1,none⟩=some (.bool js):=by rw[cell_of cs2];rfl
 have J8:=iJ.grow rM;refine tH 0 (.pointer (some ⟨lb,0,none⟩)) (λw' hS=>?_) hS0 ?_
 ·go_simp
 simp only[aC];refine tH 1 (.agg #[.int .i64 xw,.bool iw]) (λw' hS=>?_) hS0 ?_
 ·have q:=aI hS cw2;have q0:=(cell_of q 0);have q1:=(cell_of q 1)
  go_simp
 simp only[aC];refine tH 2 (.agg #[.int .i64 xf,.bool jf]) (λw' hS=>?_) hS0 ?_
 ·have q:=aI hS cf2;have q0:=(cell_of q 0);have q1:=(cell_of q 1)
  go_simp
 simp only[aC];refine tH 4 (.agg #[.int .i64 xs,.bool js]) (λw' hS=>?_) hS0 ?_
 ·have q:=aI hS cs2;have q0:=(cell_of q 0);have q1:=(cell_of q 1)
  go_simp
 simp only[aC];refine oH 3 (λK hK=>?_);go_simp;refine(fJ xf jf V2).mono ?_;rintro e n23 ⟨rfl,hn23⟩;replace hS0:=hS0.trans (VK.grown hn23);refine hK.out _ _ hS0 ?_;clear hK K;replace hG2:=hG2.trans hn23;refine oH 5 (λK hK=>?_);go_simp;refine(fJ xs js n23).mono ?_;rintro e n25 ⟨rfl,hn25⟩;replace hS0:=hS0.trans (VK.grown hn25);refine hK.out _ _ hS0 ?_;clear hK K;replace hG2:=hG2.trans hn25;refine oH 6 (λK hK=>?_);go_simp;replace hS0:=hS0.trans (VK.grown (ad4 _ (.cells #[.int .i64 xw,.bool iw,.int .i64 xf,.bool (!jf),.int .i64 xs,.bool (!js)] 207) none));refine hK.out _ _ hS0 ?_;clear hK K;replace hG2:=hG2.trans (ad4 _ (.cells #[.int .i64 xw,.bool iw,.int .i64 xf,.bool (!jf),.int .i64 xs,.bool (!js)] 207) none);have QF:=J8.grow hG2;have hsz2:=hG2.size;have YH:=rM.size;have Nk:aP (n25.alloc (.cells #[.int .i64 xw,.bool iw,.int .i64 xf,.bool (!jf),.int .i64 xs,.bool (!js)] 207)) (.slice (some ⟨n25.heap.size,0,none⟩) 3 3) ([lw,nl lf,nl ls].map (vw Us)):=by
  have:=nK n25 (xw,iw) (xf,!jf) (xs,!js);simpa[vw,nl,<-hxw,<-hiw,<-hxf,<-hif,<-hxs,<-his]using this
 refine oH 7 (λK hK=>?_);go_simp;refine(dA X n0 (n25.alloc (.cells #[.int .i64 xw,.bool iw,.int .i64 xf,.bool (!jf),.int .i64 xs,.bool (!js)] 207)) lb BU BS f dom Us yg (L++[[nl lw,lf]]++[[nl lw,ls]]) _ [lw,nl lf,nl ls] QF (λk h=>by have:=hX k h;simp at hsz2 ⊢;omega) oz Nk (by simp) (by simp) (by simpa[nl]using ⟨hmw,hmf,hms⟩) (by simp at hsz2 ⊢;omega) Xl).mono ?_;rintro e z2 ⟨⟨r2,rfl⟩,dS,iD,iC,Uz,Nc⟩;refine hK.out _ _ (hS0.trans Nc) (ag5 (by kernel_rfl) ?_ _);clear hK K;have Zw:dS.length<=100000:=by rw[iC.len];simp;omega
 have Ik:VK z1 z2:=(VK.grown (rM.trans hG2)).trans Nc;have Qu:Below n0 z1 z2:=((But.aA (rM.trans hG2)).below (by omega) (λk _ e=>by cases e)).trans Uz;have Q1:=aj iD;have Q2:=aj iC;have Q3:=aj (hbl.trans Qu);have Q4:=aj (hvk.trans Ik);clear iD iC hbl hvk
 go_wp2_with fail
 go_end0
 refine⟨⟨_,rfl⟩,_,ah Q1,?_,ah Q3,ah Q4⟩;have h:=ah Q2;simpa[lC]using h
theorem Ji(X:Nat->Prop)(n0:Nat)(w:World)(lb BU BS:Nat)(f:Key->Key)(dom:Key->Prop)(Us:List Key)(aJ:List Rule)(L:List (List aU))(lw lf ls:aU)(iQ:LG n0 w lb BU BS f dom Us aJ X)(hX:∀k,X k->k<w.heap.size)(IK:jW Us aJ L)(hmw:lw.1∈Us)(hmf:lf.1∈Us)(hms:ls.1∈Us)(hn:n0<=w.heap.size)(hR:L.length<=90000) :
  Calls prog 165 #[.pointer (some ⟨lb,0,none⟩),vV (vw Us lw),vV (vw Us lf),vV (vw Us ls)] w λe w'=>(∃z,e=.returned z)/\∃aK,LG n0 w' lb BU BS f dom Us aK X/\jW Us aK (L++pX lw lf ls)/\Below n0 w w'/\VK w w':=by
 obtain⟨xw,hxw⟩:∃x,Us.idxOf lw.1=x:=⟨_,rfl⟩;obtain⟨xf,hxf⟩:∃x,Us.idxOf lf.1=x:=⟨_,rfl⟩;obtain⟨xs,hxs⟩:∃x,Us.idxOf ls.1=x:=⟨_,rfl⟩;obtain⟨iw,hiw⟩:∃x,lw.2=x:=⟨_,rfl⟩;obtain⟨jf,hif⟩:∃x,lf.2=x:=⟨_,rfl⟩;obtain⟨js,his⟩:∃x,ls.2=x:=⟨_,rfl⟩;have L0:=L;have Xn:aJ.length<=100000:=by rw[IK.len];omega
 unfold vV vw;rw[hxw,hxf,hxs,hiw,hif,his];obtain⟨W0,hW0⟩:∃W0,((w.alloc (.cells #[.int .i64 xw,.bool iw] 207)).alloc (.cells #[.int .i64 xf,.bool jf] 207)).alloc (.cells #[.int .i64 xs,.bool js] 207)=W0:=⟨_,rfl⟩;have hg0:w.grownBy W0 none:=by rw[<-hW0];exact((ad4 _ _ none).trans (ad4 _ _ none)).trans (ad4 _ _ none)
 have bw0:W0.heap[w.heap.size]?=some (.cells #[.int .i64 xw,.bool iw] 207 (0,0)):=by
  rw[<-hW0,ae3 _ _ _ (by simp;omega),ae3 _ _ _ (by simp),ae9]
 have bf0:W0.heap[w.heap.size+1]?=some (.cells #[.int .i64 xf,.bool jf] 207 (0,0)):=by
  have e:w.heap.size+1=(w.alloc (.cells #[.int .i64 xw,.bool iw] 207)).heap.size:=by simp
  rw[<-hW0,ae3 _ _ _ (by simp),e,ae9]
 have bs0:W0.heap[w.heap.size+1+1]?=some (.cells #[.int .i64 xs,.bool js] 207 (0,0)):=by
  have e:w.heap.size+1+1=((w.alloc (.cells #[.int .i64 xw,.bool iw] 207)).alloc (.cells #[.int .i64 xf,.bool jf] 207)).heap.size:=by simp
  rw[<-hW0,e,ae9]
 have QH:=iQ.grow hg0;have hbl:Below n0 w W0:=(But.aA hg0).below hn (λk _ e=>by cases e);have hvk:VK w W0:=VK.grown hg0;have hsW:=hg0.size;clear iQ;have wS:W0.grownBy W0 none:=ah7 _ _;have cw0:W0.heap[w.heap.size]?=some (.cells #[.int .i64 xw,.bool iw] 207 (0,0)):=(wS.block _ (ad3.1 bw0).1 (by simp)).trans bw0;have dw0:W0.cell? ⟨w.heap.size,0,none⟩=some (.int .i64 xw):=by rw[cell_of cw0];rfl
 have ew0:W0.cell? ⟨w.heap.size,1,none⟩=some (.bool iw):=by rw[cell_of cw0];rfl
 have cf0:W0.heap[w.heap.size+1]?=some (.cells #[.int .i64 xf,.bool jf] 207 (0,0)):=(wS.block _ (ad3.1 bf0).1 (by simp)).trans bf0;have df0:W0.cell? ⟨w.heap.size+1,0,none⟩=some (.int .i64 xf):=by rw[cell_of cf0];rfl
 have ef0:W0.cell? ⟨w.heap.size+1,1,none⟩=some (.bool jf):=by rw[cell_of cf0];rfl
 have cs0:W0.heap[w.heap.size+1+1]?=some (.cells #[.int .i64 xs,.bool js] 207 (0,0)):=(wS.block _ (ad3.1 bs0).1 (by simp)).trans bs0;have ds0:W0.cell? ⟨w.heap.size+1+1,0,none⟩=some (.int .i64 xs):=by rw[cell_of cs0];rfl
 have es0:W0.cell? ⟨w.heap.size+1+1,1,none⟩=some (.bool js):=by rw[cell_of cs0];rfl
 have FY:=QH.grow wS;have WY:W0.grownBy (W0.alloc (.cells #[.int .i64 xw,.bool iw,.int .i64 xf,.bool jf,.int .i64 xs,.bool js] 207)) none:=ad4 _ _ none;have WM:aP (W0.alloc (.cells #[.int .i64 xw,.bool iw,.int .i64 xf,.bool jf,.int .i64 xs,.bool js] 207)) (.slice (some ⟨W0.heap.size,0,none⟩) 3 3) ([lw,lf,ls].map (vw Us)):=by
  have:=nK W0 (xw,iw) (xf,jf) (xs,js);simpa[vw,nl,<-hxw,<-hiw,<-hxf,<-hif,<-hxs,<-his]using this
 have aaV:=dA X n0 (W0.alloc (.cells #[.int .i64 xw,.bool iw,.int .i64 xf,.bool jf,.int .i64 xs,.bool js] 207)) lb BU BS f dom Us aJ (L) _ [lw,lf,ls] (FY.grow WY) (λk h=>by have:=hX k h;simp;omega) IK WM (by simp) (by simp) (by simpa[nl]using ⟨hmw,hmf,hms⟩) (by simp;omega) Xn
 go_enter func165,ntmps165
 go_wp2_with fail
 clear hW0;refine aaV.mono ?_;rintro e z0 ⟨⟨r0,rfl⟩,yh,iK,IJ,Qs,Nh⟩;have Xm:yh.length<=100000:=by rw[IJ.len];simp;omega
 have yR:VK W0 z0:=(VK.grown WY).trans Nh;have Iz:Below n0 W0 z0:=((But.aA WY).below (by omega) (λk _ e=>by cases e)).trans Qs;have bw1:=aI yR bw0;have bf1:=aI yR bf0;have bs1:=aI yR bs0;have YL:w.heap.size<=z0.heap.size:=af7 (by omega) Iz.size;have uj:=hbl.trans Iz;have uf:=hvk.trans yR;clear hbl hvk;have hbl:=uj;have hvk:=uf;clear uj uf Qs Nh yR Iz bw0 bf0 bs0 QH FY IK cw0 cf0 cs0 dw0 df0 ds0 ew0 ef0 es0
 go_wp2_with fail
 obtain⟨V1,hV1⟩:∃V,z0.drew=V:=⟨_,rfl⟩;have rO:z0.grownBy V1 none:=by rw[<-hV1];exact⟨rfl,rfl,rfl,ad5 _,λ_ _ _=>rfl⟩
 refine ah0 (S:=λW'=>VK V1 W') rfl ?_;have hS0:VK V1 V1:=VK.refl _;have hG1:V1.grownBy V1 none:=ah7 _ _;simp only[ae2,ae1,ae8,Nat.reduceAdd,ae0,ad9,ae4,ae7,ae6];change wpAnyH prog .any _ _ _ _ _ _ z0.drew;rw[hV1];clear hV1;have cw1:V1.heap[w.heap.size]?=some (.cells #[.int .i64 xw,.bool iw] 207 (0,0)):=(rO.block _ (ad3.1 bw1).1 (by simp)).trans bw1;have dw1:V1.cell? ⟨w.heap.size,0,none⟩=some (.int .i64 xw):=by rw[cell_of cw1];rfl
 have ew1:V1.cell? ⟨w.heap.size,1,none⟩=some (.bool iw):=by rw[cell_of cw1];rfl
 have cf1:V1.heap[w.heap.size+1]?=some (.cells #[.int .i64 xf,.bool jf] 207 (0,0)):=(rO.block _ (ad3.1 bf1).1 (by simp)).trans bf1;have df1:V1.cell? ⟨w.heap.size+1,0,none⟩=some (.int .i64 xf):=by rw[cell_of cf1];rfl
 have ef1:V1.cell? ⟨w.heap.size+1,1,none⟩=some (.bool jf):=by rw[cell_of cf1];rfl
 have cs1:V1.heap[w.heap.size+1+1]?=some (.cells #[.int .i64 xs,.bool js] 207 (0,0)):=(rO.block _ (ad3.1 bs1).1 (by simp)).trans bs1;have ds1:V1.cell? ⟨w.heap.size+1+1,0,none⟩=some (.int .i64 xs):=by rw[cell_of cs1];rfl
 have es1:V1.cell? ⟨w.heap.size+1+1,1,none⟩=some (.bool js):=by rw[cell_of cs1];rfl
 have FX:=iK.grow rO;refine tH 0 (.pointer (some ⟨lb,0,none⟩)) (λw' hS=>?_) hS0 ?_
 ·go_simp
 simp only[aC];refine tH 1 (.agg #[.int .i64 xw,.bool iw]) (λw' hS=>?_) hS0 ?_
 ·have q:=aI hS cw1;have q0:=(cell_of q 0);have q1:=(cell_of q 1)
  go_simp
 simp only[aC];refine tH 2 (.agg #[.int .i64 xf,.bool jf]) (λw' hS=>?_) hS0 ?_
 ·have q:=aI hS cf1;have q0:=(cell_of q 0);have q1:=(cell_of q 1)
  go_simp
 simp only[aC];refine tH 4 (.agg #[.int .i64 xs,.bool js]) (λw' hS=>?_) hS0 ?_
 ·have q:=aI hS cs1;have q0:=(cell_of q 0);have q1:=(cell_of q 1)
  go_simp
 simp only[aC];refine oH 3 (λK hK=>?_);go_simp;refine(fJ xf jf V1).mono ?_;rintro e n13 ⟨rfl,hn13⟩;replace hS0:=hS0.trans (VK.grown hn13);refine hK.out _ _ hS0 ?_;clear hK K;replace hG1:=hG1.trans hn13;refine oH 5 (λK hK=>?_);go_simp;refine(fJ xs js n13).mono ?_;rintro e n15 ⟨rfl,hn15⟩;replace hS0:=hS0.trans (VK.grown hn15);refine hK.out _ _ hS0 ?_;clear hK K;replace hG1:=hG1.trans hn15;refine oH 6 (λK hK=>?_);go_simp;replace hS0:=hS0.trans (VK.grown (ad4 _ (.cells #[.int .i64 xw,.bool iw,.int .i64 xf,.bool (!jf),.int .i64 xs,.bool (!js)] 207) none));refine hK.out _ _ hS0 ?_;clear hK K;replace hG1:=hG1.trans (ad4 _ (.cells #[.int .i64 xw,.bool iw,.int .i64 xf,.bool (!jf),.int .i64 xs,.bool (!js)] 207) none);have QG:=FX.grow hG1;have hsz1:=hG1.size;have YI:=rO.size;have WL:aP (n15.alloc (.cells #[.int .i64 xw,.bool iw,.int .i64 xf,.bool (!jf),.int .i64 xs,.bool (!js)] 207)) (.slice (some ⟨n15.heap.size,0,none⟩) 3 3) ([lw,nl lf,nl ls].map (vw Us)):=by
  have:=nK n15 (xw,iw) (xf,!jf) (xs,!js);simpa[vw,nl,<-hxw,<-hiw,<-hxf,<-hif,<-hxs,<-his]using this
 refine oH 7 (λK hK=>?_);go_simp;refine(dA X n0 (n15.alloc (.cells #[.int .i64 xw,.bool iw,.int .i64 xf,.bool (!jf),.int .i64 xs,.bool (!js)] 207)) lb BU BS f dom Us yh (L++[[lw,lf,ls]]) _ [lw,nl lf,nl ls] QG (λk h=>by have:=hX k h;simp at hsz1 ⊢;omega) IJ WL (by simp) (by simp) (by simpa[nl]using ⟨hmw,hmf,hms⟩) (by simp at hsz1 ⊢;omega) Xm).mono ?_;rintro e z1 ⟨⟨r1,rfl⟩,yg,iJ,oz,FV,gZ⟩;refine hK.out _ _ (hS0.trans gZ) (ag5 (by kernel_rfl) ?_ _);clear hK K;have Xl:yg.length<=100000:=by rw[oz.len];simp;omega
 have yQ:VK z0 z1:=(VK.grown (rO.trans hG1)).trans gZ;have Iy:Below n0 z0 z1:=((But.aA (rO.trans hG1)).below (by omega) (λk _ e=>by cases e)).trans FV;have bw2:=aI yQ bw1;have bf2:=aI yQ bf1;have bs2:=aI yQ bs1;have YK:w.heap.size<=z1.heap.size:=af7 (by omega) Iy.size;have uj:=hbl.trans Iy;have uf:=hvk.trans yQ;clear hbl hvk;have hbl:=uj;have hvk:=uf;clear uj uf FV gZ yQ Iy bw1 bf1 bs1 iK FX IJ cw1 cf1 cs1 dw1 df1 ds1 ew1 ef1 es1
 go_wp2_with fail
 obtain⟨V2,hV2⟩:∃V,z1.drew=V:=⟨_,rfl⟩;have rM:z1.grownBy V2 none:=by rw[<-hV2];exact⟨rfl,rfl,rfl,ad5 _,λ_ _ _=>rfl⟩
 refine ah0 (S:=λW'=>VK V2 W') rfl ?_;have hS0:VK V2 V2:=VK.refl _;have hG2:V2.grownBy V2 none:=ah7 _ _;simp only[ae2,ae1,ae8,Nat.reduceAdd,ae0,ad9,ae4,ae7,ae6];change wpAnyH prog .any _ _ _ _ _ _ z1.drew;rw[hV2];clear hV2;have cw2:V2.heap[w.heap.size]?=some (.cells #[.int .i64 xw,.bool iw] 207 (0,0)):=(rM.block _ (ad3.1 bw2).1 (by simp)).trans bw2;have dw2:V2.cell? ⟨w.heap.size,0,none⟩=some (.int .i64 xw):=by rw[cell_of cw2];rfl
 have ew2:V2.cell? ⟨w.heap.size,1,none⟩=some (.bool iw):=by rw[cell_of cw2];rfl
 have cf2:V2.heap[w.heap.size+1]?=some (.cells #[.int .i64 xf,.bool jf] 207 (0,0)):=(rM.block _ (ad3.1 bf2).1 (by simp)).trans bf2;have df2:V2.cell? ⟨w.heap.size+1,0,none⟩=some (.int .i64 xf):=by rw[cell_of cf2];rfl
 have ef2:V2.cell? ⟨w.heap.size+1,1,none⟩=some (.bool jf):=by rw[cell_of cf2];rfl
 have cs2:V2.heap[w.heap.size+1+1]?=some (.cells #[.int .i64 xs,.bool js] 207 (0,0)):=(rM.block _ (ad3.1 bs2).1 (by simp)).trans bs2;have ds2:V2.cell? ⟨w.heap.size+1+1,0,none⟩=some (.int .i64 xs):=by rw[cell_of cs2];rfl
 have es2:V2.cell? ⟨w.heap.size+1+1,1,none⟩=some (.bool js):=by rw[cell_of cs2];rfl
 have J8:=iJ.grow rM;refine tH 0 (.pointer (some ⟨lb,0,none⟩)) (λw' hS=>?_) hS0 ?_
 ·go_simp
 simp only[aC];refine tH 1 (.agg #[.int .i64 xw,.bool iw]) (λw' hS=>?_) hS0 ?_
 ·have q:=aI hS cw2;have q0:=(cell_of q 0);have q1:=(cell_of q 1)
  go_simp
 simp only[aC];refine tH 3 (.agg #[.int .i64 xf,.bool jf]) (λw' hS=>?_) hS0 ?_
 ·have q:=aI hS cf2;have q0:=(cell_of q 0);have q1:=(cell_of q 1)
  go_simp
 simp only[aC];refine tH 4 (.agg #[.int .i64 xs,.bool js]) (λw' hS=>?_) hS0 ?_
 ·have q:=aI hS cs2;have q0:=(cell_of q 0);have q1:=(cell_of q 1)
  go_simp
 simp only[aC];refine oH 2 (λK hK=>?_);go_simp;refine(fJ xw iw V2).mono ?_;rintro e n22 ⟨rfl,hn22⟩;replace hS0:=hS0.trans (VK.grown hn22);refine hK.out _ _ hS0 ?_;clear hK K;replace hG2:=hG2.trans hn22;refine oH 5 (λK hK=>?_);go_simp;refine(fJ xs js n22).mono ?_;rintro e n25 ⟨rfl,hn25⟩;replace hS0:=hS0.trans (VK.grown hn25);refine hK.out _ _ hS0 ?_;clear hK K;replace hG2:=hG2.trans hn25;refine oH 6 (λK hK=>?_);go_simp;replace hS0:=hS0.trans (VK.grown (ad4 _ (.cells #[.int .i64 xw,.bool (!iw),.int .i64 xf,.bool jf,.int .i64 xs,.bool (!js)] 207) none));refine hK.out _ _ hS0 ?_;clear hK K;replace hG2:=hG2.trans (ad4 _ (.cells #[.int .i64 xw,.bool (!iw),.int .i64 xf,.bool jf,.int .i64 xs,.bool (!js)] 207) none);have QF:=J8.grow hG2;have hsz2:=hG2.size;have YH:=rM.size;have Nk:aP (n25.alloc (.cells #[.int .i64 xw,.bool (!iw),.int .i64 xf,.bool jf,.int .i64 xs,.bool (!js)] 207)) (.slice (some ⟨n25.heap.size,0,none⟩) 3 3) ([nl lw,lf,nl ls].map (vw Us)):=by
  have:=nK n25 (xw,!iw) (xf,jf) (xs,!js);simpa[vw,nl,<-hxw,<-hiw,<-hxf,<-hif,<-hxs,<-his]using this
 refine oH 7 (λK hK=>?_);go_simp;refine(dA X n0 (n25.alloc (.cells #[.int .i64 xw,.bool (!iw),.int .i64 xf,.bool jf,.int .i64 xs,.bool (!js)] 207)) lb BU BS f dom Us yg (L++[[lw,lf,ls]]++[[lw,nl lf,nl ls]]) _ [nl lw,lf,nl ls] QF (λk h=>by have:=hX k h;simp at hsz2 ⊢;omega) oz Nk (by simp) (by simp) (by simpa[nl]using ⟨hmw,hmf,hms⟩) (by simp at hsz2 ⊢;omega) Xl).mono ?_;rintro e z2 ⟨⟨r2,rfl⟩,dS,iD,iC,Uz,Nc⟩;refine hK.out _ _ (hS0.trans Nc) (ag5 (by kernel_rfl) ?_ _);clear hK K;have Zw:dS.length<=100000:=by rw[iC.len];simp;omega
 have Ik:VK z1 z2:=(VK.grown (rM.trans hG2)).trans Nc;have Qu:Below n0 z1 z2:=((But.aA (rM.trans hG2)).below (by omega) (λk _ e=>by cases e)).trans Uz;have bw3:=aI Ik bw2;have bf3:=aI Ik bf2;have bs3:=aI Ik bs2;have acJ:w.heap.size<=z2.heap.size:=af7 (by omega) Qu.size;have uj:=hbl.trans Qu;have uf:=hvk.trans Ik;clear hbl hvk;have hbl:=uj;have hvk:=uf;clear uj uf Uz Nc Ik Qu bw2 bf2 bs2 iJ J8 oz cw2 cf2 cs2 dw2 df2 ds2 ew2 ef2 es2
 go_wp2_with fail
 obtain⟨V3,hV3⟩:∃V,z2.drew=V:=⟨_,rfl⟩;have Iu:z2.grownBy V3 none:=by rw[<-hV3];exact⟨rfl,rfl,rfl,ad5 _,λ_ _ _=>rfl⟩
 refine ah0 (S:=λW'=>VK V3 W') rfl ?_;have hS0:VK V3 V3:=VK.refl _;have hG3:V3.grownBy V3 none:=ah7 _ _;simp only[ae2,ae1,ae8,Nat.reduceAdd,ae0,ad9,ae4,ae7,ae6];change wpAnyH prog .any _ _ _ _ _ _ z2.drew;rw[hV3];clear hV3;have cw3:V3.heap[w.heap.size]?=some (.cells #[.int .i64 xw,.bool iw] 207 (0,0)):=(Iu.block _ (ad3.1 bw3).1 (by simp)).trans bw3;have dw3:V3.cell? ⟨w.heap.size,0,none⟩=some (.int .i64 xw):=by rw[cell_of cw3];rfl
 have ew3:V3.cell? ⟨w.heap.size,1,none⟩=some (.bool iw):=by rw[cell_of cw3];rfl
 have cf3:V3.heap[w.heap.size+1]?=some (.cells #[.int .i64 xf,.bool jf] 207 (0,0)):=(Iu.block _ (ad3.1 bf3).1 (by simp)).trans bf3;have df3:V3.cell? ⟨w.heap.size+1,0,none⟩=some (.int .i64 xf):=by rw[cell_of cf3];rfl
 have ef3:V3.cell? ⟨w.heap.size+1,1,none⟩=some (.bool jf):=by rw[cell_of cf3];rfl
 have cs3:V3.heap[w.heap.size+1+1]?=some (.cells #[.int .i64 xs,.bool js] 207 (0,0)):=(Iu.block _ (ad3.1 bs3).1 (by simp)).trans bs3;have ds3:V3.cell? ⟨w.heap.size+1+1,0,none⟩=some (.int .i64 xs):=by rw[cell_of cs3];rfl
 have es3:V3.cell? ⟨w.heap.size+1+1,1,none⟩=some (.bool js):=by rw[cell_of cs3];rfl
 have ZE:=iD.grow Iu;refine tH 0 (.pointer (some ⟨lb,0,none⟩)) (λw' hS=>?_) hS0 ?_
 ·go_simp
 simp only[aC];refine tH 1 (.agg #[.int .i64 xw,.bool iw]) (λw' hS=>?_) hS0 ?_
 ·have q:=aI hS cw3;have q0:=(cell_of q 0);have q1:=(cell_of q 1)
  go_simp
 simp only[aC];refine tH 3 (.agg #[.int .i64 xf,.bool jf]) (λw' hS=>?_) hS0 ?_
 ·have q:=aI hS cf3;have q0:=(cell_of q 0);have q1:=(cell_of q 1)
  go_simp
 simp only[aC];refine tH 5 (.agg #[.int .i64 xs,.bool js]) (λw' hS=>?_) hS0 ?_
 ·have q:=aI hS cs3;have q0:=(cell_of q 0);have q1:=(cell_of q 1)
  go_simp
 simp only[aC];refine oH 2 (λK hK=>?_);go_simp;refine(fJ xw iw V3).mono ?_;rintro e n32 ⟨rfl,hn32⟩;replace hS0:=hS0.trans (VK.grown hn32);refine hK.out _ _ hS0 ?_;clear hK K;replace hG3:=hG3.trans hn32;refine oH 4 (λK hK=>?_);go_simp;refine(fJ xf jf n32).mono ?_;rintro e n34 ⟨rfl,hn34⟩;replace hS0:=hS0.trans (VK.grown hn34);refine hK.out _ _ hS0 ?_;clear hK K;replace hG3:=hG3.trans hn34;refine oH 6 (λK hK=>?_);go_simp;replace hS0:=hS0.trans (VK.grown (ad4 _ (.cells #[.int .i64 xw,.bool (!iw),.int .i64 xf,.bool (!jf),.int .i64 xs,.bool js] 207) none));refine hK.out _ _ hS0 ?_;clear hK K;replace hG3:=hG3.trans (ad4 _ (.cells #[.int .i64 xw,.bool (!iw),.int .i64 xf,.bool (!jf),.int .i64 xs,.bool js] 207) none);have Zy:=ZE.grow hG3;have hsz3:=hG3.size;have acr:=Iu.size;have aaI:aP (n34.alloc (.cells #[.int .i64 xw,.bool (!iw),.int .i64 xf,.bool (!jf),.int .i64 xs,.bool js] 207)) (.slice (some ⟨n34.heap.size,0,none⟩) 3 3) ([nl lw,nl lf,ls].map (vw Us)):=by
  have:=nK n34 (xw,!iw) (xf,!jf) (xs,js);simpa[vw,nl,<-hxw,<-hiw,<-hxf,<-hif,<-hxs,<-his]using this
 refine oH 7 (λK hK=>?_);go_simp;refine(dA X n0 (n34.alloc (.cells #[.int .i64 xw,.bool (!iw),.int .i64 xf,.bool (!jf),.int .i64 xs,.bool js] 207)) lb BU BS f dom Us dS (L++[[lw,lf,ls]]++[[lw,nl lf,nl ls]]++[[nl lw,lf,nl ls]]) _ [nl lw,nl lf,ls] Zy (λk h=>by have:=hX k h;simp at hsz3 ⊢;omega) iC aaI (by simp) (by simp) (by simpa[nl]using ⟨hmw,hmf,hms⟩) (by simp at hsz3 ⊢;omega) Zw).mono ?_;rintro e z3 ⟨⟨r3,rfl⟩,V4,ZC,Xp,vF,oq⟩;refine hK.out _ _ (hS0.trans oq) (ag5 (by kernel_rfl) ?_ _);clear hK K;have adi:V4.length<=100000:=by rw[Xp.len];simp;omega
 have aaB:VK z2 z3:=(VK.grown (Iu.trans hG3)).trans oq;have aaZ:Below n0 z2 z3:=((But.aA (Iu.trans hG3)).below (by omega) (λk _ e=>by cases e)).trans vF;have Q1:=aj ZC;have Q2:=aj Xp;have Q3:=aj (hbl.trans aaZ);have Q4:=aj (hvk.trans aaB);clear ZC Xp hbl hvk
 go_wp2_with fail
 go_end0
 refine⟨⟨_,rfl⟩,_,ah Q1,?_,ah Q3,ah Q4⟩;have h:=ah Q2;simpa[pX]using h
end Go.Proofs.YthcppbmkacbbiabGreat
