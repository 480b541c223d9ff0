import Derived.Test.YthcppbmkacbbiaaGreatYBB
set_option linter.unusedSimpArgs false
set_option maxHeartbeats 8000000
set_option maxRecDepth 100000
namespace Go.Proofs.YthcppbmkacbbiaaGreat
open Go.Proofs.Tryz
open Go.RowKit Go.Maps Go.WideMaps
open Sat (View Rule jw bI)
open aB (Key put)
def VK(w w':World):Prop:=∀(k:Nat) (cur:Array Value) (t:TypeId) (x:Nat×Nat),t≠161->t≠210->w.heap[k]?=some (Obj.cells cur t x)->w'.heap[k]?=some (Obj.cells cur t x)
theorem aI{w w':World}(h:VK w w'){k:Nat}{cur:Array Value}{t:TypeId}{x:Nat×Nat}(e:w.heap[k]?=some (Obj.cells cur t x))(h1:t≠161:=by decide)(h2:t≠210:=by decide):w'.heap[k]?=some (Obj.cells cur t x):=h k cur t x h1 h2 e
theorem VK.refl(w:World):VK w w:=λ_ _ _ _ _ _ h=>h
theorem VK.trans{a b c:World}(h:VK a b)(k:VK b c):VK a c:=λi cur t x h1 h2 e=>k i cur t x h1 h2 (h i cur t x h1 h2 e)
theorem VK.grown{w w':World}(h:w.grownBy w' none):VK w w':=λk cur t x _ _ e=>(h.block k (ac0.1 e).1 (by simp)).trans e
theorem VK.map{w w':World}{b:Nat}(h:w.grownBy w' (some b))(hb:∀cur t x,w.heap[b]?≠some (Obj.cells cur t x)):VK w w':=λk cur t x _ _ e=>(h.block k (ac0.1 e).1 (λe2=>by cases e2;exact hb _ _ _ e)).trans e
theorem VK.but{S:Nat->Prop}{w w':World}(h:But S w w')(hS:∀k,S k->∀cur t x,t≠161->t≠210->w.heap[k]?≠some (Obj.cells cur t x)):VK w w':=λk cur t x h1 h2 e=>(h.block k (ac0.1 e).1 (λe2=>hS k e2 cur t x h1 h2 e)).trans e
theorem aH.NQ{w:World}{k b:Nat}{kv:Key->Value}{ts:List Key}(h:aH w k b kv ts):∀cur t x,w.heap[b]?≠some (Obj.cells cur t x):=by
 obtain⟨D,⟨es,c,h1,_⟩,_⟩:=h;intro cur t x e;rw[h1]at e;cases e
theorem oJ.NQ{w:World}{lb:Nat}{mu ms:Option Nat}{rv:Value}(h:oJ w lb mu ms rv):∀cur t x,t≠210->w.heap[lb]?≠some (Obj.cells cur t x):=by
 intro cur t x ht e;rw[h.out]at e;simp at e;exact ht e.2.1.symm
theorem bH.NQ{w:World}{rv:Value}{ak:List Rule}(h:bH w rv ak):∀k,some k=rv.ownBlock->∀cur t x,t≠161->w.heap[k]?≠some (Obj.cells cur t x):=by
 obtain⟨vs,⟨h1,h2⟩,h3⟩:=h;intro k hk cur t x ht e;rcases h2 with⟨rfl,_⟩|⟨g,cap,cur',rfl,q2,q3,q4⟩
 ·cases hk
 ·cases hk;rw[q3]at e;simp at e;exact ht e.2.1.symm
theorem fM(x:Nat)(i:Bool)(w:World):Calls prog 148 #[.agg #[.int .i64 x,.bool i]] w λe w'=>e=.returned (.agg #[.int .i64 x,.bool (!i)])/\w.grownBy w' none:=DU (x,i) w
theorem Rf(w:World)(a:View):aQ (w.alloc (.cells #[.int .i64 a.1,.bool a.2] 214)) (.slice (some ⟨w.heap.size,0,none⟩) 1 1) [a]:=by
 refine Or.inr ⟨w.heap.size,1,_,_,rfl,ad7 _ _,by simp,λi hi=>?_⟩;have:i=0:=by simp at hi;omega
 subst this;exact⟨rfl,rfl⟩
theorem Q9(w:World)(a b:View):aQ (w.alloc (.cells #[.int .i64 a.1,.bool a.2,.int .i64 b.1,.bool b.2] 214)) (.slice (some ⟨w.heap.size,0,none⟩) 2 2) [a,b]:=by
 refine Or.inr ⟨w.heap.size,2,_,_,rfl,ad7 _ _,by simp,λi hi=>?_⟩
 match i,hi with
 |0,_=>exact⟨rfl,rfl⟩
 |1,_=>exact⟨rfl,rfl⟩
theorem nY(w:World)(a b c:View):aQ (w.alloc (.cells #[.int .i64 a.1,.bool a.2,.int .i64 b.1,.bool b.2,.int .i64 c.1,.bool c.2] 214)) (.slice (some ⟨w.heap.size,0,none⟩) 3 3) [a,b,c]:=by
 refine Or.inr ⟨w.heap.size,3,_,_,rfl,ad7 _ _,by simp,λi hi=>?_⟩
 match i,hi with
 |0,_=>exact⟨rfl,rfl⟩
 |1,_=>exact⟨rfl,rfl⟩
 |2,_=>exact⟨rfl,rfl⟩
theorem dD(X:Nat->Prop)(n0:Nat)(w:World)(lb BU BS:Nat)(f:Key->Key)(dom:Key->Prop)(Us:List Key)(ak:List Rule)(L:List (List aV))(v:Value)(ls:List aV)(h:LG n0 w lb BU BS f dom Us ak X)(hX:∀k,X k->k<w.heap.size)(hP:kC Us ak L)(hv:aQ w v (ls.map (vw Us)))
 (h0:ls≠[])(hl:ls.length<=500)(hm:∀l∈ls,l.1∈Us)(hn:n0<=w.heap.size)(hr:ak.length<=100000) :
  Calls prog 145 #[.pointer (some ⟨lb,0,none⟩),v] w λe w'=>(∃z,e=.returned z)/\∃aK,LG n0 w' lb BU BS f dom Us aK X/\kC Us aK (L++[ls])/\Below n0 w w'/\VK w w':=by
 obtain⟨rv,h1,h2,h3⟩:=h.rv;refine(Iy X w lb (some BU) (some BS) rv ak h1 h2 hX v _ hv (by simpa using hl) hr).mono ?_;rintro e w' ⟨hz,rv',hL,hR,hb,ho⟩;obtain⟨g1,g2⟩:=h.dem h1 h2.v h3 hn hL hR hb ho;refine⟨hz,_,g1,hP.demand h0 (by omega) hm,g2,VK.but hb (λk e cur t x t1 t2=>?_)⟩;rcases e with e|e
 ·rw[e];exact h1.NQ cur t x t2
 ·exact h2.v.NQ k e cur t x t1
theorem vJ(X:Nat->Prop)(n0:Nat)(w:World)(lb BU BS:Nat)(f:Key->Key)(dom:Key->Prop)(Us:List Key)(aJ:List Rule)(L:List (List aV))(lw lf ls:aV)(iZ:LG n0 w lb BU BS f dom Us aJ X)(hX:∀k,X k->k<w.heap.size)(Ie:kC Us aJ L)(hmw:lw.1∈Us)(hmf:lf.1∈Us)(hms:ls.1∈Us)(hn:n0<=w.heap.size)(hR:L.length<=90000) :
  Calls prog 185 #[.pointer (some ⟨lb,0,none⟩),vV (vw Us lw),vV (vw Us lf),vV (vw Us ls)] w λe w'=>(∃z,e=.returned z)/\∃aK,LG n0 w' lb BU BS f dom Us aK X/\kC Us aK (L++lN lw lf ls)/\Below n0 w w'/\VK w w':=by
 obtain⟨xw,hxw⟩:∃x,Us.idxOf lw.1=x:=⟨_,rfl⟩;obtain⟨xf,hxf⟩:∃x,Us.idxOf lf.1=x:=⟨_,rfl⟩;obtain⟨xs,hxs⟩:∃x,Us.idxOf ls.1=x:=⟨_,rfl⟩;obtain⟨iw,hiw⟩:∃x,lw.2=x:=⟨_,rfl⟩;obtain⟨jf,hif⟩:∃x,lf.2=x:=⟨_,rfl⟩;obtain⟨js,his⟩:∃x,ls.2=x:=⟨_,rfl⟩;have L0:=L;have Wl:aJ.length<=100000:=by rw[Ie.len];omega
 unfold vV vw;rw[hxw,hxf,hxs,hiw,hif,his];obtain⟨W0,hW0⟩:∃W0,((w.alloc (.cells #[.int .i64 xw,.bool iw] 214)).alloc (.cells #[.int .i64 xf,.bool jf] 214)).alloc (.cells #[.int .i64 xs,.bool js] 214)=W0:=⟨_,rfl⟩;have hg0:w.grownBy W0 none:=by rw[<-hW0];exact((ac1 _ _ none).trans (ac1 _ _ none)).trans (ac1 _ _ none)
 have bw0:W0.heap[w.heap.size]?=some (.cells #[.int .i64 xw,.bool iw] 214 (0,0)):=by
  rw[<-hW0,ad4 _ _ _ (by simp;omega),ad4 _ _ _ (by simp),ad7]
 have bf0:W0.heap[w.heap.size+1]?=some (.cells #[.int .i64 xf,.bool jf] 214 (0,0)):=by
  have e:w.heap.size+1=(w.alloc (.cells #[.int .i64 xw,.bool iw] 214)).heap.size:=by simp
  rw[<-hW0,ad4 _ _ _ (by simp),e,ad7]
 have bs0:W0.heap[w.heap.size+1+1]?=some (.cells #[.int .i64 xs,.bool js] 214 (0,0)):=by
  have e:w.heap.size+1+1=((w.alloc (.cells #[.int .i64 xw,.bool iw] 214)).alloc (.cells #[.int .i64 xf,.bool jf] 214)).heap.size:=by simp
  rw[<-hW0,e,ad7]
 have Qm:=iZ.grow hg0;have hbl:Below n0 w W0:=(But.aA hg0).below hn (λk _ e=>by cases e);have hvk:VK w W0:=VK.grown hg0;have hsW:=hg0.size;clear iZ
 go_enter func185,ntmps185
 go_wp2_with fail
 clear hW0;obtain⟨V0,hV0⟩:∃V,W0.drew=V:=⟨_,rfl⟩;have wU:W0.grownBy V0 none:=by rw[<-hV0];exact⟨rfl,rfl,rfl,ac2 _,λ_ _ _=>rfl⟩
 refine ag0 (S:=λW'=>VK V0 W') rfl ?_;have hS0:VK V0 V0:=VK.refl _;have hG0:V0.grownBy V0 none:=ag8 _ _;simp only[ad3,ac9,ae1,Nat.reduceAdd,ac7,ac6,ad5,ad9,ad8];change wpAnyH prog .any _ _ _ _ _ _ W0.drew;rw[hV0];clear hV0;have cw0:V0.heap[w.heap.size]?=some (.cells #[.int .i64 xw,.bool iw] 214 (0,0)):=(wU.block _ (ac0.1 bw0).1 (by simp)).trans bw0;have dw0:V0.cell? ⟨w.heap.size,0,none⟩=some (.int .i64 xw):=by rw[cell_of cw0];rfl
 have ew0:V0.cell? ⟨w.heap.size,1,none⟩=some (.bool iw):=by rw[cell_of cw0];rfl
 have cf0:V0.heap[w.heap.size+1]?=some (.cells #[.int .i64 xf,.bool jf] 214 (0,0)):=(wU.block _ (ac0.1 bf0).1 (by simp)).trans bf0;have df0:V0.cell? ⟨w.heap.size+1,0,none⟩=some (.int .i64 xf):=by rw[cell_of cf0];rfl
 have ef0:V0.cell? ⟨w.heap.size+1,1,none⟩=some (.bool jf):=by rw[cell_of cf0];rfl
 have cs0:V0.heap[w.heap.size+1+1]?=some (.cells #[.int .i64 xs,.bool js] 214 (0,0)):=(wU.block _ (ac0.1 bs0).1 (by simp)).trans bs0;have ds0:V0.cell? ⟨w.heap.size+1+1,0,none⟩=some (.int .i64 xs):=by rw[cell_of cs0];rfl
 have es0:V0.cell? ⟨w.heap.size+1+1,1,none⟩=some (.bool js):=by rw[cell_of cs0];rfl
 have Fg:=Qm.grow wU;refine tH 0 (.pointer (some ⟨lb,0,none⟩)) (λw' hS=>?_) hS0 ?_
 ·go_simp
 simp only[aC];refine tH 1 (.agg #[.int .i64 xw,.bool iw]) (λw' hS=>?_) hS0 ?_
 ·have q:=aI hS cw0;have q0:=(cell_of q 0);have q1:=(cell_of q 1)
  go_simp
 simp only[aC];refine tH 3 (.agg #[.int .i64 xf,.bool jf]) (λw' hS=>?_) hS0 ?_
 ·have q:=aI hS cf0;have q0:=(cell_of q 0);have q1:=(cell_of q 1)
  go_simp
 simp only[aC];refine oH 2 (λK hK=>?_);go_simp;refine(fM xw iw V0).mono ?_;rintro e n02 ⟨rfl,hn02⟩;replace hS0:=hS0.trans (VK.grown hn02);refine hK.out _ _ hS0 ?_;clear hK K;replace hG0:=hG0.trans hn02;refine oH 4 (λK hK=>?_);go_simp;replace hS0:=hS0.trans (VK.grown (ac1 _ (.cells #[.int .i64 xw,.bool (!iw),.int .i64 xf,.bool jf] 214) none));refine hK.out _ _ hS0 ?_;clear hK K;replace hG0:=hG0.trans (ac1 _ (.cells #[.int .i64 xw,.bool (!iw),.int .i64 xf,.bool jf] 214) none);have YZ:=Fg.grow hG0;have hsz0:=hG0.size;have abC:=wU.size;have VI:aQ (n02.alloc (.cells #[.int .i64 xw,.bool (!iw),.int .i64 xf,.bool jf] 214)) (.slice (some ⟨n02.heap.size,0,none⟩) 2 2) ([nl lw,lf].map (vw Us)):=by
  have:=Q9 n02 (xw,!iw) (xf,jf);simpa[vw,nl,<-hxw,<-hiw,<-hxf,<-hif,<-hxs,<-his]using this
 refine oH 5 (λK hK=>?_);go_simp;refine(dD X n0 (n02.alloc (.cells #[.int .i64 xw,.bool (!iw),.int .i64 xf,.bool jf] 214)) lb BU BS f dom Us aJ (L) _ [nl lw,lf] YZ (λk h=>by have:=hX k h;simp at hsz0 ⊢;omega) Ie VI (by simp) (by simp) (by simpa[nl]using ⟨hmw,hmf⟩) (by simp at hsz0 ⊢;omega) Wl).mono ?_;rintro e z0 ⟨⟨r0,rfl⟩,x8,iO,Ic,P6,MJ⟩;refine hK.out _ _ (hS0.trans MJ) (af4 (by kernel_rfl) ?_ _);clear hK K;have Wj:x8.length<=100000:=by rw[Ic.len];simp;omega
 have yK:VK W0 z0:=(VK.grown (wU.trans hG0)).trans MJ;have Hz:Below n0 W0 z0:=((But.aA (wU.trans hG0)).below (by omega) (λk _ e=>by cases e)).trans P6;have bw1:=aI yK bw0;have bf1:=aI yK bf0;have bs1:=aI yK bs0;have Yb:w.heap.size<=z0.heap.size:=ae4 (by omega) Hz.size;have uj:=hbl.trans Hz;have tY:=hvk.trans yK;clear hbl hvk;have hbl:=uj;have hvk:=tY;clear uj tY P6 MJ yK Hz bw0 bf0 bs0 Qm Fg Ie cw0 cf0 cs0 dw0 df0 ds0 ew0 ef0 es0
 go_wp2_with fail
 obtain⟨V1,hV1⟩:∃V,z0.drew=V:=⟨_,rfl⟩;have rW:z0.grownBy V1 none:=by rw[<-hV1];exact⟨rfl,rfl,rfl,ac2 _,λ_ _ _=>rfl⟩
 refine ag0 (S:=λW'=>VK V1 W') rfl ?_;have hS0:VK V1 V1:=VK.refl _;have hG1:V1.grownBy V1 none:=ag8 _ _;simp only[ad3,ac9,ae1,Nat.reduceAdd,ac7,ac6,ad5,ad9,ad8];change wpAnyH prog .any _ _ _ _ _ _ z0.drew;rw[hV1];clear hV1;have cw1:V1.heap[w.heap.size]?=some (.cells #[.int .i64 xw,.bool iw] 214 (0,0)):=(rW.block _ (ac0.1 bw1).1 (by simp)).trans bw1;have dw1:V1.cell? ⟨w.heap.size,0,none⟩=some (.int .i64 xw):=by rw[cell_of cw1];rfl
 have ew1:V1.cell? ⟨w.heap.size,1,none⟩=some (.bool iw):=by rw[cell_of cw1];rfl
 have cf1:V1.heap[w.heap.size+1]?=some (.cells #[.int .i64 xf,.bool jf] 214 (0,0)):=(rW.block _ (ac0.1 bf1).1 (by simp)).trans bf1;have df1:V1.cell? ⟨w.heap.size+1,0,none⟩=some (.int .i64 xf):=by rw[cell_of cf1];rfl
 have ef1:V1.cell? ⟨w.heap.size+1,1,none⟩=some (.bool jf):=by rw[cell_of cf1];rfl
 have cs1:V1.heap[w.heap.size+1+1]?=some (.cells #[.int .i64 xs,.bool js] 214 (0,0)):=(rW.block _ (ac0.1 bs1).1 (by simp)).trans bs1;have ds1:V1.cell? ⟨w.heap.size+1+1,0,none⟩=some (.int .i64 xs):=by rw[cell_of cs1];rfl
 have es1:V1.cell? ⟨w.heap.size+1+1,1,none⟩=some (.bool js):=by rw[cell_of cs1];rfl
 have Fe:=iO.grow rW;refine tH 0 (.pointer (some ⟨lb,0,none⟩)) (λw' hS=>?_) hS0 ?_
 ·go_simp
 simp only[aC];refine tH 1 (.agg #[.int .i64 xw,.bool iw]) (λw' hS=>?_) hS0 ?_
 ·have q:=aI hS cw1;have q0:=(cell_of q 0);have q1:=(cell_of q 1)
  go_simp
 simp only[aC];refine tH 3 (.agg #[.int .i64 xs,.bool js]) (λw' hS=>?_) hS0 ?_
 ·have q:=aI hS cs1;have q0:=(cell_of q 0);have q1:=(cell_of q 1)
  go_simp
 simp only[aC];refine oH 2 (λK hK=>?_);go_simp;refine(fM xw iw V1).mono ?_;rintro e n12 ⟨rfl,hn12⟩;replace hS0:=hS0.trans (VK.grown hn12);refine hK.out _ _ hS0 ?_;clear hK K;replace hG1:=hG1.trans hn12;refine oH 4 (λK hK=>?_);go_simp;replace hS0:=hS0.trans (VK.grown (ac1 _ (.cells #[.int .i64 xw,.bool (!iw),.int .i64 xs,.bool js] 214) none));refine hK.out _ _ hS0 ?_;clear hK K;replace hG1:=hG1.trans (ac1 _ (.cells #[.int .i64 xw,.bool (!iw),.int .i64 xs,.bool js] 214) none);have Ql:=Fe.grow hG1;have hsz1:=hG1.size;have X8:=rW.size;have VH:aQ (n12.alloc (.cells #[.int .i64 xw,.bool (!iw),.int .i64 xs,.bool js] 214)) (.slice (some ⟨n12.heap.size,0,none⟩) 2 2) ([nl lw,ls].map (vw Us)):=by
  have:=Q9 n12 (xw,!iw) (xs,js);simpa[vw,nl,<-hxw,<-hiw,<-hxf,<-hif,<-hxs,<-his]using this
 refine oH 5 (λK hK=>?_);go_simp;refine(dD X n0 (n12.alloc (.cells #[.int .i64 xw,.bool (!iw),.int .i64 xs,.bool js] 214)) lb BU BS f dom Us x8 (L++[[nl lw,lf]]) _ [nl lw,ls] Ql (λk h=>by have:=hX k h;simp at hsz1 ⊢;omega) Ic VH (by simp) (by simp) (by simpa[nl]using ⟨hmw,hms⟩) (by simp at hsz1 ⊢;omega) Wj).mono ?_;rintro e z1 ⟨⟨r1,rfl⟩,xZ,iM,oU,Fa,iy⟩;refine hK.out _ _ (hS0.trans iy) (af4 (by kernel_rfl) ?_ _);clear hK K;have Wi:xZ.length<=100000:=by rw[oU.len];simp;omega
 have yJ:VK z0 z1:=(VK.grown (rW.trans hG1)).trans iy;have Hy:Below n0 z0 z1:=((But.aA (rW.trans hG1)).below (by omega) (λk _ e=>by cases e)).trans Fa;have bw2:=aI yJ bw1;have bf2:=aI yJ bf1;have bs2:=aI yJ bs1;have Ya:w.heap.size<=z1.heap.size:=ae4 (by omega) Hy.size;have uj:=hbl.trans Hy;have tY:=hvk.trans yJ;clear hbl hvk;have hbl:=uj;have hvk:=tY;clear uj tY Fa iy yJ Hy bw1 bf1 bs1 iO Fe Ic cw1 cf1 cs1 dw1 df1 ds1 ew1 ef1 es1
 go_wp2_with fail
 obtain⟨V2,hV2⟩:∃V,z1.drew=V:=⟨_,rfl⟩;have rV:z1.grownBy V2 none:=by rw[<-hV2];exact⟨rfl,rfl,rfl,ac2 _,λ_ _ _=>rfl⟩
 refine ag0 (S:=λW'=>VK V2 W') rfl ?_;have hS0:VK V2 V2:=VK.refl _;have hG2:V2.grownBy V2 none:=ag8 _ _;simp only[ad3,ac9,ae1,Nat.reduceAdd,ac7,ac6,ad5,ad9,ad8];change wpAnyH prog .any _ _ _ _ _ _ z1.drew;rw[hV2];clear hV2;have cw2:V2.heap[w.heap.size]?=some (.cells #[.int .i64 xw,.bool iw] 214 (0,0)):=(rV.block _ (ac0.1 bw2).1 (by simp)).trans bw2;have dw2:V2.cell? ⟨w.heap.size,0,none⟩=some (.int .i64 xw):=by rw[cell_of cw2];rfl
 have ew2:V2.cell? ⟨w.heap.size,1,none⟩=some (.bool iw):=by rw[cell_of cw2];rfl
 have cf2:V2.heap[w.heap.size+1]?=some (.cells #[.int .i64 xf,.bool jf] 214 (0,0)):=(rV.block _ (ac0.1 bf2).1 (by simp)).trans bf2;have df2:V2.cell? ⟨w.heap.size+1,0,none⟩=some (.int .i64 xf):=by rw[cell_of cf2];rfl
 have ef2:V2.cell? ⟨w.heap.size+1,1,none⟩=some (.bool jf):=by rw[cell_of cf2];rfl
 have cs2:V2.heap[w.heap.size+1+1]?=some (.cells #[.int .i64 xs,.bool js] 214 (0,0)):=(rV.block _ (ac0.1 bs2).1 (by simp)).trans bs2;have ds2:V2.cell? ⟨w.heap.size+1+1,0,none⟩=some (.int .i64 xs):=by rw[cell_of cs2];rfl
 have es2:V2.cell? ⟨w.heap.size+1+1,1,none⟩=some (.bool js):=by rw[cell_of cs2];rfl
 have JH:=iM.grow rV;refine tH 0 (.pointer (some ⟨lb,0,none⟩)) (λw' hS=>?_) hS0 ?_
 ·go_simp
 simp only[aC];refine tH 1 (.agg #[.int .i64 xw,.bool iw]) (λw' hS=>?_) hS0 ?_
 ·have q:=aI hS cw2;have q0:=(cell_of q 0);have q1:=(cell_of q 1)
  go_simp
 simp only[aC];refine tH 2 (.agg #[.int .i64 xf,.bool jf]) (λw' hS=>?_) hS0 ?_
 ·have q:=aI hS cf2;have q0:=(cell_of q 0);have q1:=(cell_of q 1)
  go_simp
 simp only[aC];refine tH 4 (.agg #[.int .i64 xs,.bool js]) (λw' hS=>?_) hS0 ?_
 ·have q:=aI hS cs2;have q0:=(cell_of q 0);have q1:=(cell_of q 1)
  go_simp
 simp only[aC];refine oH 3 (λK hK=>?_);go_simp;refine(fM xf jf V2).mono ?_;rintro e n23 ⟨rfl,hn23⟩;replace hS0:=hS0.trans (VK.grown hn23);refine hK.out _ _ hS0 ?_;clear hK K;replace hG2:=hG2.trans hn23;refine oH 5 (λK hK=>?_);go_simp;refine(fM xs js n23).mono ?_;rintro e n25 ⟨rfl,hn25⟩;replace hS0:=hS0.trans (VK.grown hn25);refine hK.out _ _ hS0 ?_;clear hK K;replace hG2:=hG2.trans hn25;refine oH 6 (λK hK=>?_);go_simp;replace hS0:=hS0.trans (VK.grown (ac1 _ (.cells #[.int .i64 xw,.bool iw,.int .i64 xf,.bool (!jf),.int .i64 xs,.bool (!js)] 214) none));refine hK.out _ _ hS0 ?_;clear hK K;replace hG2:=hG2.trans (ac1 _ (.cells #[.int .i64 xw,.bool iw,.int .i64 xf,.bool (!jf),.int .i64 xs,.bool (!js)] 214) none);have Qk:=JH.grow hG2;have hsz2:=hG2.size;have X7:=rV.size;have MK:aQ (n25.alloc (.cells #[.int .i64 xw,.bool iw,.int .i64 xf,.bool (!jf),.int .i64 xs,.bool (!js)] 214)) (.slice (some ⟨n25.heap.size,0,none⟩) 3 3) ([lw,nl lf,nl ls].map (vw Us)):=by
  have:=nY n25 (xw,iw) (xf,!jf) (xs,!js);simpa[vw,nl,<-hxw,<-hiw,<-hxf,<-hif,<-hxs,<-his]using this
 refine oH 7 (λK hK=>?_);go_simp;refine(dD X n0 (n25.alloc (.cells #[.int .i64 xw,.bool iw,.int .i64 xf,.bool (!jf),.int .i64 xs,.bool (!js)] 214)) lb BU BS f dom Us xZ (L++[[nl lw,lf]]++[[nl lw,ls]]) _ [lw,nl lf,nl ls] Qk (λk h=>by have:=hX k h;simp at hsz2 ⊢;omega) oU MK (by simp) (by simp) (by simpa[nl]using ⟨hmw,hmf,hms⟩) (by simp at hsz2 ⊢;omega) Wi).mono ?_;rintro e z2 ⟨⟨r2,rfl⟩,dS,iF,iE,TL,MI⟩;refine hK.out _ _ (hS0.trans MI) (af4 (by kernel_rfl) ?_ _);clear hK K;have YV:dS.length<=100000:=by rw[iE.len];simp;omega
 have He:VK z1 z2:=(VK.grown (rV.trans hG2)).trans MI;have P8:Below n0 z1 z2:=((But.aA (rV.trans hG2)).below (by omega) (λk _ e=>by cases e)).trans TL;have Q1:=aj iF;have Q2:=aj iE;have Q3:=aj (hbl.trans P8);have Q4:=aj (hvk.trans He);clear iF iE hbl hvk
 go_wp2_with fail
 go_end0
 refine⟨⟨_,rfl⟩,_,ah Q1,?_,ah Q3,ah Q4⟩;have h:=ah Q2;simpa[lN]using h
theorem IK(X:Nat->Prop)(n0:Nat)(w:World)(lb BU BS:Nat)(f:Key->Key)(dom:Key->Prop)(Us:List Key)(aJ:List Rule)(L:List (List aV))(lw lf ls:aV)(iZ:LG n0 w lb BU BS f dom Us aJ X)(hX:∀k,X k->k<w.heap.size)(Ie:kC Us aJ L)(hmw:lw.1∈Us)(hmf:lf.1∈Us)(hms:ls.1∈Us)(hn:n0<=w.heap.size)(hR:L.length<=90000) :
  Calls prog 186 #[.pointer (some ⟨lb,0,none⟩),vV (vw Us lw),vV (vw Us lf),vV (vw Us ls)] w λe w'=>(∃z,e=.returned z)/\∃aK,LG n0 w' lb BU BS f dom Us aK X/\kC Us aK (L++qB lw lf ls)/\Below n0 w w'/\VK w w':=by
 obtain⟨xw,hxw⟩:∃x,Us.idxOf lw.1=x:=⟨_,rfl⟩;obtain⟨xf,hxf⟩:∃x,Us.idxOf lf.1=x:=⟨_,rfl⟩;obtain⟨xs,hxs⟩:∃x,Us.idxOf ls.1=x:=⟨_,rfl⟩;obtain⟨iw,hiw⟩:∃x,lw.2=x:=⟨_,rfl⟩;obtain⟨jf,hif⟩:∃x,lf.2=x:=⟨_,rfl⟩;obtain⟨js,his⟩:∃x,ls.2=x:=⟨_,rfl⟩;have L0:=L;have Wl:aJ.length<=100000:=by rw[Ie.len];omega
 unfold vV vw;rw[hxw,hxf,hxs,hiw,hif,his];obtain⟨W0,hW0⟩:∃W0,((w.alloc (.cells #[.int .i64 xw,.bool iw] 214)).alloc (.cells #[.int .i64 xf,.bool jf] 214)).alloc (.cells #[.int .i64 xs,.bool js] 214)=W0:=⟨_,rfl⟩;have hg0:w.grownBy W0 none:=by rw[<-hW0];exact((ac1 _ _ none).trans (ac1 _ _ none)).trans (ac1 _ _ none)
 have bw0:W0.heap[w.heap.size]?=some (.cells #[.int .i64 xw,.bool iw] 214 (0,0)):=by
  rw[<-hW0,ad4 _ _ _ (by simp;omega),ad4 _ _ _ (by simp),ad7]
 have bf0:W0.heap[w.heap.size+1]?=some (.cells #[.int .i64 xf,.bool jf] 214 (0,0)):=by
  have e:w.heap.size+1=(w.alloc (.cells #[.int .i64 xw,.bool iw] 214)).heap.size:=by simp
  rw[<-hW0,ad4 _ _ _ (by simp),e,ad7]
 have bs0:W0.heap[w.heap.size+1+1]?=some (.cells #[.int .i64 xs,.bool js] 214 (0,0)):=by
  have e:w.heap.size+1+1=((w.alloc (.cells #[.int .i64 xw,.bool iw] 214)).alloc (.cells #[.int .i64 xf,.bool jf] 214)).heap.size:=by simp
  rw[<-hW0,e,ad7]
 have Qm:=iZ.grow hg0;have hbl:Below n0 w W0:=(But.aA hg0).below hn (λk _ e=>by cases e);have hvk:VK w W0:=VK.grown hg0;have hsW:=hg0.size;clear iZ;have wU:W0.grownBy W0 none:=ag8 _ _;have cw0:W0.heap[w.heap.size]?=some (.cells #[.int .i64 xw,.bool iw] 214 (0,0)):=(wU.block _ (ac0.1 bw0).1 (by simp)).trans bw0;have dw0:W0.cell? ⟨w.heap.size,0,none⟩=some (.int .i64 xw):=by rw[cell_of cw0];rfl
 have ew0:W0.cell? ⟨w.heap.size,1,none⟩=some (.bool iw):=by rw[cell_of cw0];rfl
 have cf0:W0.heap[w.heap.size+1]?=some (.cells #[.int .i64 xf,.bool jf] 214 (0,0)):=(wU.block _ (ac0.1 bf0).1 (by simp)).trans bf0;have df0:W0.cell? ⟨w.heap.size+1,0,none⟩=some (.int .i64 xf):=by rw[cell_of cf0];rfl
 have ef0:W0.cell? ⟨w.heap.size+1,1,none⟩=some (.bool jf):=by rw[cell_of cf0];rfl
 have cs0:W0.heap[w.heap.size+1+1]?=some (.cells #[.int .i64 xs,.bool js] 214 (0,0)):=(wU.block _ (ac0.1 bs0).1 (by simp)).trans bs0;have ds0:W0.cell? ⟨w.heap.size+1+1,0,none⟩=some (.int .i64 xs):=by rw[cell_of cs0];rfl
 have es0:W0.cell? ⟨w.heap.size+1+1,1,none⟩=some (.bool js):=by rw[cell_of cs0];rfl
 have Fg:=Qm.grow wU;have VR:W0.grownBy (W0.alloc (.cells #[.int .i64 xw,.bool iw,.int .i64 xf,.bool jf,.int .i64 xs,.bool js] 214)) none:=ac1 _ _ none;have VI:aQ (W0.alloc (.cells #[.int .i64 xw,.bool iw,.int .i64 xf,.bool jf,.int .i64 xs,.bool js] 214)) (.slice (some ⟨W0.heap.size,0,none⟩) 3 3) ([lw,lf,ls].map (vw Us)):=by
  have:=nY W0 (xw,iw) (xf,jf) (xs,js);simpa[vw,nl,<-hxw,<-hiw,<-hxf,<-hif,<-hxs,<-his]using this
 have aau:=dD X n0 (W0.alloc (.cells #[.int .i64 xw,.bool iw,.int .i64 xf,.bool jf,.int .i64 xs,.bool js] 214)) lb BU BS f dom Us aJ (L) _ [lw,lf,ls] (Fg.grow VR) (λk h=>by have:=hX k h;simp;omega) Ie VI (by simp) (by simp) (by simpa[nl]using ⟨hmw,hmf,hms⟩) (by simp;omega) Wl
 go_enter func186,ntmps186
 go_wp2_with fail
 clear hW0;refine aau.mono ?_;rintro e z0 ⟨⟨r0,rfl⟩,x8,iO,Ic,P6,MJ⟩;have Wj:x8.length<=100000:=by rw[Ic.len];simp;omega
 have yK:VK W0 z0:=(VK.grown VR).trans MJ;have Hz:Below n0 W0 z0:=((But.aA VR).below (by omega) (λk _ e=>by cases e)).trans P6;have bw1:=aI yK bw0;have bf1:=aI yK bf0;have bs1:=aI yK bs0;have Yb:w.heap.size<=z0.heap.size:=ae4 (by omega) Hz.size;have uj:=hbl.trans Hz;have tY:=hvk.trans yK;clear hbl hvk;have hbl:=uj;have hvk:=tY;clear uj tY P6 MJ yK Hz bw0 bf0 bs0 Qm Fg Ie cw0 cf0 cs0 dw0 df0 ds0 ew0 ef0 es0
 go_wp2_with fail
 obtain⟨V1,hV1⟩:∃V,z0.drew=V:=⟨_,rfl⟩;have rW:z0.grownBy V1 none:=by rw[<-hV1];exact⟨rfl,rfl,rfl,ac2 _,λ_ _ _=>rfl⟩
 refine ag0 (S:=λW'=>VK V1 W') rfl ?_;have hS0:VK V1 V1:=VK.refl _;have hG1:V1.grownBy V1 none:=ag8 _ _;simp only[ad3,ac9,ae1,Nat.reduceAdd,ac7,ac6,ad5,ad9,ad8];change wpAnyH prog .any _ _ _ _ _ _ z0.drew;rw[hV1];clear hV1;have cw1:V1.heap[w.heap.size]?=some (.cells #[.int .i64 xw,.bool iw] 214 (0,0)):=(rW.block _ (ac0.1 bw1).1 (by simp)).trans bw1;have dw1:V1.cell? ⟨w.heap.size,0,none⟩=some (.int .i64 xw):=by rw[cell_of cw1];rfl
 have ew1:V1.cell? ⟨w.heap.size,1,none⟩=some (.bool iw):=by rw[cell_of cw1];rfl
 have cf1:V1.heap[w.heap.size+1]?=some (.cells #[.int .i64 xf,.bool jf] 214 (0,0)):=(rW.block _ (ac0.1 bf1).1 (by simp)).trans bf1;have df1:V1.cell? ⟨w.heap.size+1,0,none⟩=some (.int .i64 xf):=by rw[cell_of cf1];rfl
 have ef1:V1.cell? ⟨w.heap.size+1,1,none⟩=some (.bool jf):=by rw[cell_of cf1];rfl
 have cs1:V1.heap[w.heap.size+1+1]?=some (.cells #[.int .i64 xs,.bool js] 214 (0,0)):=(rW.block _ (ac0.1 bs1).1 (by simp)).trans bs1;have ds1:V1.cell? ⟨w.heap.size+1+1,0,none⟩=some (.int .i64 xs):=by rw[cell_of cs1];rfl
 have es1:V1.cell? ⟨w.heap.size+1+1,1,none⟩=some (.bool js):=by rw[cell_of cs1];rfl
 have Fe:=iO.grow rW;refine tH 0 (.pointer (some ⟨lb,0,none⟩)) (λw' hS=>?_) hS0 ?_
 ·go_simp
 simp only[aC];refine tH 1 (.agg #[.int .i64 xw,.bool iw]) (λw' hS=>?_) hS0 ?_
 ·have q:=aI hS cw1;have q0:=(cell_of q 0);have q1:=(cell_of q 1)
  go_simp
 simp only[aC];refine tH 2 (.agg #[.int .i64 xf,.bool jf]) (λw' hS=>?_) hS0 ?_
 ·have q:=aI hS cf1;have q0:=(cell_of q 0);have q1:=(cell_of q 1)
  go_simp
 simp only[aC];refine tH 4 (.agg #[.int .i64 xs,.bool js]) (λw' hS=>?_) hS0 ?_
 ·have q:=aI hS cs1;have q0:=(cell_of q 0);have q1:=(cell_of q 1)
  go_simp
 simp only[aC];refine oH 3 (λK hK=>?_);go_simp;refine(fM xf jf V1).mono ?_;rintro e n13 ⟨rfl,hn13⟩;replace hS0:=hS0.trans (VK.grown hn13);refine hK.out _ _ hS0 ?_;clear hK K;replace hG1:=hG1.trans hn13;refine oH 5 (λK hK=>?_);go_simp;refine(fM xs js n13).mono ?_;rintro e n15 ⟨rfl,hn15⟩;replace hS0:=hS0.trans (VK.grown hn15);refine hK.out _ _ hS0 ?_;clear hK K;replace hG1:=hG1.trans hn15;refine oH 6 (λK hK=>?_);go_simp;replace hS0:=hS0.trans (VK.grown (ac1 _ (.cells #[.int .i64 xw,.bool iw,.int .i64 xf,.bool (!jf),.int .i64 xs,.bool (!js)] 214) none));refine hK.out _ _ hS0 ?_;clear hK K;replace hG1:=hG1.trans (ac1 _ (.cells #[.int .i64 xw,.bool iw,.int .i64 xf,.bool (!jf),.int .i64 xs,.bool (!js)] 214) none);have Ql:=Fe.grow hG1;have hsz1:=hG1.size;have X8:=rW.size;have VH:aQ (n15.alloc (.cells #[.int .i64 xw,.bool iw,.int .i64 xf,.bool (!jf),.int .i64 xs,.bool (!js)] 214)) (.slice (some ⟨n15.heap.size,0,none⟩) 3 3) ([lw,nl lf,nl ls].map (vw Us)):=by
  have:=nY n15 (xw,iw) (xf,!jf) (xs,!js);simpa[vw,nl,<-hxw,<-hiw,<-hxf,<-hif,<-hxs,<-his]using this
 refine oH 7 (λK hK=>?_);go_simp;refine(dD X n0 (n15.alloc (.cells #[.int .i64 xw,.bool iw,.int .i64 xf,.bool (!jf),.int .i64 xs,.bool (!js)] 214)) lb BU BS f dom Us x8 (L++[[lw,lf,ls]]) _ [lw,nl lf,nl ls] Ql (λk h=>by have:=hX k h;simp at hsz1 ⊢;omega) Ic VH (by simp) (by simp) (by simpa[nl]using ⟨hmw,hmf,hms⟩) (by simp at hsz1 ⊢;omega) Wj).mono ?_;rintro e z1 ⟨⟨r1,rfl⟩,xZ,iM,oU,Fa,iy⟩;refine hK.out _ _ (hS0.trans iy) (af4 (by kernel_rfl) ?_ _);clear hK K;have Wi:xZ.length<=100000:=by rw[oU.len];simp;omega
 have yJ:VK z0 z1:=(VK.grown (rW.trans hG1)).trans iy;have Hy:Below n0 z0 z1:=((But.aA (rW.trans hG1)).below (by omega) (λk _ e=>by cases e)).trans Fa;have bw2:=aI yJ bw1;have bf2:=aI yJ bf1;have bs2:=aI yJ bs1;have Ya:w.heap.size<=z1.heap.size:=ae4 (by omega) Hy.size;have uj:=hbl.trans Hy;have tY:=hvk.trans yJ;clear hbl hvk;have hbl:=uj;have hvk:=tY;clear uj tY Fa iy yJ Hy bw1 bf1 bs1 iO Fe Ic cw1 cf1 cs1 dw1 df1 ds1 ew1 ef1 es1
 go_wp2_with fail
 obtain⟨V2,hV2⟩:∃V,z1.drew=V:=⟨_,rfl⟩;have rV:z1.grownBy V2 none:=by rw[<-hV2];exact⟨rfl,rfl,rfl,ac2 _,λ_ _ _=>rfl⟩
 refine ag0 (S:=λW'=>VK V2 W') rfl ?_;have hS0:VK V2 V2:=VK.refl _;have hG2:V2.grownBy V2 none:=ag8 _ _;simp only[ad3,ac9,ae1,Nat.reduceAdd,ac7,ac6,ad5,ad9,ad8];change wpAnyH prog .any _ _ _ _ _ _ z1.drew;rw[hV2];clear hV2;have cw2:V2.heap[w.heap.size]?=some (.cells #[.int .i64 xw,.bool iw] 214 (0,0)):=(rV.block _ (ac0.1 bw2).1 (by simp)).trans bw2;have dw2:V2.cell? ⟨w.heap.size,0,none⟩=some (.int .i64 xw):=by rw[cell_of cw2];rfl
 have ew2:V2.cell? ⟨w.heap.size,1,none⟩=some (.bool iw):=by rw[cell_of cw2];rfl
 have cf2:V2.heap[w.heap.size+1]?=some (.cells #[.int .i64 xf,.bool jf] 214 (0,0)):=(rV.block _ (ac0.1 bf2).1 (by simp)).trans bf2;have df2:V2.cell? ⟨w.heap.size+1,0,none⟩=some (.int .i64 xf):=by rw[cell_of cf2];rfl
 have ef2:V2.cell? ⟨w.heap.size+1,1,none⟩=some (.bool jf):=by rw[cell_of cf2];rfl
 have cs2:V2.heap[w.heap.size+1+1]?=some (.cells #[.int .i64 xs,.bool js] 214 (0,0)):=(rV.block _ (ac0.1 bs2).1 (by simp)).trans bs2;have ds2:V2.cell? ⟨w.heap.size+1+1,0,none⟩=some (.int .i64 xs):=by rw[cell_of cs2];rfl
 have es2:V2.cell? ⟨w.heap.size+1+1,1,none⟩=some (.bool js):=by rw[cell_of cs2];rfl
 have JH:=iM.grow rV;refine tH 0 (.pointer (some ⟨lb,0,none⟩)) (λw' hS=>?_) hS0 ?_
 ·go_simp
 simp only[aC];refine tH 1 (.agg #[.int .i64 xw,.bool iw]) (λw' hS=>?_) hS0 ?_
 ·have q:=aI hS cw2;have q0:=(cell_of q 0);have q1:=(cell_of q 1)
  go_simp
 simp only[aC];refine tH 3 (.agg #[.int .i64 xf,.bool jf]) (λw' hS=>?_) hS0 ?_
 ·have q:=aI hS cf2;have q0:=(cell_of q 0);have q1:=(cell_of q 1)
  go_simp
 simp only[aC];refine tH 4 (.agg #[.int .i64 xs,.bool js]) (λw' hS=>?_) hS0 ?_
 ·have q:=aI hS cs2;have q0:=(cell_of q 0);have q1:=(cell_of q 1)
  go_simp
 simp only[aC];refine oH 2 (λK hK=>?_);go_simp;refine(fM xw iw V2).mono ?_;rintro e n22 ⟨rfl,hn22⟩;replace hS0:=hS0.trans (VK.grown hn22);refine hK.out _ _ hS0 ?_;clear hK K;replace hG2:=hG2.trans hn22;refine oH 5 (λK hK=>?_);go_simp;refine(fM xs js n22).mono ?_;rintro e n25 ⟨rfl,hn25⟩;replace hS0:=hS0.trans (VK.grown hn25);refine hK.out _ _ hS0 ?_;clear hK K;replace hG2:=hG2.trans hn25;refine oH 6 (λK hK=>?_);go_simp;replace hS0:=hS0.trans (VK.grown (ac1 _ (.cells #[.int .i64 xw,.bool (!iw),.int .i64 xf,.bool jf,.int .i64 xs,.bool (!js)] 214) none));refine hK.out _ _ hS0 ?_;clear hK K;replace hG2:=hG2.trans (ac1 _ (.cells #[.int .i64 xw,.bool (!iw),.int .i64 xf,.bool jf,.int .i64 xs,.bool (!js)] 214) none);have Qk:=JH.grow hG2;have hsz2:=hG2.size;have X7:=rV.size;have MK:aQ (n25.alloc (.cells #[.int .i64 xw,.bool (!iw),.int .i64 xf,.bool jf,.int .i64 xs,.bool (!js)] 214)) (.slice (some ⟨n25.heap.size,0,none⟩) 3 3) ([nl lw,lf,nl ls].map (vw Us)):=by
  have:=nY n25 (xw,!iw) (xf,jf) (xs,!js);simpa[vw,nl,<-hxw,<-hiw,<-hxf,<-hif,<-hxs,<-his]using this
 refine oH 7 (λK hK=>?_);go_simp;refine(dD X n0 (n25.alloc (.cells #[.int .i64 xw,.bool (!iw),.int .i64 xf,.bool jf,.int .i64 xs,.bool (!js)] 214)) lb BU BS f dom Us xZ (L++[[lw,lf,ls]]++[[lw,nl lf,nl ls]]) _ [nl lw,lf,nl ls] Qk (λk h=>by have:=hX k h;simp at hsz2 ⊢;omega) oU MK (by simp) (by simp) (by simpa[nl]using ⟨hmw,hmf,hms⟩) (by simp at hsz2 ⊢;omega) Wi).mono ?_;rintro e z2 ⟨⟨r2,rfl⟩,dS,iF,iE,TL,MI⟩;refine hK.out _ _ (hS0.trans MI) (af4 (by kernel_rfl) ?_ _);clear hK K;have YV:dS.length<=100000:=by rw[iE.len];simp;omega
 have He:VK z1 z2:=(VK.grown (rV.trans hG2)).trans MI;have P8:Below n0 z1 z2:=((But.aA (rV.trans hG2)).below (by omega) (λk _ e=>by cases e)).trans TL;have bw3:=aI He bw2;have bf3:=aI He bf2;have bs3:=aI He bs2;have abS:w.heap.size<=z2.heap.size:=ae4 (by omega) P8.size;have uj:=hbl.trans P8;have tY:=hvk.trans He;clear hbl hvk;have hbl:=uj;have hvk:=tY;clear uj tY TL MI He P8 bw2 bf2 bs2 iM JH oU cw2 cf2 cs2 dw2 df2 ds2 ew2 ef2 es2
 go_wp2_with fail
 obtain⟨V3,hV3⟩:∃V,z2.drew=V:=⟨_,rfl⟩;have Hr:z2.grownBy V3 none:=by rw[<-hV3];exact⟨rfl,rfl,rfl,ac2 _,λ_ _ _=>rfl⟩
 refine ag0 (S:=λW'=>VK V3 W') rfl ?_;have hS0:VK V3 V3:=VK.refl _;have hG3:V3.grownBy V3 none:=ag8 _ _;simp only[ad3,ac9,ae1,Nat.reduceAdd,ac7,ac6,ad5,ad9,ad8];change wpAnyH prog .any _ _ _ _ _ _ z2.drew;rw[hV3];clear hV3;have cw3:V3.heap[w.heap.size]?=some (.cells #[.int .i64 xw,.bool iw] 214 (0,0)):=(Hr.block _ (ac0.1 bw3).1 (by simp)).trans bw3;have dw3:V3.cell? ⟨w.heap.size,0,none⟩=some (.int .i64 xw):=by rw[cell_of cw3];rfl
 have ew3:V3.cell? ⟨w.heap.size,1,none⟩=some (.bool iw):=by rw[cell_of cw3];rfl
 have cf3:V3.heap[w.heap.size+1]?=some (.cells #[.int .i64 xf,.bool jf] 214 (0,0)):=(Hr.block _ (ac0.1 bf3).1 (by simp)).trans bf3;have df3:V3.cell? ⟨w.heap.size+1,0,none⟩=some (.int .i64 xf):=by rw[cell_of cf3];rfl
 have ef3:V3.cell? ⟨w.heap.size+1,1,none⟩=some (.bool jf):=by rw[cell_of cf3];rfl
 have cs3:V3.heap[w.heap.size+1+1]?=some (.cells #[.int .i64 xs,.bool js] 214 (0,0)):=(Hr.block _ (ac0.1 bs3).1 (by simp)).trans bs3;have ds3:V3.cell? ⟨w.heap.size+1+1,0,none⟩=some (.int .i64 xs):=by rw[cell_of cs3];rfl
 have es3:V3.cell? ⟨w.heap.size+1+1,1,none⟩=some (.bool js):=by rw[cell_of cs3];rfl
 have Y2:=iF.grow Hr;refine tH 0 (.pointer (some ⟨lb,0,none⟩)) (λw' hS=>?_) hS0 ?_
 ·go_simp
 simp only[aC];refine tH 1 (.agg #[.int .i64 xw,.bool iw]) (λw' hS=>?_) hS0 ?_
 ·have q:=aI hS cw3;have q0:=(cell_of q 0);have q1:=(cell_of q 1)
  go_simp
 simp only[aC];refine tH 3 (.agg #[.int .i64 xf,.bool jf]) (λw' hS=>?_) hS0 ?_
 ·have q:=aI hS cf3;have q0:=(cell_of q 0);have q1:=(cell_of q 1)
  go_simp
 simp only[aC];refine tH 5 (.agg #[.int .i64 xs,.bool js]) (λw' hS=>?_) hS0 ?_
 ·have q:=aI hS cs3;have q0:=(cell_of q 0);have q1:=(cell_of q 1)
  go_simp
 simp only[aC];refine oH 2 (λK hK=>?_);go_simp;refine(fM xw iw V3).mono ?_;rintro e n32 ⟨rfl,hn32⟩;replace hS0:=hS0.trans (VK.grown hn32);refine hK.out _ _ hS0 ?_;clear hK K;replace hG3:=hG3.trans hn32;refine oH 4 (λK hK=>?_);go_simp;refine(fM xf jf n32).mono ?_;rintro e n34 ⟨rfl,hn34⟩;replace hS0:=hS0.trans (VK.grown hn34);refine hK.out _ _ hS0 ?_;clear hK K;replace hG3:=hG3.trans hn34;refine oH 6 (λK hK=>?_);go_simp;replace hS0:=hS0.trans (VK.grown (ac1 _ (.cells #[.int .i64 xw,.bool (!iw),.int .i64 xf,.bool (!jf),.int .i64 xs,.bool js] 214) none));refine hK.out _ _ hS0 ?_;clear hK K;replace hG3:=hG3.trans (ac1 _ (.cells #[.int .i64 xw,.bool (!iw),.int .i64 xf,.bool (!jf),.int .i64 xs,.bool js] 214) none);have YX:=Y2.grow hG3;have hsz3:=hG3.size;have abB:=Hr.size;have aah:aQ (n34.alloc (.cells #[.int .i64 xw,.bool (!iw),.int .i64 xf,.bool (!jf),.int .i64 xs,.bool js] 214)) (.slice (some ⟨n34.heap.size,0,none⟩) 3 3) ([nl lw,nl lf,ls].map (vw Us)):=by
  have:=nY n34 (xw,!iw) (xf,!jf) (xs,js);simpa[vw,nl,<-hxw,<-hiw,<-hxf,<-hif,<-hxs,<-his]using this
 refine oH 7 (λK hK=>?_);go_simp;refine(dD X n0 (n34.alloc (.cells #[.int .i64 xw,.bool (!iw),.int .i64 xf,.bool (!jf),.int .i64 xs,.bool js] 214)) lb BU BS f dom Us dS (L++[[lw,lf,ls]]++[[lw,nl lf,nl ls]]++[[nl lw,lf,nl ls]]) _ [nl lw,nl lf,ls] YX (λk h=>by have:=hX k h;simp at hsz3 ⊢;omega) iE aah (by simp) (by simp) (by simpa[nl]using ⟨hmw,hmf,hms⟩) (by simp at hsz3 ⊢;omega) YV).mono ?_;rintro e z3 ⟨⟨r3,rfl⟩,Vk,Y1,Wp,uY,oP⟩;refine hK.out _ _ (hS0.trans oP) (af4 (by kernel_rfl) ?_ _);clear hK K;have acB:Vk.length<=100000:=by rw[Wp.len];simp;omega
 have aac:VK z2 z3:=(VK.grown (Hr.trans hG3)).trans oP;have aaw:Below n0 z2 z3:=((But.aA (Hr.trans hG3)).below (by omega) (λk _ e=>by cases e)).trans uY;have Q1:=aj Y1;have Q2:=aj Wp;have Q3:=aj (hbl.trans aaw);have Q4:=aj (hvk.trans aac);clear Y1 Wp hbl hvk
 go_wp2_with fail
 go_end0
 refine⟨⟨_,rfl⟩,_,ah Q1,?_,ah Q3,ah Q4⟩;have h:=ah Q2;simpa[qB]using h
end Go.Proofs.YthcppbmkacbbiaaGreat
