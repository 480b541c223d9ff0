import Derived.Test.YthcppbmkacbbiaaGreatZBF
set_option linter.unusedSimpArgs false
set_option maxHeartbeats 8000000
set_option maxRecDepth 100000
namespace Go.Proofs.YthcppbmkacbbiaaGreat
open Go.Proofs.Tryz
open Go.RowKit Go.Maps Go.WideMaps
open Sat (View Rule jT cZ)
open au (Key put)
def VK(w w':World):Prop:=∀(k:Nat) (cur:Array Value) (t:TypeId) (x:Nat×Nat),t≠161->t≠210->w.heap[k]?=some (Obj.cells cur t x)->w'.heap[k]?=some (Obj.cells cur t x)
theorem aQ{w w':World}(h:VK w w'){k:Nat}{cur:Array Value}{t:TypeId}{x:Nat×Nat}(e:w.heap[k]?=some (Obj.cells cur t x))(h1:t≠161:=by decide)(h2:t≠210:=by decide):w'.heap[k]?=some (Obj.cells cur t x):=h k cur t x h1 h2 e
theorem VK.refl(w:World):VK w w:=λ_ _ _ _ _ _ h=>h
theorem VK.trans{a b c:World}(h:VK a b)(k:VK b c):VK a c:=λi cur t x h1 h2 e=>k i cur t x h1 h2 (h i cur t x h1 h2 e)
theorem VK.grown{w w':World}(h:w.grownBy w' none):VK w w':=λk cur t x _ _ e=>(h.block k (ae8.1 e).1 (by simp)).trans e
theorem VK.map{w w':World}{b:Nat}(h:w.grownBy w' (some b))(hb:∀cur t x,w.heap[b]?≠some (Obj.cells cur t x)):VK w w':=λk cur t x _ _ e=>(h.block k (ae8.1 e).1 (λe2=>by cases e2;exact hb _ _ _ e)).trans e
theorem VK.but{S:Nat->Prop}{w w':World}(h:But S w w')(hS:∀k,S k->∀cur t x,t≠161->t≠210->w.heap[k]?≠some (Obj.cells cur t x)):VK w w':=λk cur t x h1 h2 e=>(h.block k (ae8.1 e).1 (λe2=>hS k e2 cur t x h1 h2 e)).trans e
theorem aP.QM{w:World}{k b:Nat}{kv:Key->Value}{ts:List Key}(h:aP w k b kv ts):∀cur t x,w.heap[b]?≠some (Obj.cells cur t x):=by
 obtain⟨D,⟨es,c,h1,_⟩,_⟩:=h;intro cur t x e;rw[h1]at e;cases e
theorem pq.QM{w:World}{lb:Nat}{mu ms:Option Nat}{rv:Value}(h:pq w lb mu ms rv):∀cur t x,t≠210->w.heap[lb]?≠some (Obj.cells cur t x):=by
 intro cur t x ht e;rw[h.out]at e;simp at e;exact ht e.2.1.symm
theorem cO.QM{w:World}{rv:Value}{ak:List Rule}(h:cO w rv ak):∀k,some k=rv.ownBlock->∀cur t x,t≠161->w.heap[k]?≠some (Obj.cells cur t x):=by
 obtain⟨vs,⟨h1,h2⟩,h3⟩:=h;intro k hk cur t x ht e;rcases h2 with⟨rfl,_⟩|⟨g,cap,cur',rfl,q2,q3,q4⟩
 ·cases hk
 ·cases hk;rw[q3]at e;simp at e;exact ht e.2.1.symm
theorem gV(x:Nat)(i:Bool)(w:World):Calls prog 148 #[.agg #[.int .i64 x,.bool i]] w λe w'=>e=.returned (.agg #[.int .i64 x,.bool (!i)])/\w.grownBy w' none:=FQ (x,i) w
theorem Vw(w:World)(a:View):bg (w.alloc (.cells #[.int .i64 a.1,.bool a.2] 214)) (.slice (some ⟨w.heap.size,0,none⟩) 1 1) [a]:=by
 refine Or.inr ⟨w.heap.size,1,_,_,rfl,ag4 _ _,by simp,λi hi=>?_⟩;have:i=0:=by simp at hi;omega
 subst this;exact⟨rfl,rfl⟩
theorem Vu(w:World)(a b:View):bg (w.alloc (.cells #[.int .i64 a.1,.bool a.2,.int .i64 b.1,.bool b.2] 214)) (.slice (some ⟨w.heap.size,0,none⟩) 2 2) [a,b]:=by
 refine Or.inr ⟨w.heap.size,2,_,_,rfl,ag4 _ _,by simp,λi hi=>?_⟩
 match i,hi with
 |0,_=>exact⟨rfl,rfl⟩
 |1,_=>exact⟨rfl,rfl⟩
theorem oJ(w:World)(a b c:View):bg (w.alloc (.cells #[.int .i64 a.1,.bool a.2,.int .i64 b.1,.bool b.2,.int .i64 c.1,.bool c.2] 214)) (.slice (some ⟨w.heap.size,0,none⟩) 3 3) [a,b,c]:=by
 refine Or.inr ⟨w.heap.size,3,_,_,rfl,ag4 _ _,by simp,λi hi=>?_⟩
 match i,hi with
 |0,_=>exact⟨rfl,rfl⟩
 |1,_=>exact⟨rfl,rfl⟩
 |2,_=>exact⟨rfl,rfl⟩
theorem dN(X:Nat->Prop)(n0:Nat)(w:World)(lb BU BS:Nat)(f:Key->Key)(dom:Key->Prop)(Us:List Key)(ak:List Rule)(L:List (List bG))(v:Value)(ls:List bG)(h:LG n0 w lb BU BS f dom Us ak X)(hX:∀k,X k->k<w.heap.size)(hP:lC Us ak L)(hv:bg w v (ls.map (vw Us)))
 (h0:ls≠[])(hl:ls.length<=500)(hm:∀l∈ls,l.1∈Us)(hn:n0<=w.heap.size)(hr:ak.length<=100000) :
  Calls prog 145 #[.pointer (some ⟨lb,0,none⟩),v] w λe w'=>(∃z,e=.returned z)/\∃aT,LG n0 w' lb BU BS f dom Us aT X/\lC Us aT (L++[ls])/\Below n0 w w'/\VK w w':=by
 obtain⟨rv,h1,h2,h3⟩:=h.rv;refine(KR X w lb (some BU) (some BS) rv ak h1 h2 hX v _ hv (by simpa using hl) hr).mono ?_;rintro e w' ⟨hz,rv',hL,hR,hb,ho⟩;obtain⟨g1,g2⟩:=h.dem h1 h2.v h3 hn hL hR hb ho;refine⟨hz,_,g1,hP.demand h0 (by omega) hm,g2,VK.but hb (λk e cur t x t1 t2=>?_)⟩;rcases e with e|e
 ·rw[e];exact h1.QM cur t x t2
 ·exact h2.v.QM k e cur t x t1
theorem xu(X:Nat->Prop)(n0:Nat)(w:World)(lb BU BS:Nat)(f:Key->Key)(dom:Key->Prop)(Us:List Key)(aS:List Rule)(L:List (List bG))(lw lf ls:bG)(jC:LG n0 w lb BU BS f dom Us aS X)(hX:∀k,X k->k<w.heap.size)(Kz:lC Us aS L)(hmw:lw.1∈Us)(hmf:lf.1∈Us)(hms:ls.1∈Us)(hn:n0<=w.heap.size)(hR:L.length<=90000) :
  Calls prog 185 #[.pointer (some ⟨lb,0,none⟩),vV (vw Us lw),vV (vw Us lf),vV (vw Us ls)] w λe w'=>(∃z,e=.returned z)/\∃aT,LG n0 w' lb BU BS f dom Us aT X/\lC Us aT (L++mM lw lf ls)/\Below n0 w w'/\VK w w':=by
 obtain⟨xw,hxw⟩:∃x,Us.idxOf lw.1=x:=⟨_,rfl⟩;obtain⟨xf,hxf⟩:∃x,Us.idxOf lf.1=x:=⟨_,rfl⟩;obtain⟨xs,hxs⟩:∃x,Us.idxOf ls.1=x:=⟨_,rfl⟩;obtain⟨iw,hiw⟩:∃x,lw.2=x:=⟨_,rfl⟩;obtain⟨jf,hif⟩:∃x,lf.2=x:=⟨_,rfl⟩;obtain⟨js,his⟩:∃x,ls.2=x:=⟨_,rfl⟩;have L0:=L;have Zr:aS.length<=100000:=by rw[Kz.len];omega
 unfold vV vw;rw[hxw,hxf,hxs,hiw,hif,his];obtain⟨W0,hW0⟩:∃W0,((w.alloc (.cells #[.int .i64 xw,.bool iw] 214)).alloc (.cells #[.int .i64 xf,.bool jf] 214)).alloc (.cells #[.int .i64 xs,.bool js] 214)=W0:=⟨_,rfl⟩;have hg0:w.grownBy W0 none:=by rw[<-hW0];exact((ae9 _ _ none).trans (ae9 _ _ none)).trans (ae9 _ _ none)
 have bw0:W0.heap[w.heap.size]?=some (.cells #[.int .i64 xw,.bool iw] 214 (0,0)):=by
  rw[<-hW0,ag1 _ _ _ (by simp;omega),ag1 _ _ _ (by simp),ag4]
 have bf0:W0.heap[w.heap.size+1]?=some (.cells #[.int .i64 xf,.bool jf] 214 (0,0)):=by
  have e:w.heap.size+1=(w.alloc (.cells #[.int .i64 xw,.bool iw] 214)).heap.size:=by simp
  rw[<-hW0,ag1 _ _ _ (by simp),e,ag4]
 have bs0:W0.heap[w.heap.size+1+1]?=some (.cells #[.int .i64 xs,.bool js] 214 (0,0)):=by
  have e:w.heap.size+1+1=((w.alloc (.cells #[.int .i64 xw,.bool iw] 214)).alloc (.cells #[.int .i64 xf,.bool jf] 214)).heap.size:=by simp
  rw[<-hW0,e,ag4]
 have Uz:=jC.grow hg0;have hbl:Below n0 w W0:=(But.aB hg0).below hn (λk _ e=>by cases e);have hvk:VK w W0:=VK.grown hg0;have hsW:=hg0.size;clear jC
 go_enter func185,ntmps185
 go_wp2_with fail
 clear hW0;obtain⟨V0,hV0⟩:∃V,W0.drew=V:=⟨_,rfl⟩;have yA:W0.grownBy V0 none:=by rw[<-hV0];exact⟨rfl,rfl,rfl,af0 _,λ_ _ _=>rfl⟩
 refine aj0 (S:=λW'=>VK V0 W') rfl ?_;have hS0:VK V0 V0:=VK.refl _;have hG0:V0.grownBy V0 none:=aj7 _ _;simp only[ag3,ag0,ah0,Nat.reduceAdd,af8,af7,ag5,ag9,ag7];change wpAnyH prog .any _ _ _ _ _ _ W0.drew;rw[hV0];clear hV0;have cw0:V0.heap[w.heap.size]?=some (.cells #[.int .i64 xw,.bool iw] 214 (0,0)):=(yA.block _ (ae8.1 bw0).1 (by simp)).trans bw0;have dw0:V0.cell? ⟨w.heap.size,0,none⟩=some (.int .i64 xw):=by rw[cell_of cw0];rfl
 have ew0:V0.cell? ⟨w.heap.size,1,none⟩=some (.bool iw):=by rw[cell_of cw0];rfl
 have cf0:V0.heap[w.heap.size+1]?=some (.cells #[.int .i64 xf,.bool jf] 214 (0,0)):=(yA.block _ (ae8.1 bf0).1 (by simp)).trans bf0;have df0:V0.cell? ⟨w.heap.size+1,0,none⟩=some (.int .i64 xf):=by rw[cell_of cf0];rfl
 have ef0:V0.cell? ⟨w.heap.size+1,1,none⟩=some (.bool jf):=by rw[cell_of cf0];rfl
 have cs0:V0.heap[w.heap.size+1+1]?=some (.cells #[.int .i64 xs,.bool js] 214 (0,0)):=(yA.block _ (ae8.1 bs0).1 (by simp)).trans bs0;have ds0:V0.cell? ⟨w.heap.size+1+1,0,none⟩=some (.int .i64 xs):=by rw[cell_of cs0];rfl
 have es0:V0.cell? ⟨w.heap.size+1+1,1,none⟩=some (.bool js):=by rw[cell_of cs0];rfl
 have Ij:=Uz.grow yA;refine tH 0 (.pointer (some ⟨lb,0,none⟩)) (λw' hS=>?_) hS0 ?_
 ·go_simp
 simp only[aG];refine tH 1 (.agg #[.int .i64 xw,.bool iw]) (λw' hS=>?_) hS0 ?_
 ·have q:=aQ hS cw0;have q0:=(cell_of q 0);have q1:=(cell_of q 1)
  go_simp
 simp only[aG];refine tH 3 (.agg #[.int .i64 xf,.bool jf]) (λw' hS=>?_) hS0 ?_
 ·have q:=aQ hS cf0;have q0:=(cell_of q 0);have q1:=(cell_of q 1)
  go_simp
 simp only[aG];refine oH 2 (λK hK=>?_);go_simp;refine(gV xw iw V0).mono ?_;rintro e n02 ⟨rfl,hn02⟩;replace hS0:=hS0.trans (VK.grown hn02);refine hK.out _ _ hS0 ?_;clear hK K;replace hG0:=hG0.trans hn02;refine oH 4 (λK hK=>?_);go_simp;replace hS0:=hS0.trans (VK.grown (ae9 _ (.cells #[.int .i64 xw,.bool (!iw),.int .i64 xf,.bool jf] 214) none));refine hK.out _ _ hS0 ?_;clear hK K;replace hG0:=hG0.trans (ae9 _ (.cells #[.int .i64 xw,.bool (!iw),.int .i64 xf,.bool jf] 214) none);have abH:=Ij.grow hG0;have hsz0:=hG0.size;have aef:=yA.size;have Y9:bg (n02.alloc (.cells #[.int .i64 xw,.bool (!iw),.int .i64 xf,.bool jf] 214)) (.slice (some ⟨n02.heap.size,0,none⟩) 2 2) ([nl lw,lf].map (vw Us)):=by
  have:=Vu n02 (xw,!iw) (xf,jf);simpa[vw,nl,<-hxw,<-hiw,<-hxf,<-hif,<-hxs,<-his]using this
 refine oH 5 (λK hK=>?_);go_simp;refine(dN X n0 (n02.alloc (.cells #[.int .i64 xw,.bool (!iw),.int .i64 xf,.bool jf] 214)) lb BU BS f dom Us aS (L) _ [nl lw,lf] abH (λk h=>by have:=hX k h;simp at hsz0 ⊢;omega) Kz Y9 (by simp) (by simp) (by simpa[nl]using ⟨hmw,hmf⟩) (by simp at hsz0 ⊢;omega) Zr).mono ?_;rintro e z0 ⟨⟨r0,rfl⟩,zB,jm,Ky,PS,Pz⟩;refine hK.out _ _ (hS0.trans Pz) (ai8 (by kernel_rfl) ?_ _);clear hK K;have Zq:zB.length<=100000:=by rw[Ky.len];simp;omega
 have Ai:VK W0 z0:=(VK.grown (yA.trans hG0)).trans Pz;have Ko:Below n0 W0 z0:=((But.aB (yA.trans hG0)).below (by omega) (λk _ e=>by cases e)).trans PS;have bw1:=aQ Ai bw0;have bf1:=aQ Ai bf0;have bs1:=aQ Ai bs0;have aaR:w.heap.size<=z0.heap.size:=ah2 (by omega) Ko.size;have vS:=hbl.trans Ko;have vK:=hvk.trans Ai;clear hbl hvk;have hbl:=vS;have hvk:=vK;clear vS vK PS Pz Ai Ko bw0 bf0 bs0 Uz Ij Kz cw0 cf0 cs0 dw0 df0 ds0 ew0 ef0 es0
 go_wp2_with fail
 obtain⟨V1,hV1⟩:∃V,z0.drew=V:=⟨_,rfl⟩;have tK:z0.grownBy V1 none:=by rw[<-hV1];exact⟨rfl,rfl,rfl,af0 _,λ_ _ _=>rfl⟩
 refine aj0 (S:=λW'=>VK V1 W') rfl ?_;have hS0:VK V1 V1:=VK.refl _;have hG1:V1.grownBy V1 none:=aj7 _ _;simp only[ag3,ag0,ah0,Nat.reduceAdd,af8,af7,ag5,ag9,ag7];change wpAnyH prog .any _ _ _ _ _ _ z0.drew;rw[hV1];clear hV1;have cw1:V1.heap[w.heap.size]?=some (.cells #[.int .i64 xw,.bool iw] 214 (0,0)):=(tK.block _ (ae8.1 bw1).1 (by simp)).trans bw1;have dw1:V1.cell? ⟨w.heap.size,0,none⟩=some (.int .i64 xw):=by rw[cell_of cw1];rfl
 have ew1:V1.cell? ⟨w.heap.size,1,none⟩=some (.bool iw):=by rw[cell_of cw1];rfl
 have cf1:V1.heap[w.heap.size+1]?=some (.cells #[.int .i64 xf,.bool jf] 214 (0,0)):=(tK.block _ (ae8.1 bf1).1 (by simp)).trans bf1;have df1:V1.cell? ⟨w.heap.size+1,0,none⟩=some (.int .i64 xf):=by rw[cell_of cf1];rfl
 have ef1:V1.cell? ⟨w.heap.size+1,1,none⟩=some (.bool jf):=by rw[cell_of cf1];rfl
 have cs1:V1.heap[w.heap.size+1+1]?=some (.cells #[.int .i64 xs,.bool js] 214 (0,0)):=(tK.block _ (ae8.1 bs1).1 (by simp)).trans bs1;have ds1:V1.cell? ⟨w.heap.size+1+1,0,none⟩=some (.int .i64 xs):=by rw[cell_of cs1];rfl
 have es1:V1.cell? ⟨w.heap.size+1+1,1,none⟩=some (.bool js):=by rw[cell_of cs1];rfl
 have Ii:=jm.grow tK;refine tH 0 (.pointer (some ⟨lb,0,none⟩)) (λw' hS=>?_) hS0 ?_
 ·go_simp
 simp only[aG];refine tH 1 (.agg #[.int .i64 xw,.bool iw]) (λw' hS=>?_) hS0 ?_
 ·have q:=aQ hS cw1;have q0:=(cell_of q 0);have q1:=(cell_of q 1)
  go_simp
 simp only[aG];refine tH 3 (.agg #[.int .i64 xs,.bool js]) (λw' hS=>?_) hS0 ?_
 ·have q:=aQ hS cs1;have q0:=(cell_of q 0);have q1:=(cell_of q 1)
  go_simp
 simp only[aG];refine oH 2 (λK hK=>?_);go_simp;refine(gV xw iw V1).mono ?_;rintro e n12 ⟨rfl,hn12⟩;replace hS0:=hS0.trans (VK.grown hn12);refine hK.out _ _ hS0 ?_;clear hK K;replace hG1:=hG1.trans hn12;refine oH 4 (λK hK=>?_);go_simp;replace hS0:=hS0.trans (VK.grown (ae9 _ (.cells #[.int .i64 xw,.bool (!iw),.int .i64 xs,.bool js] 214) none));refine hK.out _ _ hS0 ?_;clear hK K;replace hG1:=hG1.trans (ae9 _ (.cells #[.int .i64 xw,.bool (!iw),.int .i64 xs,.bool js] 214) none);have Uy:=Ii.grow hG1;have hsz1:=hG1.size;have aaN:=tK.size;have Y8:bg (n12.alloc (.cells #[.int .i64 xw,.bool (!iw),.int .i64 xs,.bool js] 214)) (.slice (some ⟨n12.heap.size,0,none⟩) 2 2) ([nl lw,ls].map (vw Us)):=by
  have:=Vu n12 (xw,!iw) (xs,js);simpa[vw,nl,<-hxw,<-hiw,<-hxf,<-hif,<-hxs,<-his]using this
 refine oH 5 (λK hK=>?_);go_simp;refine(dN X n0 (n12.alloc (.cells #[.int .i64 xw,.bool (!iw),.int .i64 xs,.bool js] 214)) lb BU BS f dom Us zB (L++[[nl lw,lf]]) _ [nl lw,ls] Uy (λk h=>by have:=hX k h;simp at hsz1 ⊢;omega) Ky Y8 (by simp) (by simp) (by simpa[nl]using ⟨hmw,hms⟩) (by simp at hsz1 ⊢;omega) Zq).mono ?_;rintro e z1 ⟨⟨r1,rfl⟩,zA,jl,pJ,Ie,iQ⟩;refine hK.out _ _ (hS0.trans iQ) (ai8 (by kernel_rfl) ?_ _);clear hK K;have Zp:zA.length<=100000:=by rw[pJ.len];simp;omega
 have Ah:VK z0 z1:=(VK.grown (tK.trans hG1)).trans iQ;have J9:Below n0 z0 z1:=((But.aB (tK.trans hG1)).below (by omega) (λk _ e=>by cases e)).trans Ie;have bw2:=aQ Ah bw1;have bf2:=aQ Ah bf1;have bs2:=aQ Ah bs1;have aaQ:w.heap.size<=z1.heap.size:=ah2 (by omega) J9.size;have vS:=hbl.trans J9;have vK:=hvk.trans Ah;clear hbl hvk;have hbl:=vS;have hvk:=vK;clear vS vK Ie iQ Ah J9 bw1 bf1 bs1 jm Ii Ky cw1 cf1 cs1 dw1 df1 ds1 ew1 ef1 es1
 go_wp2_with fail
 obtain⟨V2,hV2⟩:∃V,z1.drew=V:=⟨_,rfl⟩;have tJ:z1.grownBy V2 none:=by rw[<-hV2];exact⟨rfl,rfl,rfl,af0 _,λ_ _ _=>rfl⟩
 refine aj0 (S:=λW'=>VK V2 W') rfl ?_;have hS0:VK V2 V2:=VK.refl _;have hG2:V2.grownBy V2 none:=aj7 _ _;simp only[ag3,ag0,ah0,Nat.reduceAdd,af8,af7,ag5,ag9,ag7];change wpAnyH prog .any _ _ _ _ _ _ z1.drew;rw[hV2];clear hV2;have cw2:V2.heap[w.heap.size]?=some (.cells #[.int .i64 xw,.bool iw] 214 (0,0)):=(tJ.block _ (ae8.1 bw2).1 (by simp)).trans bw2;have dw2:V2.cell? ⟨w.heap.size,0,none⟩=some (.int .i64 xw):=by rw[cell_of cw2];rfl
 have ew2:V2.cell? ⟨w.heap.size,1,none⟩=some (.bool iw):=by rw[cell_of cw2];rfl
 have cf2:V2.heap[w.heap.size+1]?=some (.cells #[.int .i64 xf,.bool jf] 214 (0,0)):=(tJ.block _ (ae8.1 bf2).1 (by simp)).trans bf2;have df2:V2.cell? ⟨w.heap.size+1,0,none⟩=some (.int .i64 xf):=by rw[cell_of cf2];rfl
 have ef2:V2.cell? ⟨w.heap.size+1,1,none⟩=some (.bool jf):=by rw[cell_of cf2];rfl
 have cs2:V2.heap[w.heap.size+1+1]?=some (.cells #[.int .i64 xs,.bool js] 214 (0,0)):=(tJ.block _ (ae8.1 bs2).1 (by simp)).trans bs2;have ds2:V2.cell? ⟨w.heap.size+1+1,0,none⟩=some (.int .i64 xs):=by rw[cell_of cs2];rfl
 have es2:V2.cell? ⟨w.heap.size+1+1,1,none⟩=some (.bool js):=by rw[cell_of cs2];rfl
 have Nk:=jl.grow tJ;refine tH 0 (.pointer (some ⟨lb,0,none⟩)) (λw' hS=>?_) hS0 ?_
 ·go_simp
 simp only[aG];refine tH 1 (.agg #[.int .i64 xw,.bool iw]) (λw' hS=>?_) hS0 ?_
 ·have q:=aQ hS cw2;have q0:=(cell_of q 0);have q1:=(cell_of q 1)
  go_simp
 simp only[aG];refine tH 2 (.agg #[.int .i64 xf,.bool jf]) (λw' hS=>?_) hS0 ?_
 ·have q:=aQ hS cf2;have q0:=(cell_of q 0);have q1:=(cell_of q 1)
  go_simp
 simp only[aG];refine tH 4 (.agg #[.int .i64 xs,.bool js]) (λw' hS=>?_) hS0 ?_
 ·have q:=aQ hS cs2;have q0:=(cell_of q 0);have q1:=(cell_of q 1)
  go_simp
 simp only[aG];refine oH 3 (λK hK=>?_);go_simp;refine(gV xf jf V2).mono ?_;rintro e n23 ⟨rfl,hn23⟩;replace hS0:=hS0.trans (VK.grown hn23);refine hK.out _ _ hS0 ?_;clear hK K;replace hG2:=hG2.trans hn23;refine oH 5 (λK hK=>?_);go_simp;refine(gV xs js n23).mono ?_;rintro e n25 ⟨rfl,hn25⟩;replace hS0:=hS0.trans (VK.grown hn25);refine hK.out _ _ hS0 ?_;clear hK K;replace hG2:=hG2.trans hn25;refine oH 6 (λK hK=>?_);go_simp;replace hS0:=hS0.trans (VK.grown (ae9 _ (.cells #[.int .i64 xw,.bool iw,.int .i64 xf,.bool (!jf),.int .i64 xs,.bool (!js)] 214) none));refine hK.out _ _ hS0 ?_;clear hK K;replace hG2:=hG2.trans (ae9 _ (.cells #[.int .i64 xw,.bool iw,.int .i64 xf,.bool (!jf),.int .i64 xs,.bool (!js)] 214) none);have Ux:=Nk.grow hG2;have hsz2:=hG2.size;have aaM:=tJ.size;have PD:bg (n25.alloc (.cells #[.int .i64 xw,.bool iw,.int .i64 xf,.bool (!jf),.int .i64 xs,.bool (!js)] 214)) (.slice (some ⟨n25.heap.size,0,none⟩) 3 3) ([lw,nl lf,nl ls].map (vw Us)):=by
  have:=oJ n25 (xw,iw) (xf,!jf) (xs,!js);simpa[vw,nl,<-hxw,<-hiw,<-hxf,<-hif,<-hxs,<-his]using this
 refine oH 7 (λK hK=>?_);go_simp;refine(dN X n0 (n25.alloc (.cells #[.int .i64 xw,.bool iw,.int .i64 xf,.bool (!jf),.int .i64 xs,.bool (!js)] 214)) lb BU BS f dom Us zA (L++[[nl lw,lf]]++[[nl lw,ls]]) _ [lw,nl lf,nl ls] Ux (λk h=>by have:=hX k h;simp at hsz2 ⊢;omega) pJ PD (by simp) (by simp) (by simpa[nl]using ⟨hmw,hmf,hms⟩) (by simp at hsz2 ⊢;omega) Zp).mono ?_;rintro e z2 ⟨⟨r2,rfl⟩,fA,iV,iU,PO,Py⟩;refine hK.out _ _ (hS0.trans Py) (ai8 (by kernel_rfl) ?_ _);clear hK K;have abD:fA.length<=100000:=by rw[iU.len];simp;omega
 have JW:VK z1 z2:=(VK.grown (tJ.trans hG2)).trans Py;have Ug:Below n0 z1 z2:=((But.aB (tJ.trans hG2)).below (by omega) (λk _ e=>by cases e)).trans PO;have Q1:=aj iV;have Q2:=aj iU;have Q3:=aj (hbl.trans Ug);have Q4:=aj (hvk.trans JW);clear iV iU hbl hvk
 go_wp2_with fail
 go_end0
 refine⟨⟨_,rfl⟩,_,ah Q1,?_,ah Q3,ah Q4⟩;have h:=ah Q2;simpa[mM]using h
theorem Ld(X:Nat->Prop)(n0:Nat)(w:World)(lb BU BS:Nat)(f:Key->Key)(dom:Key->Prop)(Us:List Key)(aS:List Rule)(L:List (List bG))(lw lf ls:bG)(jC:LG n0 w lb BU BS f dom Us aS X)(hX:∀k,X k->k<w.heap.size)(Kz:lC Us aS L)(hmw:lw.1∈Us)(hmf:lf.1∈Us)(hms:ls.1∈Us)(hn:n0<=w.heap.size)(hR:L.length<=90000) :
  Calls prog 186 #[.pointer (some ⟨lb,0,none⟩),vV (vw Us lw),vV (vw Us lf),vV (vw Us ls)] w λe w'=>(∃z,e=.returned z)/\∃aT,LG n0 w' lb BU BS f dom Us aT X/\lC Us aT (L++qR lw lf ls)/\Below n0 w w'/\VK w w':=by
 obtain⟨xw,hxw⟩:∃x,Us.idxOf lw.1=x:=⟨_,rfl⟩;obtain⟨xf,hxf⟩:∃x,Us.idxOf lf.1=x:=⟨_,rfl⟩;obtain⟨xs,hxs⟩:∃x,Us.idxOf ls.1=x:=⟨_,rfl⟩;obtain⟨iw,hiw⟩:∃x,lw.2=x:=⟨_,rfl⟩;obtain⟨jf,hif⟩:∃x,lf.2=x:=⟨_,rfl⟩;obtain⟨js,his⟩:∃x,ls.2=x:=⟨_,rfl⟩;have L0:=L;have Zr:aS.length<=100000:=by rw[Kz.len];omega
 unfold vV vw;rw[hxw,hxf,hxs,hiw,hif,his];obtain⟨W0,hW0⟩:∃W0,((w.alloc (.cells #[.int .i64 xw,.bool iw] 214)).alloc (.cells #[.int .i64 xf,.bool jf] 214)).alloc (.cells #[.int .i64 xs,.bool js] 214)=W0:=⟨_,rfl⟩;have hg0:w.grownBy W0 none:=by rw[<-hW0];exact((ae9 _ _ none).trans (ae9 _ _ none)).trans (ae9 _ _ none)
 have bw0:W0.heap[w.heap.size]?=some (.cells #[.int .i64 xw,.bool iw] 214 (0,0)):=by
  rw[<-hW0,ag1 _ _ _ (by simp;omega),ag1 _ _ _ (by simp),ag4]
 have bf0:W0.heap[w.heap.size+1]?=some (.cells #[.int .i64 xf,.bool jf] 214 (0,0)):=by
  have e:w.heap.size+1=(w.alloc (.cells #[.int .i64 xw,.bool iw] 214)).heap.size:=by simp
  rw[<-hW0,ag1 _ _ _ (by simp),e,ag4]
 have bs0:W0.heap[w.heap.size+1+1]?=some (.cells #[.int .i64 xs,.bool js] 214 (0,0)):=by
  have e:w.heap.size+1+1=((w.alloc (.cells #[.int .i64 xw,.bool iw] 214)).alloc (.cells #[.int .i64 xf,.bool jf] 214)).heap.size:=by simp
  rw[<-hW0,e,ag4]
 have Uz:=jC.grow hg0;have hbl:Below n0 w W0:=(But.aB hg0).below hn (λk _ e=>by cases e);have hvk:VK w W0:=VK.grown hg0;have hsW:=hg0.size;clear jC;have yA:W0.grownBy W0 none:=aj7 _ _;have cw0:W0.heap[w.heap.size]?=some (.cells #[.int .i64 xw,.bool iw] 214 (0,0)):=(yA.block _ (ae8.1 bw0).1 (by simp)).trans bw0;have dw0:W0.cell? ⟨w.heap.size,0,none⟩=some (.int .i64 xw):=by rw[cell_of cw0];rfl
 have ew0:W0.cell? ⟨w.heap.size,1,none⟩=some (.bool iw):=by rw[cell_of cw0];rfl
 have cf0:W0.heap[w.heap.size+1]?=some (.cells #[.int .i64 xf,.bool jf] 214 (0,0)):=(yA.block _ (ae8.1 bf0).1 (by simp)).trans bf0;have df0:W0.cell? ⟨w.heap.size+1,0,none⟩=some (.int .i64 xf):=by rw[cell_of cf0];rfl
 have ef0:W0.cell? ⟨w.heap.size+1,1,none⟩=some (.bool jf):=by rw[cell_of cf0];rfl
 have cs0:W0.heap[w.heap.size+1+1]?=some (.cells #[.int .i64 xs,.bool js] 214 (0,0)):=(yA.block _ (ae8.1 bs0).1 (by simp)).trans bs0;have ds0:W0.cell? ⟨w.heap.size+1+1,0,none⟩=some (.int .i64 xs):=by rw[cell_of cs0];rfl
 have es0:W0.cell? ⟨w.heap.size+1+1,1,none⟩=some (.bool js):=by rw[cell_of cs0];rfl
 have Ij:=Uz.grow yA;have Zh:W0.grownBy (W0.alloc (.cells #[.int .i64 xw,.bool iw,.int .i64 xf,.bool jf,.int .i64 xs,.bool js] 214)) none:=ae9 _ _ none;have Y9:bg (W0.alloc (.cells #[.int .i64 xw,.bool iw,.int .i64 xf,.bool jf,.int .i64 xs,.bool js] 214)) (.slice (some ⟨W0.heap.size,0,none⟩) 3 3) ([lw,lf,ls].map (vw Us)):=by
  have:=oJ W0 (xw,iw) (xf,jf) (xs,js);simpa[vw,nl,<-hxw,<-hiw,<-hxf,<-hif,<-hxs,<-his]using this
 have ada:=dN X n0 (W0.alloc (.cells #[.int .i64 xw,.bool iw,.int .i64 xf,.bool jf,.int .i64 xs,.bool js] 214)) lb BU BS f dom Us aS (L) _ [lw,lf,ls] (Ij.grow Zh) (λk h=>by have:=hX k h;simp;omega) Kz Y9 (by simp) (by simp) (by simpa[nl]using ⟨hmw,hmf,hms⟩) (by simp;omega) Zr
 go_enter func186,ntmps186
 go_wp2_with fail
 clear hW0;refine ada.mono ?_;rintro e z0 ⟨⟨r0,rfl⟩,zB,jm,Ky,PS,Pz⟩;have Zq:zB.length<=100000:=by rw[Ky.len];simp;omega
 have Ai:VK W0 z0:=(VK.grown Zh).trans Pz;have Ko:Below n0 W0 z0:=((But.aB Zh).below (by omega) (λk _ e=>by cases e)).trans PS;have bw1:=aQ Ai bw0;have bf1:=aQ Ai bf0;have bs1:=aQ Ai bs0;have aaR:w.heap.size<=z0.heap.size:=ah2 (by omega) Ko.size;have vS:=hbl.trans Ko;have vK:=hvk.trans Ai;clear hbl hvk;have hbl:=vS;have hvk:=vK;clear vS vK PS Pz Ai Ko bw0 bf0 bs0 Uz Ij Kz cw0 cf0 cs0 dw0 df0 ds0 ew0 ef0 es0
 go_wp2_with fail
 obtain⟨V1,hV1⟩:∃V,z0.drew=V:=⟨_,rfl⟩;have tK:z0.grownBy V1 none:=by rw[<-hV1];exact⟨rfl,rfl,rfl,af0 _,λ_ _ _=>rfl⟩
 refine aj0 (S:=λW'=>VK V1 W') rfl ?_;have hS0:VK V1 V1:=VK.refl _;have hG1:V1.grownBy V1 none:=aj7 _ _;simp only[ag3,ag0,ah0,Nat.reduceAdd,af8,af7,ag5,ag9,ag7];change wpAnyH prog .any _ _ _ _ _ _ z0.drew;rw[hV1];clear hV1;have cw1:V1.heap[w.heap.size]?=some (.cells #[.int .i64 xw,.bool iw] 214 (0,0)):=(tK.block _ (ae8.1 bw1).1 (by simp)).trans bw1;have dw1:V1.cell? ⟨w.heap.size,0,none⟩=some (.int .i64 xw):=by rw[cell_of cw1];rfl
 have ew1:V1.cell? ⟨w.heap.size,1,none⟩=some (.bool iw):=by rw[cell_of cw1];rfl
 have cf1:V1.heap[w.heap.size+1]?=some (.cells #[.int .i64 xf,.bool jf] 214 (0,0)):=(tK.block _ (ae8.1 bf1).1 (by simp)).trans bf1;have df1:V1.cell? ⟨w.heap.size+1,0,none⟩=some (.int .i64 xf):=by rw[cell_of cf1];rfl
 have ef1:V1.cell? ⟨w.heap.size+1,1,none⟩=some (.bool jf):=by rw[cell_of cf1];rfl
 have cs1:V1.heap[w.heap.size+1+1]?=some (.cells #[.int .i64 xs,.bool js] 214 (0,0)):=(tK.block _ (ae8.1 bs1).1 (by simp)).trans bs1;have ds1:V1.cell? ⟨w.heap.size+1+1,0,none⟩=some (.int .i64 xs):=by rw[cell_of cs1];rfl
 have es1:V1.cell? ⟨w.heap.size+1+1,1,none⟩=some (.bool js):=by rw[cell_of cs1];rfl
 have Ii:=jm.grow tK;refine tH 0 (.pointer (some ⟨lb,0,none⟩)) (λw' hS=>?_) hS0 ?_
 ·go_simp
 simp only[aG];refine tH 1 (.agg #[.int .i64 xw,.bool iw]) (λw' hS=>?_) hS0 ?_
 ·have q:=aQ hS cw1;have q0:=(cell_of q 0);have q1:=(cell_of q 1)
  go_simp
 simp only[aG];refine tH 2 (.agg #[.int .i64 xf,.bool jf]) (λw' hS=>?_) hS0 ?_
 ·have q:=aQ hS cf1;have q0:=(cell_of q 0);have q1:=(cell_of q 1)
  go_simp
 simp only[aG];refine tH 4 (.agg #[.int .i64 xs,.bool js]) (λw' hS=>?_) hS0 ?_
 ·have q:=aQ hS cs1;have q0:=(cell_of q 0);have q1:=(cell_of q 1)
  go_simp
 simp only[aG];refine oH 3 (λK hK=>?_);go_simp;refine(gV xf jf V1).mono ?_;rintro e n13 ⟨rfl,hn13⟩;replace hS0:=hS0.trans (VK.grown hn13);refine hK.out _ _ hS0 ?_;clear hK K;replace hG1:=hG1.trans hn13;refine oH 5 (λK hK=>?_);go_simp;refine(gV xs js n13).mono ?_;rintro e n15 ⟨rfl,hn15⟩;replace hS0:=hS0.trans (VK.grown hn15);refine hK.out _ _ hS0 ?_;clear hK K;replace hG1:=hG1.trans hn15;refine oH 6 (λK hK=>?_);go_simp;replace hS0:=hS0.trans (VK.grown (ae9 _ (.cells #[.int .i64 xw,.bool iw,.int .i64 xf,.bool (!jf),.int .i64 xs,.bool (!js)] 214) none));refine hK.out _ _ hS0 ?_;clear hK K;replace hG1:=hG1.trans (ae9 _ (.cells #[.int .i64 xw,.bool iw,.int .i64 xf,.bool (!jf),.int .i64 xs,.bool (!js)] 214) none);have Uy:=Ii.grow hG1;have hsz1:=hG1.size;have aaN:=tK.size;have Y8:bg (n15.alloc (.cells #[.int .i64 xw,.bool iw,.int .i64 xf,.bool (!jf),.int .i64 xs,.bool (!js)] 214)) (.slice (some ⟨n15.heap.size,0,none⟩) 3 3) ([lw,nl lf,nl ls].map (vw Us)):=by
  have:=oJ n15 (xw,iw) (xf,!jf) (xs,!js);simpa[vw,nl,<-hxw,<-hiw,<-hxf,<-hif,<-hxs,<-his]using this
 refine oH 7 (λK hK=>?_);go_simp;refine(dN X n0 (n15.alloc (.cells #[.int .i64 xw,.bool iw,.int .i64 xf,.bool (!jf),.int .i64 xs,.bool (!js)] 214)) lb BU BS f dom Us zB (L++[[lw,lf,ls]]) _ [lw,nl lf,nl ls] Uy (λk h=>by have:=hX k h;simp at hsz1 ⊢;omega) Ky Y8 (by simp) (by simp) (by simpa[nl]using ⟨hmw,hmf,hms⟩) (by simp at hsz1 ⊢;omega) Zq).mono ?_;rintro e z1 ⟨⟨r1,rfl⟩,zA,jl,pJ,Ie,iQ⟩;refine hK.out _ _ (hS0.trans iQ) (ai8 (by kernel_rfl) ?_ _);clear hK K;have Zp:zA.length<=100000:=by rw[pJ.len];simp;omega
 have Ah:VK z0 z1:=(VK.grown (tK.trans hG1)).trans iQ;have J9:Below n0 z0 z1:=((But.aB (tK.trans hG1)).below (by omega) (λk _ e=>by cases e)).trans Ie;have bw2:=aQ Ah bw1;have bf2:=aQ Ah bf1;have bs2:=aQ Ah bs1;have aaQ:w.heap.size<=z1.heap.size:=ah2 (by omega) J9.size;have vS:=hbl.trans J9;have vK:=hvk.trans Ah;clear hbl hvk;have hbl:=vS;have hvk:=vK;clear vS vK Ie iQ Ah J9 bw1 bf1 bs1 jm Ii Ky cw1 cf1 cs1 dw1 df1 ds1 ew1 ef1 es1
 go_wp2_with fail
 obtain⟨V2,hV2⟩:∃V,z1.drew=V:=⟨_,rfl⟩;have tJ:z1.grownBy V2 none:=by rw[<-hV2];exact⟨rfl,rfl,rfl,af0 _,λ_ _ _=>rfl⟩
 refine aj0 (S:=λW'=>VK V2 W') rfl ?_;have hS0:VK V2 V2:=VK.refl _;have hG2:V2.grownBy V2 none:=aj7 _ _;simp only[ag3,ag0,ah0,Nat.reduceAdd,af8,af7,ag5,ag9,ag7];change wpAnyH prog .any _ _ _ _ _ _ z1.drew;rw[hV2];clear hV2;have cw2:V2.heap[w.heap.size]?=some (.cells #[.int .i64 xw,.bool iw] 214 (0,0)):=(tJ.block _ (ae8.1 bw2).1 (by simp)).trans bw2;have dw2:V2.cell? ⟨w.heap.size,0,none⟩=some (.int .i64 xw):=by rw[cell_of cw2];rfl
 have ew2:V2.cell? ⟨w.heap.size,1,none⟩=some (.bool iw):=by rw[cell_of cw2];rfl
 have cf2:V2.heap[w.heap.size+1]?=some (.cells #[.int .i64 xf,.bool jf] 214 (0,0)):=(tJ.block _ (ae8.1 bf2).1 (by simp)).trans bf2;have df2:V2.cell? ⟨w.heap.size+1,0,none⟩=some (.int .i64 xf):=by rw[cell_of cf2];rfl
 have ef2:V2.cell? ⟨w.heap.size+1,1,none⟩=some (.bool jf):=by rw[cell_of cf2];rfl
 have cs2:V2.heap[w.heap.size+1+1]?=some (.cells #[.int .i64 xs,.bool js] 214 (0,0)):=(tJ.block _ (ae8.1 bs2).1 (by simp)).trans bs2;have ds2:V2.cell? ⟨w.heap.size+1+1,0,none⟩=some (.int .i64 xs):=by rw[cell_of cs2];rfl
 have es2:V2.cell? ⟨w.heap.size+1+1,1,none⟩=some (.bool js):=by rw[cell_of cs2];rfl
 have Nk:=jl.grow tJ;refine tH 0 (.pointer (some ⟨lb,0,none⟩)) (λw' hS=>?_) hS0 ?_
 ·go_simp
 simp only[aG];refine tH 1 (.agg #[.int .i64 xw,.bool iw]) (λw' hS=>?_) hS0 ?_
 ·have q:=aQ hS cw2;have q0:=(cell_of q 0);have q1:=(cell_of q 1)
  go_simp
 simp only[aG];refine tH 3 (.agg #[.int .i64 xf,.bool jf]) (λw' hS=>?_) hS0 ?_
 ·have q:=aQ hS cf2;have q0:=(cell_of q 0);have q1:=(cell_of q 1)
  go_simp
 simp only[aG];refine tH 4 (.agg #[.int .i64 xs,.bool js]) (λw' hS=>?_) hS0 ?_
 ·have q:=aQ hS cs2;have q0:=(cell_of q 0);have q1:=(cell_of q 1)
  go_simp
 simp only[aG];refine oH 2 (λK hK=>?_);go_simp;refine(gV xw iw V2).mono ?_;rintro e n22 ⟨rfl,hn22⟩;replace hS0:=hS0.trans (VK.grown hn22);refine hK.out _ _ hS0 ?_;clear hK K;replace hG2:=hG2.trans hn22;refine oH 5 (λK hK=>?_);go_simp;refine(gV xs js n22).mono ?_;rintro e n25 ⟨rfl,hn25⟩;replace hS0:=hS0.trans (VK.grown hn25);refine hK.out _ _ hS0 ?_;clear hK K;replace hG2:=hG2.trans hn25;refine oH 6 (λK hK=>?_);go_simp;replace hS0:=hS0.trans (VK.grown (ae9 _ (.cells #[.int .i64 xw,.bool (!iw),.int .i64 xf,.bool jf,.int .i64 xs,.bool (!js)] 214) none));refine hK.out _ _ hS0 ?_;clear hK K;replace hG2:=hG2.trans (ae9 _ (.cells #[.int .i64 xw,.bool (!iw),.int .i64 xf,.bool jf,.int .i64 xs,.bool (!js)] 214) none);have Ux:=Nk.grow hG2;have hsz2:=hG2.size;have aaM:=tJ.size;have PD:bg (n25.alloc (.cells #[.int .i64 xw,.bool (!iw),.int .i64 xf,.bool jf,.int .i64 xs,.bool (!js)] 214)) (.slice (some ⟨n25.heap.size,0,none⟩) 3 3) ([nl lw,lf,nl ls].map (vw Us)):=by
  have:=oJ n25 (xw,!iw) (xf,jf) (xs,!js);simpa[vw,nl,<-hxw,<-hiw,<-hxf,<-hif,<-hxs,<-his]using this
 refine oH 7 (λK hK=>?_);go_simp;refine(dN X n0 (n25.alloc (.cells #[.int .i64 xw,.bool (!iw),.int .i64 xf,.bool jf,.int .i64 xs,.bool (!js)] 214)) lb BU BS f dom Us zA (L++[[lw,lf,ls]]++[[lw,nl lf,nl ls]]) _ [nl lw,lf,nl ls] Ux (λk h=>by have:=hX k h;simp at hsz2 ⊢;omega) pJ PD (by simp) (by simp) (by simpa[nl]using ⟨hmw,hmf,hms⟩) (by simp at hsz2 ⊢;omega) Zp).mono ?_;rintro e z2 ⟨⟨r2,rfl⟩,fA,iV,iU,PO,Py⟩;refine hK.out _ _ (hS0.trans Py) (ai8 (by kernel_rfl) ?_ _);clear hK K;have abD:fA.length<=100000:=by rw[iU.len];simp;omega
 have JW:VK z1 z2:=(VK.grown (tJ.trans hG2)).trans Py;have Ug:Below n0 z1 z2:=((But.aB (tJ.trans hG2)).below (by omega) (λk _ e=>by cases e)).trans PO;have bw3:=aQ JW bw2;have bf3:=aQ JW bf2;have bs3:=aQ JW bs2;have aew:w.heap.size<=z2.heap.size:=ah2 (by omega) Ug.size;have vS:=hbl.trans Ug;have vK:=hvk.trans JW;clear hbl hvk;have hbl:=vS;have hvk:=vK;clear vS vK PO Py JW Ug bw2 bf2 bs2 jl Nk pJ cw2 cf2 cs2 dw2 df2 ds2 ew2 ef2 es2
 go_wp2_with fail
 obtain⟨V3,hV3⟩:∃V,z2.drew=V:=⟨_,rfl⟩;have J7:z2.grownBy V3 none:=by rw[<-hV3];exact⟨rfl,rfl,rfl,af0 _,λ_ _ _=>rfl⟩
 refine aj0 (S:=λW'=>VK V3 W') rfl ?_;have hS0:VK V3 V3:=VK.refl _;have hG3:V3.grownBy V3 none:=aj7 _ _;simp only[ag3,ag0,ah0,Nat.reduceAdd,af8,af7,ag5,ag9,ag7];change wpAnyH prog .any _ _ _ _ _ _ z2.drew;rw[hV3];clear hV3;have cw3:V3.heap[w.heap.size]?=some (.cells #[.int .i64 xw,.bool iw] 214 (0,0)):=(J7.block _ (ae8.1 bw3).1 (by simp)).trans bw3;have dw3:V3.cell? ⟨w.heap.size,0,none⟩=some (.int .i64 xw):=by rw[cell_of cw3];rfl
 have ew3:V3.cell? ⟨w.heap.size,1,none⟩=some (.bool iw):=by rw[cell_of cw3];rfl
 have cf3:V3.heap[w.heap.size+1]?=some (.cells #[.int .i64 xf,.bool jf] 214 (0,0)):=(J7.block _ (ae8.1 bf3).1 (by simp)).trans bf3;have df3:V3.cell? ⟨w.heap.size+1,0,none⟩=some (.int .i64 xf):=by rw[cell_of cf3];rfl
 have ef3:V3.cell? ⟨w.heap.size+1,1,none⟩=some (.bool jf):=by rw[cell_of cf3];rfl
 have cs3:V3.heap[w.heap.size+1+1]?=some (.cells #[.int .i64 xs,.bool js] 214 (0,0)):=(J7.block _ (ae8.1 bs3).1 (by simp)).trans bs3;have ds3:V3.cell? ⟨w.heap.size+1+1,0,none⟩=some (.int .i64 xs):=by rw[cell_of cs3];rfl
 have es3:V3.cell? ⟨w.heap.size+1+1,1,none⟩=some (.bool js):=by rw[cell_of cs3];rfl
 have abK:=iV.grow J7;refine tH 0 (.pointer (some ⟨lb,0,none⟩)) (λw' hS=>?_) hS0 ?_
 ·go_simp
 simp only[aG];refine tH 1 (.agg #[.int .i64 xw,.bool iw]) (λw' hS=>?_) hS0 ?_
 ·have q:=aQ hS cw3;have q0:=(cell_of q 0);have q1:=(cell_of q 1)
  go_simp
 simp only[aG];refine tH 3 (.agg #[.int .i64 xf,.bool jf]) (λw' hS=>?_) hS0 ?_
 ·have q:=aQ hS cf3;have q0:=(cell_of q 0);have q1:=(cell_of q 1)
  go_simp
 simp only[aG];refine tH 5 (.agg #[.int .i64 xs,.bool js]) (λw' hS=>?_) hS0 ?_
 ·have q:=aQ hS cs3;have q0:=(cell_of q 0);have q1:=(cell_of q 1)
  go_simp
 simp only[aG];refine oH 2 (λK hK=>?_);go_simp;refine(gV xw iw V3).mono ?_;rintro e n32 ⟨rfl,hn32⟩;replace hS0:=hS0.trans (VK.grown hn32);refine hK.out _ _ hS0 ?_;clear hK K;replace hG3:=hG3.trans hn32;refine oH 4 (λK hK=>?_);go_simp;refine(gV xf jf n32).mono ?_;rintro e n34 ⟨rfl,hn34⟩;replace hS0:=hS0.trans (VK.grown hn34);refine hK.out _ _ hS0 ?_;clear hK K;replace hG3:=hG3.trans hn34;refine oH 6 (λK hK=>?_);go_simp;replace hS0:=hS0.trans (VK.grown (ae9 _ (.cells #[.int .i64 xw,.bool (!iw),.int .i64 xf,.bool (!jf),.int .i64 xs,.bool js] 214) none));refine hK.out _ _ hS0 ?_;clear hK K;replace hG3:=hG3.trans (ae9 _ (.cells #[.int .i64 xw,.bool (!iw),.int .i64 xf,.bool (!jf),.int .i64 xs,.bool js] 214) none);have abG:=abK.grow hG3;have hsz3:=hG3.size;have aee:=J7.size;have acX:bg (n34.alloc (.cells #[.int .i64 xw,.bool (!iw),.int .i64 xf,.bool (!jf),.int .i64 xs,.bool js] 214)) (.slice (some ⟨n34.heap.size,0,none⟩) 3 3) ([nl lw,nl lf,ls].map (vw Us)):=by
  have:=oJ n34 (xw,!iw) (xf,!jf) (xs,js);simpa[vw,nl,<-hxw,<-hiw,<-hxf,<-hif,<-hxs,<-his]using this
 refine oH 7 (λK hK=>?_);go_simp;refine(dN X n0 (n34.alloc (.cells #[.int .i64 xw,.bool (!iw),.int .i64 xf,.bool (!jf),.int .i64 xs,.bool js] 214)) lb BU BS f dom Us fA (L++[[lw,lf,ls]]++[[lw,nl lf,nl ls]]++[[nl lw,lf,nl ls]]) _ [nl lw,nl lf,ls] abG (λk h=>by have:=hX k h;simp at hsz3 ⊢;omega) iU acX (by simp) (by simp) (by simpa[nl]using ⟨hmw,hmf,hms⟩) (by simp at hsz3 ⊢;omega) abD).mono ?_;rintro e z3 ⟨⟨r3,rfl⟩,YH,abJ,Zu,wX,pG⟩;refine hK.out _ _ (hS0.trans pG) (ai8 (by kernel_rfl) ?_ _);clear hK K;have ae6:YH.length<=100000:=by rw[Zu.len];simp;omega
 have acR:VK z2 z3:=(VK.grown (J7.trans hG3)).trans pG;have adf:Below n0 z2 z3:=((But.aB (J7.trans hG3)).below (by omega) (λk _ e=>by cases e)).trans wX;have Q1:=aj abJ;have Q2:=aj Zu;have Q3:=aj (hbl.trans adf);have Q4:=aj (hvk.trans acR);clear abJ Zu hbl hvk
 go_wp2_with fail
 go_end0
 refine⟨⟨_,rfl⟩,_,ah Q1,?_,ah Q3,ah Q4⟩;have h:=ah Q2;simpa[qR]using h
end Go.Proofs.YthcppbmkacbbiaaGreat
