import Derived.Test.YthcppbmkacbbiabGreatWBK
set_option linter.unusedSimpArgs false
set_option maxHeartbeats 4000000
set_option maxRecDepth 100000
namespace Go.Proofs.YthcppbmkacbbiabGreat
open Go.Proofs.Tryz
open Go.RowKit Go.Maps Go.WideMaps
open aB (Key put)
attribute [local go_sem] Oper.semAt_some
structure su(w0:World)(f:Nat->Nat)(nt nc:Nat)(o1 o5 o7:Option Nat)(W:World):Prop where
 below:Below w0.heap.size w0 W
 i1:∀b,o1=some b->JG w0 f nt b W
 i5:∀H,o5=some H->w0.heap.size<=H/\W.heap[H]?=some (.cells (madeCells #[.bool false] nc) 4)
 i7:∀X,o7=some X->w0.heap.size<=X/\W.heap[X]?=some (.cells #[.map none,.slice none 0 0] 56)
theorem su.grow{w0:World}{f:Nat->Nat}{nt nc:Nat}{o1 o5 o7:Option Nat}{W W':World}(h:su w0 f nt nc o1 o5 o7 W)(hb:Below W.heap.size W W'):su w0 f nt nc o1 o5 o7 W' where
 below:=h.below.trans (hb.mono h.below.size)
 i1:=λb e=>(h.i1 b e).grow (bI hb)
 i5:=λH e=>⟨(h.i5 H e).1,(hb.block H (ad3.1 (h.i5 H e).2).1).trans (h.i5 H e).2⟩
 i7:=λX e=>⟨(h.i7 X e).1,(hb.block X (ad3.1 (h.i7 X e).2).1).trans (h.i7 X e).2⟩
theorem below_alloc1(W:World)(o:Obj):Below W.heap.size W (W.alloc o):=(ag6 _ _).alloc (ad5 _) _
theorem su.s7{w0:World}{f:Nat->Nat}{nt nc:Nat}{o1 o5:Option Nat}{W:World}(h:su w0 f nt nc o1 o5 none W):su w0 f nt nc o1 o5 (some W.heap.size) (W.alloc (.cells #[.map none,.slice none 0 0] 56)):=by
 have h2:=h.grow (below_alloc1 W (.cells #[.map none,.slice none 0 0] 56));exact⟨h2.below,h2.i1,h2.i5,λX e=>by cases e;exact⟨h.below.size,ae9 _ _⟩⟩
theorem su.s5{w0:World}{f:Nat->Nat}{nt nc:Nat}{o1 o7:Option Nat}{W:World}(h:su w0 f nt nc o1 none o7 W):su w0 f nt nc o1 (some W.heap.size) o7 (W.alloc (.cells (madeCells #[.bool false] nc) 4)):=by
 have h2:=h.grow (below_alloc1 W (.cells (madeCells #[.bool false] nc) 4));exact⟨h2.below,h2.i1,λX e=>(by cases e;exact⟨h.below.size,ae9 _ _⟩),h2.i7⟩
theorem su.s1{w0:World}{f:Nat->Nat}{nt nc b:Nat}{o5 o7:Option Nat}{W W':World}(h:su w0 f nt nc none o5 o7 W)(hJ:JG W f nt b W'):su w0 f nt nc (some b) o5 o7 W':=by
 have h2:=h.grow hJ.below;exact⟨h2.below,λc e=>(by cases e;exact⟨hJ.m,hJ.roots,h2.below,af7 h.below.size hJ.lo⟩),h2.i5,h2.i7⟩
theorem gG.obj{W:World}{b n c:Nat}{f:Nat->Nat}(h:gG W b f n c):∃o:Obj,W.heap[b]?=some o/\∀c t fz,o≠.cells c t fz:=by
 obtain⟨g,d,⟨D,nn,_,⟨es,clock,h1,_⟩,_⟩,_⟩:=h;exact⟨_,h1,λ_ _ _ e=>by cases e⟩
theorem JG.lZ{w W:World}{f:Nat->Nat}{n b:Nat}(h:JG w f n b W){k:Nat}{cur:Array Value}{t:TypeId}{x:Nat×Nat}(hk:W.heap[k]?=some (.cells cur t x)):b≠k:=λe=>by
 obtain⟨c,h1,_⟩:=h.m;obtain⟨o,h2,h3⟩:=h1.obj;subst e;rw[hk]at h2;exact h3 _ _ _ (ak1 h2).symm
theorem JG.setCell{w W:World}{f:Nat->Nat}{n b:Nat}(h:JG w f n b W){p:Addr}(hp:w.heap.size<=p.block)(hb:b≠p.block)(v:Value):JG w f n b (W.setCell p v):=by
 obtain⟨c,h1,h2⟩:=h.m;exact⟨⟨c,h1.kept (af4 _ _ _ _ hb),h2⟩,h.roots,h.below.setCell hp _,h.lo⟩
structure ST(w0:World)(f:Nat->Nat)(nt b H X:Nat)(hl:List Bool)(W:World):Prop where
 j:JG w0 f nt b W
 lh:w0.heap.size<=H
 lx:w0.heap.size<=X
 x:W.heap[X]?=some (.cells #[.map (some b),.slice (some ⟨H,0,none⟩) hl.length hl.length] 56)
 h:W.heap[H]?=some (.cells (hl.map Value.bool).toArray 4)
theorem Ug(nc:Nat):madeCells #[.bool false] nc=((List.replicate nc false).map Value.bool).toArray:=by
 apply Array.ext_getElem?;intro i;by_cases hi:i<nc
 ·simp[madeCells,hi,Nat.mod_one]
 ·simp[madeCells,hi]
theorem xZ{W:World}{X t:Nat}{p q u v:Value}(h:W.heap[X]?=some (.cells #[p,q] t)):((W.setCell ⟨X,0,none⟩ u).setCell ⟨X,1,none⟩ v).heap[X]?=some (.cells #[u,v] t):=by
 have h1:(W.setCell ⟨X,0,none⟩ u).heap[X]?=some (.cells #[u,q] t):=by rw[heap_setCell_same h];rfl
 rw[heap_setCell_same h1];rfl
theorem su.wV{w0:World}{f:Nat->Nat}{nt nc b H X:Nat}{W:World}(h:su w0 f nt nc (some b) (some H) (some X) W):ST w0 f nt b H X (List.replicate nc false) ((W.setCell ⟨X,0,none⟩ (.map (some b))).setCell ⟨X,1,none⟩ (.slice (some ⟨H,0,none⟩) nc nc)):=by
 obtain⟨lx,hx⟩:=h.i7 X rfl;obtain⟨lh,hh⟩:=h.i5 H rfl;have hj:=h.i1 b rfl;have n1:H≠X:=λe=>by
  subst e;rw[hx]at hh;have h1:=ak1 hh;injection h1 with _ h2 _
  exact absurd h2 (by decide)
 refine⟨(hj.setCell (p:=⟨X,0,none⟩) lx (hj.lZ hx) _).setCell (p:=⟨X,1,none⟩) lx (hj.lZ hx) _,lh,lx,?_,?_⟩
 ·rw[List.length_replicate];exact xZ hx
 ·rw[<-Ug nc];exact((af4 _ _ _ _ n1).trans (af4 _ _ _ _ n1)).trans hh
theorem ST.set{w0:World}{f:Nat->Nat}{nt b H X:Nat}{hl:List Bool}{W:World}(h:ST w0 f nt b H X hl W)(c:Nat)(i:Bool):ST w0 f nt b H X (hl.set c i) (W.setCell ⟨H,c,none⟩ (.bool i)):=by
 have n1:X≠H:=λe=>by
  have h1:=h.x;rw[e,h.h]at h1;have h2:=ak1 h1;injection h2 with _ h3 _
  exact absurd h3 (by decide)
 refine⟨h.j.setCell (p:=⟨H,c,none⟩) h.lh (h.j.lZ h.h) _,h.lh,h.lx,?_,?_⟩
 ·rw[List.length_set,af4 _ _ _ _ n1];exact h.x
 ·rw[heap_setCell_same h.h]
  congr 2
  simp[List.map_set]
theorem ST.rows{w0:World}{f:Nat->Nat}{nt b H X:Nat}{hl:List Bool}{W:World}(h:ST w0 f nt b H X hl W):bY W H hl:=by
 refine⟨(ad3.1 h.h).1,λi hi=>?_⟩;rw[cell_of h.h];simp[hi]
theorem ST.grow{w0:World}{f:Nat->Nat}{nt b H X:Nat}{hl:List Bool}{W W':World}(h:ST w0 f nt b H X hl W)(hg:W.grownBy W' none):ST w0 f nt b H X hl W':=
 ⟨h.j.grow hg,h.lh,h.lx,(hg.block X (ad3.1 h.x).1 (by simp)).trans h.x,(hg.block H (ad3.1 h.h).1 (by simp)).trans h.h⟩
theorem nO(GT GC GP nt nc np:Nat)(v:Value)(ss:List jH)(w:World)(h7:nt<=7)(h4:nc<=4)(hs:fV w v ss)(hl:ss.length<=1000)(hok:∀s∈ss,(s.2.2.1=61->s.2.2.2.1<nt/\s.2.2.2.2<nt)/\(s.2.2.1≠61->s.2.2.2.1<nc)) :
  Calls prog 62 #[fv GT GC GP nt nc np,v] w λe w'=>∃b H,e=.returned (sv b H nc)/\w.heap.size<=H/\JG w (aX (ss.map dD)) nt b w'/\bY w' H (kQ ss nc):=by
 obtain⟨vp,vc,rfl,hvc,hvs⟩:=hs.cells;unfold fv
 go_enter func62,ntmps62
 go_wp2_with fail
 obtain⟨w0,hw0⟩:∃w0,(w.alloc (.cells #[.slice (some ⟨GT,0,none⟩) nt nt,.slice (some ⟨GC,0,none⟩) nc nc,.slice (some ⟨GP,0,none⟩) np np] 46)).alloc (.cells #[.map none,.slice none 0 0] 56)=w0:=⟨_,rfl⟩;have hb0:Below w.heap.size w w0:=by rw[<-hw0];exact((ag6 _ w).alloc (ad5 _) _).alloc (by simp) _
 have hz0:w0.heap.size=w.heap.size+2:=by rw[<-hw0];simp
 have hk1:w0.cell? ⟨w.heap.size,1,none⟩=some (.slice (some ⟨GC,0,none⟩) nc nc):=by rw[<-hw0];simp[go_sem]
 have hr4:w0.heap[w.heap.size+1]?=some (.cells #[.map none,.slice none 0 0] 56):=by rw[<-hw0];have:=ae9 (w.alloc (.cells #[.slice (some ⟨GT,0,none⟩) nt nt,.slice (some ⟨GC,0,none⟩) nc nc,.slice (some ⟨GP,0,none⟩) np np] 46)) (.cells #[.map none,.slice none 0 0] 56);simpa using this
 have HS:Hid (∀W':World,Below w0.heap.size w0 W'->W'.cell? ⟨w.heap.size,1,none⟩=some (.slice (some ⟨GC,0,none⟩) nc nc)):=λW' hb=>(hb.cell (p:=⟨w.heap.size,1,none⟩) (by show w.heap.size<w0.heap.size;omega)).trans hk1;have HMK:Hid (∀W:World,(Instr.makeSlice 54 (.int .i64 (nc:Int)) (.int .i64 (nc:Int))).run prog W=.ok (.slice (some ⟨W.heap.size,0,none⟩) nc nc) (W.alloc (.cells (madeCells #[.bool false] nc) 4))):=λW=>
  run_make_row' (P:=prog) 54 4 (.bool false) 1 underlying54 Fv rfl .i64 .i64 nc (by omega) (by omega) W
 have HJN:Hid (∀W:World,Below w0.heap.size w0 W->Calls prog 120 #[.slice vp ss.length vc] W λe W'=>∃b,e=.returned (.map (some b))/\JG W (aX (ss.map dD)) nt b W'):=λW hb=>
  wG W _ ss nt (fV.below hs (hb0.trans (hb.mono (by omega)))) (by omega) hl (λs h1 h2=>(hok s h1).1 h2)
 have hI:su w0 (aX (ss.map dD)) nt nc none none none w0:=⟨ag6 _ _,λ_ e=>(by cases e),λ_ e=>(by cases e),λ_ e=>(by cases e)⟩;rw[hw0];have HVS:=aj hvs;have HOK:=aj hok;clear hw0 hvs hs hok hk1;refine Code.wp_mono (Q:=λe a W'=>e=.normal/\∃(b H X:Nat),a={tmps:=#[.agg #[.slice (some ⟨GT,0,none⟩) nt nt,.slice (some ⟨GC,0,none⟩) nc nc,.slice (some ⟨GP,0,none⟩) np np],.slice vp ss.length vc,.pointer (some ⟨w.heap.size,0,none⟩),undef,.pointer (some ⟨w.heap.size+1,0,none⟩),.pointer (some ⟨X,0,none⟩),undef,undef,.slice vp ss.length vc,.map (some b),.pointer (some ⟨w.heap.size,1,none⟩),.slice (some ⟨GC,0,none⟩) nc nc,.int .i64 nc,.slice (some ⟨H,0,none⟩) nc nc,.agg #[.map (some b),.slice (some ⟨H,0,none⟩) nc nc],undef,undef,undef,undef,undef,undef,undef,undef,undef,undef,undef,undef,undef,undef,undef,undef,undef,undef,undef,undef,undef],defers:=[]}/\ST w0 (aX (ss.map dD)) nt b H X (List.replicate nc false) W') ?_ ?_
 rotate_left
 ·refine ah0 (S:=λW'=>W'.cell? ⟨w.heap.size,1,none⟩=some (.slice (some ⟨GC,0,none⟩) nc nc)) rfl ?_;simp only[ae2,ae1,ae8,Nat.reduceAdd,ae0,ad9,ae4,ae7,ae6];have hgd:Below w0.heap.size w0 w0.drew:=(ag6 _ _).drew;have hI:=hI.grow hgd;change wpAnyH prog .any _ _ _ _ _ _ w0.drew;generalize w0.drew=W at hI ⊢;clear hgd;have hS0:=ah HS _ hI.below;refine tH 0 (.slice vp ss.length vc) (λw' hS=>?_) hS0 ?_
  ·go_simp
  simp only[aC];refine tH 2 (.pointer (some ⟨w.heap.size,1,none⟩)) (λw' hS=>?_) hS0 ?_
  ·go_simp
  simp only[aC];refine tH 3 (.slice (some ⟨GC,0,none⟩) nc nc) (λw' hS=>?_) hS0 ?_
  ·go_simp
  simp only[aC];refine tH 4 (.int .i64 nc) (λw' hS=>?_) hS0 ?_
  ·go_simp
  simp only[aC];clear hS0;refine a3 1 5 7 ?_ ?_ ?_
  ·refine oO (λK hK=>?_);have hjn:=ah HJN W hI.below;go_simp;refine hjn.mono ?_;rintro e W2 ⟨b,rfl,hJ⟩;have hI2:=hI.s1 hJ;refine hK.out _ _ ⟨ah HS _ hI2.below,?_⟩;clear hK K hjn hJ hI W
   rename World=>W
   have hI:=hI2;clear hI2;refine a2 5 7 ?_ ?_
   ·refine oO (λK hK=>?_);have hI2:=hI.s5;have hmk:=ah HMK W;go_simp;refine hK.out _ _ ⟨ah HS _ hI2.below,?_⟩;clear hK K;generalize W.alloc (.cells (madeCells #[.bool false] nc) 4)=W2 at hI2 ⊢;clear hmk;generalize W.heap.size=H at hI2 ⊢;clear hI W
    rename World=>W
    have hI:=hI2;clear hI2;refine tH 6 (.agg #[.map (some b),.slice (some ⟨H,0,none⟩) nc nc]) (λw' hS=>?_) (ah HS _ hI.below) ?_
    ·go_simp
    simp only[aC];refine oH 7 (λK hK=>?_);have hI2:=hI.s7;go_simp;refine hK.out _ _ (ah HS _ hI2.below) ?_;clear hK K;generalize W.alloc (.cells #[.map none,.slice none 0 0] 56)=W2 at hI2 ⊢;generalize W.heap.size=X at hI2 ⊢;clear hI W
    rename World=>W
    have hI:=hI2;clear hI2;have cx:=(hI.i7 X rfl).2;have cx0:W.cell? ⟨X,0,none⟩=some (.map none):=(by rw[cell_of cx];rfl);have cx1:W.cell? ⟨X,1,none⟩=some (.slice none 0 0):=(by rw[cell_of cx];rfl);have fx0:W.frozen? ⟨X,0,none⟩=false:=(by simp[World.frozen?,cx]);have fx1:W.frozen? ⟨X,1,none⟩=false:=(by simp[World.frozen?,cx]);refine oH 8 (λK hK=>?_);go_simp;refine hK.out _ _ (ah HS _ hI.wV.j.below) (ag5 (by kernel_rfl) ⟨rfl,b,H,X,rfl,hI.wV⟩ _)
   ·refine oO (λK hK=>?_);have hI2:=hI.s7;go_simp;refine hK.out _ _ ⟨ah HS _ hI2.below,?_⟩;clear hK K;generalize W.alloc (.cells #[.map none,.slice none 0 0] 56)=W2 at hI2 ⊢;generalize W.heap.size=X at hI2 ⊢;clear hI W
    rename World=>W
    have hI:=hI2;clear hI2;refine oH 5 (λK hK=>?_);have hI2:=hI.s5;have hmk:=ah HMK W;go_simp;refine hK.out _ _ (ah HS _ hI2.below) ?_;clear hK K;generalize W.alloc (.cells (madeCells #[.bool false] nc) 4)=W2 at hI2 ⊢;clear hmk;generalize W.heap.size=H at hI2 ⊢;clear hI W
    rename World=>W
    have hI:=hI2;clear hI2;refine tH 6 (.agg #[.map (some b),.slice (some ⟨H,0,none⟩) nc nc]) (λw' hS=>?_) (ah HS _ hI.below) ?_
    ·go_simp
    simp only[aC];have cx:=(hI.i7 X rfl).2;have cx0:W.cell? ⟨X,0,none⟩=some (.map none):=(by rw[cell_of cx];rfl);have cx1:W.cell? ⟨X,1,none⟩=some (.slice none 0 0):=(by rw[cell_of cx];rfl);have fx0:W.frozen? ⟨X,0,none⟩=false:=(by simp[World.frozen?,cx]);have fx1:W.frozen? ⟨X,1,none⟩=false:=(by simp[World.frozen?,cx]);refine oH 8 (λK hK=>?_);go_simp;refine hK.out _ _ (ah HS _ hI.wV.j.below) (ag5 (by kernel_rfl) ⟨rfl,b,H,X,rfl,hI.wV⟩ _)
  ·refine oO (λK hK=>?_);have hI2:=hI.s5;have hmk:=ah HMK W;go_simp;refine hK.out _ _ ⟨ah HS _ hI2.below,?_⟩;clear hK K;generalize W.alloc (.cells (madeCells #[.bool false] nc) 4)=W2 at hI2 ⊢;clear hmk;generalize W.heap.size=H at hI2 ⊢;clear hI W
   rename World=>W
   have hI:=hI2;clear hI2;refine a2 1 7 ?_ ?_
   ·refine oO (λK hK=>?_);have hjn:=ah HJN W hI.below;go_simp;refine hjn.mono ?_;rintro e W2 ⟨b,rfl,hJ⟩;have hI2:=hI.s1 hJ;refine hK.out _ _ ⟨ah HS _ hI2.below,?_⟩;clear hK K hjn hJ hI W
    rename World=>W
    have hI:=hI2;clear hI2;refine tH 6 (.agg #[.map (some b),.slice (some ⟨H,0,none⟩) nc nc]) (λw' hS=>?_) (ah HS _ hI.below) ?_
    ·go_simp
    simp only[aC];refine oH 7 (λK hK=>?_);have hI2:=hI.s7;go_simp;refine hK.out _ _ (ah HS _ hI2.below) ?_;clear hK K;generalize W.alloc (.cells #[.map none,.slice none 0 0] 56)=W2 at hI2 ⊢;generalize W.heap.size=X at hI2 ⊢;clear hI W
    rename World=>W
    have hI:=hI2;clear hI2;have cx:=(hI.i7 X rfl).2;have cx0:W.cell? ⟨X,0,none⟩=some (.map none):=(by rw[cell_of cx];rfl);have cx1:W.cell? ⟨X,1,none⟩=some (.slice none 0 0):=(by rw[cell_of cx];rfl);have fx0:W.frozen? ⟨X,0,none⟩=false:=(by simp[World.frozen?,cx]);have fx1:W.frozen? ⟨X,1,none⟩=false:=(by simp[World.frozen?,cx]);refine oH 8 (λK hK=>?_);go_simp;refine hK.out _ _ (ah HS _ hI.wV.j.below) (ag5 (by kernel_rfl) ⟨rfl,b,H,X,rfl,hI.wV⟩ _)
   ·refine oO (λK hK=>?_);have hI2:=hI.s7;go_simp;refine hK.out _ _ ⟨ah HS _ hI2.below,?_⟩;clear hK K;generalize W.alloc (.cells #[.map none,.slice none 0 0] 56)=W2 at hI2 ⊢;generalize W.heap.size=X at hI2 ⊢;clear hI W
    rename World=>W
    have hI:=hI2;clear hI2;refine oH 1 (λK hK=>?_);have hjn:=ah HJN W hI.below;go_simp;refine hjn.mono ?_;rintro e W2 ⟨b,rfl,hJ⟩;have hI2:=hI.s1 hJ;refine hK.out _ _ (ah HS _ hI2.below) ?_;clear hK K hjn hJ hI W
    rename World=>W
    have hI:=hI2;clear hI2;refine tH 6 (.agg #[.map (some b),.slice (some ⟨H,0,none⟩) nc nc]) (λw' hS=>?_) (ah HS _ hI.below) ?_
    ·go_simp
    simp only[aC];have cx:=(hI.i7 X rfl).2;have cx0:W.cell? ⟨X,0,none⟩=some (.map none):=(by rw[cell_of cx];rfl);have cx1:W.cell? ⟨X,1,none⟩=some (.slice none 0 0):=(by rw[cell_of cx];rfl);have fx0:W.frozen? ⟨X,0,none⟩=false:=(by simp[World.frozen?,cx]);have fx1:W.frozen? ⟨X,1,none⟩=false:=(by simp[World.frozen?,cx]);refine oH 8 (λK hK=>?_);go_simp;refine hK.out _ _ (ah HS _ hI.wV.j.below) (ag5 (by kernel_rfl) ⟨rfl,b,H,X,rfl,hI.wV⟩ _)
  ·refine oO (λK hK=>?_);have hI2:=hI.s7;go_simp;refine hK.out _ _ ⟨ah HS _ hI2.below,?_⟩;clear hK K;generalize W.alloc (.cells #[.map none,.slice none 0 0] 56)=W2 at hI2 ⊢;generalize W.heap.size=X at hI2 ⊢;clear hI W
   rename World=>W
   have hI:=hI2;clear hI2;refine a2 1 5 ?_ ?_
   ·refine oO (λK hK=>?_);have hjn:=ah HJN W hI.below;go_simp;refine hjn.mono ?_;rintro e W2 ⟨b,rfl,hJ⟩;have hI2:=hI.s1 hJ;refine hK.out _ _ ⟨ah HS _ hI2.below,?_⟩;clear hK K hjn hJ hI W
    rename World=>W
    have hI:=hI2;clear hI2;refine oH 5 (λK hK=>?_);have hI2:=hI.s5;have hmk:=ah HMK W;go_simp;refine hK.out _ _ (ah HS _ hI2.below) ?_;clear hK K;generalize W.alloc (.cells (madeCells #[.bool false] nc) 4)=W2 at hI2 ⊢;clear hmk;generalize W.heap.size=H at hI2 ⊢;clear hI W
    rename World=>W
    have hI:=hI2;clear hI2;refine tH 6 (.agg #[.map (some b),.slice (some ⟨H,0,none⟩) nc nc]) (λw' hS=>?_) (ah HS _ hI.below) ?_
    ·go_simp
    simp only[aC];have cx:=(hI.i7 X rfl).2;have cx0:W.cell? ⟨X,0,none⟩=some (.map none):=(by rw[cell_of cx];rfl);have cx1:W.cell? ⟨X,1,none⟩=some (.slice none 0 0):=(by rw[cell_of cx];rfl);have fx0:W.frozen? ⟨X,0,none⟩=false:=(by simp[World.frozen?,cx]);have fx1:W.frozen? ⟨X,1,none⟩=false:=(by simp[World.frozen?,cx]);refine oH 8 (λK hK=>?_);go_simp;refine hK.out _ _ (ah HS _ hI.wV.j.below) (ag5 (by kernel_rfl) ⟨rfl,b,H,X,rfl,hI.wV⟩ _)
   ·refine oO (λK hK=>?_);have hI2:=hI.s5;have hmk:=ah HMK W;go_simp;refine hK.out _ _ ⟨ah HS _ hI2.below,?_⟩;clear hK K;generalize W.alloc (.cells (madeCells #[.bool false] nc) 4)=W2 at hI2 ⊢;clear hmk;generalize W.heap.size=H at hI2 ⊢;clear hI W
    rename World=>W
    have hI:=hI2;clear hI2;refine oH 1 (λK hK=>?_);have hjn:=ah HJN W hI.below;go_simp;refine hjn.mono ?_;rintro e W2 ⟨b,rfl,hJ⟩;have hI2:=hI.s1 hJ;refine hK.out _ _ (ah HS _ hI2.below) ?_;clear hK K hjn hJ hI W
    rename World=>W
    have hI:=hI2;clear hI2;refine tH 6 (.agg #[.map (some b),.slice (some ⟨H,0,none⟩) nc nc]) (λw' hS=>?_) (ah HS _ hI.below) ?_
    ·go_simp
    simp only[aC];have cx:=(hI.i7 X rfl).2;have cx0:W.cell? ⟨X,0,none⟩=some (.map none):=(by rw[cell_of cx];rfl);have cx1:W.cell? ⟨X,1,none⟩=some (.slice none 0 0):=(by rw[cell_of cx];rfl);have fx0:W.frozen? ⟨X,0,none⟩=false:=(by simp[World.frozen?,cx]);have fx1:W.frozen? ⟨X,1,none⟩=false:=(by simp[World.frozen?,cx]);refine oH 8 (λK hK=>?_);go_simp;refine hK.out _ _ (ah HS _ hI.wV.j.below) (ag5 (by kernel_rfl) ⟨rfl,b,H,X,rfl,hI.wV⟩ _)
 ·rintro e a W ⟨rfl,b,H,X,rfl,hL⟩;dsimp only;have HL:=aj hL;clear hL hI
  go_wp2_with fail
  go_loopw [17] (λi wr=>∃k:Nat,k<=ss.length/\i=.int .i64 k/\ST w0 (aX (ss.map dD)) nt b H X (kQ (ss.take k) nc) wr) (λi _=>ss.length-(intOf i).toNat)
  case atStart=>exact⟨0,ah2 _,rfl,ah HL⟩
  case round=>
   obtain⟨k,hk,rfl,hST⟩:=hrel;have hlen:=yT (ss.take k) nc;by_cases hlt:k<ss.length
   ·have hbd:(k:Int)<(ss.length:Int):=(by omega);have hne:ss≠[]:=(by intro e;rw[e]at hlt;simp at hlt);obtain⟨g,off,rfl,hgl,hcs⟩:=ah HVS hne;obtain⟨d0,d1,d2,d3,d4⟩:=hcs wr (hb0.trans (hST.j.below.mono (by omega))) k hlt;have hok:=ah HOK ss[k] (ad8 hlt);have htk:=Ns (n:=nc) hlt;have eG:=aj htk;have HST:=aj hST;clear htk hST hcs;generalize ss[k]=s at d0 d1 d2 d3 d4 hok eG;obtain⟨sx,si,sc,s1,s2⟩:=s;simp only at d0 d1 d2 d3 d4 hok eG;generalize kQ (ss.take k) nc=hl0 at eG HST hlen;have hga:wr.grownBy (wr.alloc (.cells #[.int .i64 sx,.bool si,.int .u8 sc,.int .i64 s1,.int .i64 s2] 210)) none:=ad4 _ _ none;have IB:=(ah HST).grow hga;have hx1:(wr.alloc (.cells #[.int .i64 sx,.bool si,.int .u8 sc,.int .i64 s1,.int .i64 s2] 210)).cell? ⟨X,1,none⟩=some (.slice (some ⟨H,0,none⟩) hl0.length hl0.length):=(by rw[cell_of IB.x];rfl);rw[hlen]at hx1;by_cases hc:sc=61
    ·subst hc;rw[af6 rfl]at eG;have XW:=aj IB;clear IB hga hx1
     go_wp2_with fail
     refine⟨⟨k+1,hlt,by go_num,?_⟩,by simp[intOf];omega⟩;rw[ah eG];exact ah XW
    ·have hs1:=hok.2 hc;rw[af2 hc]at eG;have aaH:(s1:Int)<(nc:Int):=(by omega);have hfz:(wr.alloc (.cells #[.int .i64 sx,.bool si,.int .u8 sc,.int .i64 s1,.int .i64 s2] 210)).frozen? ⟨H,s1,none⟩=false:=(by simp only[World.frozen?,IB.h];simp);have hch:∃bv,(wr.alloc (.cells #[.int .i64 sx,.bool si,.int .u8 sc,.int .i64 s1,.int .i64 s2] 210)).cell? ⟨H,s1,none⟩=some (.bool bv):=by
      rw[cell_of IB.h];have:s1<hl0.length:=(by omega);exact⟨hl0[s1],by simp[this]⟩
     obtain⟨bv,hch⟩:=hch;have XW:=aj (IB.set s1 si);clear IB hga
     go_wp2_with fail
     refine⟨⟨k+1,hlt,by go_num,?_⟩,by simp[intOf];omega⟩;rw[ah eG];exact ah XW
   ·have hkk:k=ss.length:=(by omega);have hbd:¬(k:Int)<(ss.length:Int):=(by omega);rw[hkk,ai7]at hST hlen;have hx0:wr.cell? ⟨X,0,none⟩=some (.map (some b)):=(by rw[cell_of hST.x];rfl);have hx1:wr.cell? ⟨X,1,none⟩=some (.slice (some ⟨H,0,none⟩) (kQ ss nc).length (kQ ss nc).length):=(by rw[cell_of hST.x];rfl);rw[hlen]at hx1;have h4b:=(hST.j.below.block (w.heap.size+1) (by omega)).trans hr4;have r0:wr.cell? ⟨w.heap.size+1,0,none⟩=some (.map none):=(by rw[cell_of h4b];rfl);have r1:wr.cell? ⟨w.heap.size+1,1,none⟩=some (.slice none 0 0):=(by rw[cell_of h4b];rfl);have f0:wr.frozen? ⟨w.heap.size+1,0,none⟩=false:=(by simp[World.frozen?,h4b]);have f1:wr.frozen? ⟨w.heap.size+1,1,none⟩=false:=(by simp[World.frozen?,h4b]);have HST:=aj hST;clear hST hkk
    go_wp2_with fail
    obtain⟨wz,hwz⟩:∃wz,(wr.setCell ⟨w.heap.size+1,0,none⟩ (.map (some b))).setCell ⟨w.heap.size+1,1,none⟩ (.slice (some ⟨H,0,none⟩) nc nc)=wz:=⟨_,rfl⟩;have hz4:wz.heap[w.heap.size+1]?=some (.cells #[.map (some b),.slice (some ⟨H,0,none⟩) nc nc] 56):=(by rw[<-hwz];exact xZ h4b);have z0:wz.cell? ⟨w.heap.size+1,0,none⟩=some (.map (some b)):=(by rw[cell_of hz4];rfl);have z1:wz.cell? ⟨w.heap.size+1,1,none⟩=some (.slice (some ⟨H,0,none⟩) nc nc):=(by rw[cell_of hz4];rfl);have hlo:=(ah HST).lh;have hkeep:∀j,j≠w.heap.size+1->wz.heap[j]?=wr.heap[j]?:=λj hj=>by rw[<-hwz];exact(af4 _ _ _ _ hj).trans (af4 _ _ _ _ hj)
    have hbz:Below w.heap.size w wz:=by
     rw[<-hwz];exact((hb0.trans ((ah HST).j.below.mono (by omega))).setCell (p:=⟨w.heap.size+1,0,none⟩) (by show w.heap.size<=w.heap.size+1;omega) _).setCell (p:=⟨w.heap.size+1,1,none⟩) (by show w.heap.size<=w.heap.size+1;omega) _
    rw[hwz];refine ag3 (v:=sv b H nc) (by simp[results,results62,go_sem,z0,z1,sv]) rfl ⟨b,H,rfl,by omega,⟨?_,(ah HST).j.roots,hbz,by have:=(ah HST).j.lo;omega⟩,?_⟩
    ·obtain⟨c,h1,h2⟩:=(ah HST).j.m;exact⟨c,h1.kept (hkeep b (by have:=(ah HST).j.lo;omega)),h2⟩
    ·obtain⟨h1,h2⟩:=(ah HST).rows;refine⟨?_,λi hi=>?_⟩
     ·have:=hkeep H (by omega);have h3:=(ah HST).h;rw[<-this]at h3;exact(ad3.1 h3).1
     ·exact(ae5 (hkeep H (by omega))).trans (h2 i hi)
end Go.Proofs.YthcppbmkacbbiabGreat
