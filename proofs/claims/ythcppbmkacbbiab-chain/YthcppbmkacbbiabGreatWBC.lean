import Derived.Test.YthcppbmkacbbiabGreatWBA
set_option linter.unusedSimpArgs false
set_option maxHeartbeats 2000000
set_option maxRecDepth 100000
namespace Go.Proofs.YthcppbmkacbbiabGreat
open Go.Proofs.Tryz
open Go.RowKit Go.Maps Go.WideMaps
open aB (Key put dJ oJ jn au dY aQ)
attribute [local go_sem] Oper.semAt_some
def hlo(s:ByteArray)(nt nc:Nat):List Bool:=(List.range nc).map λc=>s.data.toList.getD (nt+1+c) 0==49
structure KC(w0:World)(keys:List UInt8)(nc b H X:Nat)(W:World):Prop where
 below:Below w0.heap.size w0 W
 lb:w0.heap.size<=b
 lh:w0.heap.size<=H
 lx:w0.heap.size<=X
 m:dN W b (fi keys) keys.length 100
 h:W.heap[H]?=some (.cells (madeCells #[.bool false] nc) 4)
 x:W.heap[X]?=some (.cells #[.map (some b),.slice (some ⟨H,0,none⟩) nc nc] 56)
theorem dN.obj{W:World}{b n c:Nat}{f:Nat->Nat}(h:dN W b f n c):∃o:Obj,W.heap[b]?=some o/\∀c t fz,o≠.cells c t fz:=by
 obtain⟨D,nn,_,⟨es,clock,h1,_⟩,_⟩:=h;exact⟨_,h1,λ_ _ _ e=>by cases e⟩
theorem Tz{W:World}{X t:Nat}{p q u v:Value}(h:W.heap[X]?=some (.cells #[p,q] t)):((W.setCell ⟨X,0,none⟩ u).setCell ⟨X,1,none⟩ v).heap[X]?=some (.cells #[u,v] t):=by
 have h1:(W.setCell ⟨X,0,none⟩ u).heap[X]?=some (.cells #[u,q] t):=by simp[World.setCell,ap0,h]
 generalize W.setCell ⟨X,0,none⟩ u=W1 at h1 ⊢;simp[World.setCell,ap0,h1]
structure L5(w0:World)(keys:List UInt8)(nc b H X k:Nat)(hb:Nat->Bool)(W:World):Prop where
 below:Below w0.heap.size w0 W
 lb:w0.heap.size<=b
 lh:w0.heap.size<=H
 lx:w0.heap.size<=X
 m:dN W b (fi keys) keys.length 100
 x0:W.cell? ⟨X,0,none⟩=some (.map (some b))
 x1:W.cell? ⟨X,1,none⟩=some (.slice (some ⟨H,0,none⟩) nc nc)
 hlt:H<W.heap.size
 c:∀c,c<nc->W.cell? ⟨H,c,none⟩=some (.bool (decide (c<k)&&hb c))
 fz:∀c,W.frozen? ⟨H,c,none⟩=false
 nx:X≠H
 nb:b≠H
theorem KC.five{w0:World}{keys:List UInt8}{nc b H X:Nat}{W:World}(h:KC w0 keys nc b H X W)(hb:Nat->Bool):L5 w0 keys nc b H X 0 hb W where
 below:=h.below
 lb:=h.lb
 lh:=h.lh
 lx:=h.lx
 m:=h.m
 x0:=by rw[Lib.cell_of_heap h.x];rfl
 x1:=by rw[Lib.cell_of_heap h.x];rfl
 hlt:=(ad3.1 h.h).1
 c:=λc hc=>by
  rw[Lib.cell_of_heap h.h];simp[madeCells,hc,Nat.mod_one]
 fz:=λc=>ag8 h.h c
 nx:=λe=>by
  have h1:=h.x;subst e;rw[h.h]at h1;have h2:=ak1 h1;injection h2 with _ h3 _
  exact absurd h3 (by decide)
 nb:=λe=>by
  subst e;obtain⟨o,h1,h2⟩:=h.m.obj;rw[h.h]at h1;exact h2 _ _ _ (ak1 h1).symm
theorem L5.next{w0:World}{keys:List UInt8}{nc b H X k:Nat}{hb:Nat->Bool}{W:World}{v:Bool}(h:L5 w0 keys nc b H X k hb W)(hk:k<nc)(hv:hb k=v):L5 w0 keys nc b H X (k+1) hb (W.drew.setCell ⟨H,k,none⟩ (.bool v)) where
 below:=(h.below.drew).setCell (p:=⟨H,k,none⟩) h.lh _
 lb:=h.lb
 lh:=h.lh
 lx:=h.lx
 m:=h.m.kept (af4 _ _ _ _ h.nb)
 x0:=(fU (by simp;exact λe=>absurd e.symm h.nx)).trans h.x0
 x1:=(fU (by simp;exact λe=>absurd e.symm h.nx)).trans h.x1
 hlt:=by have:=h.hlt;simpa[World.setCell]using this
 c:=λc hc=>by
  by_cases e:c=k
  ·subst e;have h1:=h.c c hc;rw[dB (w:=W.drew) (.bool v) h1,<-hv];simp
  ·refine(fU (p:=⟨H,k,none⟩) (q:=⟨H,c,none⟩) (λe2=>e (by injection e2 with _ h2 _;exact h2.symm))).trans ?_;have h1:=h.c c hc;have e2:decide (c<k+1)=decide (c<k):=(by simp;omega);rw[e2];exact h1
 fz:=λc=>by rw[ap4];exact h.fz c
 nx:=h.nx
 nb:=h.nb
theorem L5.rows{w0:World}{keys:List UInt8}{nc b H X:Nat}{hb:Nat->Bool}{W:World}(h:L5 w0 keys nc b H X nc hb W):bY W H ((List.range nc).map hb):=by
 refine⟨h.hlt,λi hi=>?_⟩;have hi2:i<nc:=by simpa using hi
 rw[h.c i hi2];simp[hi2]
theorem bytes_eq(l:List UInt8)(s:ByteArray):(l==s.toList)=decide (l=s.data.toList):=by
 have e:s.toList=s.data.toList:=ByteArray.toList_eq s;rw[e];by_cases h:l=s.data.toList
 ·rw[aq5 h,beq_iff_eq];exact h
 ·rw[ao5 h,an9];exact h
theorem VR(bt:UInt8):(((bt.toNat:Nat):Int)==49)=(bt==49):=by
 by_cases h:bt=49
 ·subst h;rfl
 ·have h2:bt.toNat≠49:=λe=>h (UInt8.toNat.inj (e:bt.toNat=(49:UInt8).toNat));have h3:((bt.toNat:Nat):Int)≠49:=by omega
  rw[an9.2 h,an9.2 h3]
theorem wrap_small{a:Int}(h0:0<=a)(h1:a<=1000000):IntKind.i64.wrap a=a:=by
 simp[IntKind.wrap,IntKind.bits,IntKind.signed];omega
theorem oI.fin{w0:World}{keys:List UInt8}{nc G b H X:Nat}{W:World}(h:oI w0 keys nc (some G) (some b) (some H) (some X) W):KC w0 keys nc b H X ((W.setCell ⟨X,0,none⟩ (.map (some b))).setCell ⟨X,1,none⟩ (.slice (some ⟨H,0,none⟩) nc nc)):=by
 obtain⟨lx,hx⟩:=h.i8 X rfl;obtain⟨lh,hh⟩:=h.i6 H rfl;obtain⟨lb,hm⟩:=h.i4 b rfl;have n1:H≠X:=λe=>by
  subst e;rw[hx]at hh;have h1:=ak1 hh;injection h1 with _ h2 _
  exact absurd h2 (by decide)
 have n2:b≠X:=λe=>by
  subst e;obtain⟨o,h1,h2⟩:=hm.obj;rw[hx]at h1;exact h2 _ _ _ (ak1 h1).symm
 have hk:∀j,j≠X->((W.setCell ⟨X,0,none⟩ (.map (some b))).setCell ⟨X,1,none⟩ (.slice (some ⟨H,0,none⟩) nc nc)).heap[j]?=W.heap[j]?:=λj hj=>(af4 _ _ _ _ hj).trans (af4 _ _ _ _ hj);exact⟨(h.below.setCell (p:=⟨X,0,none⟩) lx _).setCell (p:=⟨X,1,none⟩) lx _,lb,lh,lx,hm.kept (hk b n2),(hk H n1).trans hh,Tz hx⟩
theorem BZ(GT GC GP nt nc np:Nat)(s:ByteArray)(w:World)(h7:nt<=7)(h4:nc<=4)(hs:s.size=nt+1+nc) :
  Calls prog 20 #[fv GT GC GP nt nc np,.string s] w λe w'=>∃b H,e=.returned (.tuple #[sv b H nc,.bool (decide (wrt (fi (s.data.toList.take nt)) nt (hlo s nt nc)=s.data.toList))])/\w.heap.size<=b/\w.heap.size<=H/\dN w' b (fi (s.data.toList.take nt)) nt 100/\bY w' H (hlo s nt nc)/\Below w.heap.size w w':=by
 unfold fv
 go_enter func20,ntmps20
 go_wp2_with fail
 obtain⟨w0,hw0⟩:∃w0,(w.alloc (.cells #[.slice (some ⟨GT,0,none⟩) nt nt,.slice (some ⟨GC,0,none⟩) nc nc,.slice (some ⟨GP,0,none⟩) np np] 46)).alloc (.cells #[.map none,.slice none 0 0] 56)=w0:=⟨_,rfl⟩;have hb0:Below w.heap.size w w0:=by rw[<-hw0];exact cZ _ _ _
 have hz0:w0.heap.size=w.heap.size+2:=by rw[<-hw0];simp
 have hk0:w0.cell? ⟨w.heap.size,0,none⟩=some (.slice (some ⟨GT,0,none⟩) nt nt):=by rw[<-hw0];simp[go_sem]
 have hk1:w0.cell? ⟨w.heap.size,1,none⟩=some (.slice (some ⟨GC,0,none⟩) nc nc):=by rw[<-hw0];simp[go_sem]
 have hk2:w0.cell? ⟨w.heap.size,2,none⟩=some (.slice (some ⟨GP,0,none⟩) np np):=by rw[<-hw0];simp[go_sem]
 have hr0:w0.cell? ⟨w.heap.size+1,0,none⟩=some (.map none):=by rw[<-hw0];simp[go_sem]
 have hr1:w0.cell? ⟨w.heap.size+1,1,none⟩=some (.slice none 0 0):=by rw[<-hw0];simp[go_sem]
 have hq0:w0.frozen? ⟨w.heap.size+1,0,none⟩=false:=by rw[<-hw0];simp[go_sem]
 have hq1:w0.frozen? ⟨w.heap.size+1,1,none⟩=false:=by rw[<-hw0];simp[go_sem]
 rw[hw0];clear hw0;have hS0:w0.drew.cell? ⟨w.heap.size,0,none⟩=some (.slice (some ⟨GT,0,none⟩) nt nt)/\w0.drew.cell? ⟨w.heap.size,1,none⟩=some (.slice (some ⟨GC,0,none⟩) nc nc):=⟨hk0,hk1⟩;refine ah0 (S:=λW'=>W'.cell? ⟨w.heap.size,0,none⟩=some (.slice (some ⟨GT,0,none⟩) nt nt)/\W'.cell? ⟨w.heap.size,1,none⟩=some (.slice (some ⟨GC,0,none⟩) nc nc)) rfl ?_;simp only[ae2,ae1,ae8,Nat.reduceAdd,ae0,ad9,ae4,ae7,ae6];change wpAnyH prog .any _ _ _ _ _ _ w0.drew;refine tH 0 (.pointer (some ⟨w.heap.size,0,none⟩)) (λw' hS=>?_) hS0 ?_
 ·obtain⟨s1,s2⟩:=hS;go_simp
 simp only[aC];refine tH 1 (.slice (some ⟨GT,0,none⟩) nt nt) (λw' hS=>?_) hS0 ?_
 ·obtain⟨s1,s2⟩:=hS;go_simp
 simp only[aC];refine tH 2 (.int .i64 nt) (λw' hS=>?_) hS0 ?_
 ·obtain⟨s1,s2⟩:=hS;go_simp
 simp only[aC];refine tH 3 (.pointer (some ⟨w.heap.size,1,none⟩)) (λw' hS=>?_) hS0 ?_
 ·obtain⟨s1,s2⟩:=hS;go_simp
 simp only[aC];refine tH 4 (.slice (some ⟨GC,0,none⟩) nc nc) (λw' hS=>?_) hS0 ?_
 ·obtain⟨s1,s2⟩:=hS;go_simp
 simp only[aC];refine tH 5 (.int .i64 nc) (λw' hS=>?_) hS0 ?_
 ·obtain⟨s1,s2⟩:=hS;go_simp
 simp only[aC];refine oH 6 (λK hK=>?_);go_simp;refine hK.out _ _ hS0 ?_;clear hK K;refine oH 7 (λK hK=>?_);go_simp;refine hK.out _ _ hS0 (ag5 (by kernel_rfl) ?_ _);clear hK K hS0;have heq:decide ((s.size:Int)=(nt:Int)+1+(nc:Int))=true:=by simp;omega
 have heq2:(s.size:Int)=(nt:Int)+1+(nc:Int):=by omega
 have htk:(s.extract 0 nt).data.toList=s.data.toList.take nt:=by simp
 have hts:(s.extract 0 nt).size=nt:=by simp;omega
 have HCV:Hid (∀W:World,(convert 9 39 (.string (s.extract 0 nt))).run prog W=.ok (.slice (some ⟨W.heap.size,0,none⟩) nt (grownCap W nt 0 5)) (W.drew.alloc (.cells (bytesRow (s.extract 0 nt) (grownCap W nt 0 5)) 5 ((bytesRow (s.extract 0 nt) (grownCap W nt 0 5)).size,(bytesRow (s.extract 0 nt) (grownCap W nt 0 5)).size+1)))):=λW=>by
  have h:=run_bytes_of_string (P:=prog) W 9 39 5 (s.extract 0 nt) underlying9 underlying39 underlying5;rw[hts]at h;exact h
 have HMK:Hid (∀W:World,(Instr.makeSlice 54 (.int .i64 (nc:Int)) (.int .i64 (nc:Int))).run prog W=.ok (.slice (some ⟨W.heap.size,0,none⟩) nc nc) (W.alloc (.cells (madeCells #[.bool false] nc) 4))):=λW=>
  run_make_row' (P:=prog) 54 4 (.bool false) 1 underlying54 Fv rfl .i64 .i64 nc (by omega) (by omega) W
 have HTG:Hid (∀(W:World) (G cap:Nat),qg W G (s.extract 0 nt).data.toList->Calls prog 31 #[.slice (some ⟨G,0,none⟩) nt cap] W λe w'=>∃b,e=.returned (.map (some b))/\W.heap.size<=b/\Below W.heap.size W w'/\dN w' b (fi (s.extract 0 nt).data.toList) (s.extract 0 nt).data.toList.length 100):=λW G cap hG=>by
  have hlen:(s.extract 0 nt).data.toList.length=nt:=by simpa using hts
  have h:=Aa G cap (s.extract 0 nt).data.toList W (by omega) hG (λx _=>⟨_,aaw x⟩);rw[hlen]at h ⊢;exact h
 have hI:oI w0.drew (s.extract 0 nt).data.toList nc none none none none w0.drew:=⟨ag6 _ _,λ_ e=>(by cases e),λ_ e=>(by cases e),λ_ e=>(by cases e),λ_ e=>(by cases e)⟩;have ac7:(nt:Int)<=(s.size:Int):=by omega
 have eG:=aj htk;have HTS:=aj hts;have HSS:=aj hs;clear htk hts
 go_wp2_with fail
 refine Code.wp_mono (Q:=λe a W'=>e=.normal/\∃(G cap b H X:Nat),a={tmps:=#[.agg #[.slice (some ⟨GT,0,none⟩) nt nt,.slice (some ⟨GC,0,none⟩) nc nc,.slice (some ⟨GP,0,none⟩) np np],.string s,.pointer (some ⟨w.heap.size,0,none⟩),undef,.pointer (some ⟨w.heap.size+1,0,none⟩),.bool false,.int .i64 nt,.int .i64 nc,.pointer (some ⟨X,0,none⟩),undef,.pointer (some ⟨w.heap.size,0,none⟩),.slice (some ⟨GT,0,none⟩) nt nt,.int .i64 nt,.pointer (some ⟨w.heap.size,1,none⟩),.slice (some ⟨GC,0,none⟩) nc nc,.int .i64 nc,.string s,.int .i64 ((nt:Int)+1+(nc:Int)),.int .i64 nt,.int .i64 ((nt:Int)+1),.int .i64 nc,.int .i64 ((nt:Int)+1+(nc:Int)),.bool false,undef,.string s,.int .i64 nt,.string (s.extract 0 nt),.slice (some ⟨G,0,none⟩) nt cap,.map (some b),.int .i64 nc,.slice (some ⟨H,0,none⟩) nc nc,.agg #[.map (some b),.slice (some ⟨H,0,none⟩) nc nc],undef,undef,undef,undef,undef,undef,undef,undef,undef,undef,undef,undef,undef,undef,undef,undef,undef,undef,undef,undef,undef,undef,undef,undef],defers:=[]}/\KC w0.drew (s.extract 0 nt).data.toList nc b H X W') ?_ ?_
 rotate_left
 ·refine ah0 (S:=λ_=>True) rfl ?_;simp only[ae2,ae1,ae8,Nat.reduceAdd,ae0,ad9,ae4,ae7,ae6];have hgd:Below w0.drew.heap.size w0.drew w0.drew.drew:=(ag6 _ _).drew;have hI:=hI.grow hgd;change wpAnyH prog .any _ _ _ _ _ _ w0.drew.drew;generalize w0.drew.drew=W at hI ⊢;have hS0:True:=trivial;refine tH 0 (.string s) (λw' hS=>?_) hS0 ?_
  ·go_simp
  simp only[aC];refine tH 1 (.int .i64 nt) (λw' hS=>?_) hS0 ?_
  ·go_simp
  simp only[aC];refine tH 2 (.string (s.extract 0 nt)) (λw' hS=>?_) hS0 ?_
  ·go_simp;intro h;omega
  simp only[aC];refine tH 5 (.int .i64 nc) (λw' hS=>?_) hS0 ?_
  ·go_simp
  simp only[aC];refine a3 3 6 8 ?_ ?_ ?_
  ·refine oO (λK hK=>?_);obtain⟨G,hX⟩:∃X,W.heap.size=X:=⟨_,rfl⟩;obtain⟨cap,hcap⟩:∃c,grownCap W nt 0 5=c:=⟨_,rfl⟩;have hcv:=ah HCV W;rw[hX,hcap]at hcv;have hI2:=hI.s3 (cap:=cap) (fz:=((bytesRow (s.extract 0 nt) cap).size,(bytesRow (s.extract 0 nt) cap).size+1));rw[hX]at hI2;generalize W.drew.alloc (.cells (bytesRow (s.extract 0 nt) cap) 5 ((bytesRow (s.extract 0 nt) cap).size,(bytesRow (s.extract 0 nt) cap).size+1))=W2 at hI2 hcv;go_simp;refine hK.out _ _ ⟨trivial,?_⟩;clear hK K hcv hX hcap hI W
   rename World=>W
   have hI:=hI2;clear hI2;refine a3 4 6 8 ?_ ?_ ?_
   ·refine oO (λK hK=>?_);go_simp;refine(ah HTG W G cap (hI.i3 G rfl).2).mono ?_;rintro e W2 ⟨b,rfl,hb1,hb2,hb3⟩;have hI2:=hI.s4 hb2 hb1 hb3;refine hK.out _ _ ⟨trivial,?_⟩;clear hK K hb1 hb2 hb3 hI W
    rename World=>W
    have hI:=hI2;clear hI2;refine a2 6 8 ?_ ?_
    ·refine oO (λK hK=>?_);have hI2:=hI.s6;have hmk:=ah HMK W;go_simp;refine hK.out _ _ ⟨trivial,?_⟩;clear hK K;generalize W.alloc (.cells (madeCells #[.bool false] nc) 4)=W2 at hI2 ⊢;clear hmk;generalize W.heap.size=H at hI2 ⊢;clear hI W
     rename World=>W
     have hI:=hI2;clear hI2;refine a2 7 8 ?_ ?_
     ·refine oO (λK hK=>?_);go_simp;refine hK.out _ _ ⟨trivial,?_⟩;clear hK K;refine a1 8 ?_;refine oO (λK hK=>?_);have hI2:=hI.s8;go_simp;refine hK.out _ _ ⟨trivial,?_⟩;clear hK K;generalize W.alloc (.cells #[.map none,.slice none 0 0] 56)=W2 at hI2 ⊢;generalize W.heap.size=X at hI2 ⊢;clear hI W
      rename World=>W
      have hI:=hI2;clear hI2;refine a1 9 ?_;have cx:=(hI.i8 X rfl).2;have cx0:W.cell? ⟨X,0,none⟩=some (.map none):=(by rw[Lib.cell_of_heap cx];rfl);have cx1:W.cell? ⟨X,1,none⟩=some (.slice none 0 0):=(by rw[Lib.cell_of_heap cx];rfl);have fx0:W.frozen? ⟨X,0,none⟩=false:=ag8 cx 0;have fx1:W.frozen? ⟨X,1,none⟩=false:=ag8 cx 1;refine oO (λK hK=>?_);go_simp;refine hK.out _ _ ⟨trivial,ag5 (by kernel_rfl) ⟨rfl,G,cap,b,H,X,rfl,hI.fin⟩ _⟩
     ·refine oO (λK hK=>?_);have hI2:=hI.s8;go_simp;refine hK.out _ _ ⟨trivial,?_⟩;clear hK K;generalize W.alloc (.cells #[.map none,.slice none 0 0] 56)=W2 at hI2 ⊢;generalize W.heap.size=X at hI2 ⊢;clear hI W
      rename World=>W
      have hI:=hI2;clear hI2;refine a1 7 ?_;refine oO (λK hK=>?_);go_simp;refine hK.out _ _ ⟨trivial,?_⟩;clear hK K;refine a1 9 ?_;have cx:=(hI.i8 X rfl).2;have cx0:W.cell? ⟨X,0,none⟩=some (.map none):=(by rw[Lib.cell_of_heap cx];rfl);have cx1:W.cell? ⟨X,1,none⟩=some (.slice none 0 0):=(by rw[Lib.cell_of_heap cx];rfl);have fx0:W.frozen? ⟨X,0,none⟩=false:=ag8 cx 0;have fx1:W.frozen? ⟨X,1,none⟩=false:=ag8 cx 1;refine oO (λK hK=>?_);go_simp;refine hK.out _ _ ⟨trivial,ag5 (by kernel_rfl) ⟨rfl,G,cap,b,H,X,rfl,hI.fin⟩ _⟩
    ·refine oO (λK hK=>?_);have hI2:=hI.s8;go_simp;refine hK.out _ _ ⟨trivial,?_⟩;clear hK K;generalize W.alloc (.cells #[.map none,.slice none 0 0] 56)=W2 at hI2 ⊢;generalize W.heap.size=X at hI2 ⊢;clear hI W
     rename World=>W
     have hI:=hI2;clear hI2;refine a1 6 ?_;refine oO (λK hK=>?_);have hI2:=hI.s6;have hmk:=ah HMK W;go_simp;refine hK.out _ _ ⟨trivial,?_⟩;clear hK K;generalize W.alloc (.cells (madeCells #[.bool false] nc) 4)=W2 at hI2 ⊢;clear hmk;generalize W.heap.size=H at hI2 ⊢;clear hI W
     rename World=>W
     have hI:=hI2;clear hI2;refine a1 7 ?_;refine oO (λK hK=>?_);go_simp;refine hK.out _ _ ⟨trivial,?_⟩;clear hK K;refine a1 9 ?_;have cx:=(hI.i8 X rfl).2;have cx0:W.cell? ⟨X,0,none⟩=some (.map none):=(by rw[Lib.cell_of_heap cx];rfl);have cx1:W.cell? ⟨X,1,none⟩=some (.slice none 0 0):=(by rw[Lib.cell_of_heap cx];rfl);have fx0:W.frozen? ⟨X,0,none⟩=false:=ag8 cx 0;have fx1:W.frozen? ⟨X,1,none⟩=false:=ag8 cx 1;refine oO (λK hK=>?_);go_simp;refine hK.out _ _ ⟨trivial,ag5 (by kernel_rfl) ⟨rfl,G,cap,b,H,X,rfl,hI.fin⟩ _⟩
   ·refine oO (λK hK=>?_);have hI2:=hI.s6;have hmk:=ah HMK W;go_simp;refine hK.out _ _ ⟨trivial,?_⟩;clear hK K;generalize W.alloc (.cells (madeCells #[.bool false] nc) 4)=W2 at hI2 ⊢;clear hmk;generalize W.heap.size=H at hI2 ⊢;clear hI W
    rename World=>W
    have hI:=hI2;clear hI2;refine a2 4 8 ?_ ?_
    ·refine oO (λK hK=>?_);go_simp;refine(ah HTG W G cap (hI.i3 G rfl).2).mono ?_;rintro e W2 ⟨b,rfl,hb1,hb2,hb3⟩;have hI2:=hI.s4 hb2 hb1 hb3;refine hK.out _ _ ⟨trivial,?_⟩;clear hK K hb1 hb2 hb3 hI W
     rename World=>W
     have hI:=hI2;clear hI2;refine a2 7 8 ?_ ?_
     ·refine oO (λK hK=>?_);go_simp;refine hK.out _ _ ⟨trivial,?_⟩;clear hK K;refine a1 8 ?_;refine oO (λK hK=>?_);have hI2:=hI.s8;go_simp;refine hK.out _ _ ⟨trivial,?_⟩;clear hK K;generalize W.alloc (.cells #[.map none,.slice none 0 0] 56)=W2 at hI2 ⊢;generalize W.heap.size=X at hI2 ⊢;clear hI W
      rename World=>W
      have hI:=hI2;clear hI2;refine a1 9 ?_;have cx:=(hI.i8 X rfl).2;have cx0:W.cell? ⟨X,0,none⟩=some (.map none):=(by rw[Lib.cell_of_heap cx];rfl);have cx1:W.cell? ⟨X,1,none⟩=some (.slice none 0 0):=(by rw[Lib.cell_of_heap cx];rfl);have fx0:W.frozen? ⟨X,0,none⟩=false:=ag8 cx 0;have fx1:W.frozen? ⟨X,1,none⟩=false:=ag8 cx 1;refine oO (λK hK=>?_);go_simp;refine hK.out _ _ ⟨trivial,ag5 (by kernel_rfl) ⟨rfl,G,cap,b,H,X,rfl,hI.fin⟩ _⟩
     ·refine oO (λK hK=>?_);have hI2:=hI.s8;go_simp;refine hK.out _ _ ⟨trivial,?_⟩;clear hK K;generalize W.alloc (.cells #[.map none,.slice none 0 0] 56)=W2 at hI2 ⊢;generalize W.heap.size=X at hI2 ⊢;clear hI W
      rename World=>W
      have hI:=hI2;clear hI2;refine a1 7 ?_;refine oO (λK hK=>?_);go_simp;refine hK.out _ _ ⟨trivial,?_⟩;clear hK K;refine a1 9 ?_;have cx:=(hI.i8 X rfl).2;have cx0:W.cell? ⟨X,0,none⟩=some (.map none):=(by rw[Lib.cell_of_heap cx];rfl);have cx1:W.cell? ⟨X,1,none⟩=some (.slice none 0 0):=(by rw[Lib.cell_of_heap cx];rfl);have fx0:W.frozen? ⟨X,0,none⟩=false:=ag8 cx 0;have fx1:W.frozen? ⟨X,1,none⟩=false:=ag8 cx 1;refine oO (λK hK=>?_);go_simp;refine hK.out _ _ ⟨trivial,ag5 (by kernel_rfl) ⟨rfl,G,cap,b,H,X,rfl,hI.fin⟩ _⟩
    ·refine oO (λK hK=>?_);have hI2:=hI.s8;go_simp;refine hK.out _ _ ⟨trivial,?_⟩;clear hK K;generalize W.alloc (.cells #[.map none,.slice none 0 0] 56)=W2 at hI2 ⊢;generalize W.heap.size=X at hI2 ⊢;clear hI W
     rename World=>W
     have hI:=hI2;clear hI2;refine a1 4 ?_;refine oO (λK hK=>?_);go_simp;refine(ah HTG W G cap (hI.i3 G rfl).2).mono ?_;rintro e W2 ⟨b,rfl,hb1,hb2,hb3⟩;have hI2:=hI.s4 hb2 hb1 hb3;refine hK.out _ _ ⟨trivial,?_⟩;clear hK K hb1 hb2 hb3 hI W
     rename World=>W
     have hI:=hI2;clear hI2;refine a1 7 ?_;refine oO (λK hK=>?_);go_simp;refine hK.out _ _ ⟨trivial,?_⟩;clear hK K;refine a1 9 ?_;have cx:=(hI.i8 X rfl).2;have cx0:W.cell? ⟨X,0,none⟩=some (.map none):=(by rw[Lib.cell_of_heap cx];rfl);have cx1:W.cell? ⟨X,1,none⟩=some (.slice none 0 0):=(by rw[Lib.cell_of_heap cx];rfl);have fx0:W.frozen? ⟨X,0,none⟩=false:=ag8 cx 0;have fx1:W.frozen? ⟨X,1,none⟩=false:=ag8 cx 1;refine oO (λK hK=>?_);go_simp;refine hK.out _ _ ⟨trivial,ag5 (by kernel_rfl) ⟨rfl,G,cap,b,H,X,rfl,hI.fin⟩ _⟩
   ·refine oO (λK hK=>?_);have hI2:=hI.s8;go_simp;refine hK.out _ _ ⟨trivial,?_⟩;clear hK K;generalize W.alloc (.cells #[.map none,.slice none 0 0] 56)=W2 at hI2 ⊢;generalize W.heap.size=X at hI2 ⊢;clear hI W
    rename World=>W
    have hI:=hI2;clear hI2;refine a2 4 6 ?_ ?_
    ·refine oO (λK hK=>?_);go_simp;refine(ah HTG W G cap (hI.i3 G rfl).2).mono ?_;rintro e W2 ⟨b,rfl,hb1,hb2,hb3⟩;have hI2:=hI.s4 hb2 hb1 hb3;refine hK.out _ _ ⟨trivial,?_⟩;clear hK K hb1 hb2 hb3 hI W
     rename World=>W
     have hI:=hI2;clear hI2;refine a1 6 ?_;refine oO (λK hK=>?_);have hI2:=hI.s6;have hmk:=ah HMK W;go_simp;refine hK.out _ _ ⟨trivial,?_⟩;clear hK K;generalize W.alloc (.cells (madeCells #[.bool false] nc) 4)=W2 at hI2 ⊢;clear hmk;generalize W.heap.size=H at hI2 ⊢;clear hI W
     rename World=>W
     have hI:=hI2;clear hI2;refine a1 7 ?_;refine oO (λK hK=>?_);go_simp;refine hK.out _ _ ⟨trivial,?_⟩;clear hK K;refine a1 9 ?_;have cx:=(hI.i8 X rfl).2;have cx0:W.cell? ⟨X,0,none⟩=some (.map none):=(by rw[Lib.cell_of_heap cx];rfl);have cx1:W.cell? ⟨X,1,none⟩=some (.slice none 0 0):=(by rw[Lib.cell_of_heap cx];rfl);have fx0:W.frozen? ⟨X,0,none⟩=false:=ag8 cx 0;have fx1:W.frozen? ⟨X,1,none⟩=false:=ag8 cx 1;refine oO (λK hK=>?_);go_simp;refine hK.out _ _ ⟨trivial,ag5 (by kernel_rfl) ⟨rfl,G,cap,b,H,X,rfl,hI.fin⟩ _⟩
    ·refine oO (λK hK=>?_);have hI2:=hI.s6;have hmk:=ah HMK W;go_simp;refine hK.out _ _ ⟨trivial,?_⟩;clear hK K;generalize W.alloc (.cells (madeCells #[.bool false] nc) 4)=W2 at hI2 ⊢;clear hmk;generalize W.heap.size=H at hI2 ⊢;clear hI W
     rename World=>W
     have hI:=hI2;clear hI2;refine a1 4 ?_;refine oO (λK hK=>?_);go_simp;refine(ah HTG W G cap (hI.i3 G rfl).2).mono ?_;rintro e W2 ⟨b,rfl,hb1,hb2,hb3⟩;have hI2:=hI.s4 hb2 hb1 hb3;refine hK.out _ _ ⟨trivial,?_⟩;clear hK K hb1 hb2 hb3 hI W
     rename World=>W
     have hI:=hI2;clear hI2;refine a1 7 ?_;refine oO (λK hK=>?_);go_simp;refine hK.out _ _ ⟨trivial,?_⟩;clear hK K;refine a1 9 ?_;have cx:=(hI.i8 X rfl).2;have cx0:W.cell? ⟨X,0,none⟩=some (.map none):=(by rw[Lib.cell_of_heap cx];rfl);have cx1:W.cell? ⟨X,1,none⟩=some (.slice none 0 0):=(by rw[Lib.cell_of_heap cx];rfl);have fx0:W.frozen? ⟨X,0,none⟩=false:=ag8 cx 0;have fx1:W.frozen? ⟨X,1,none⟩=false:=ag8 cx 1;refine oO (λK hK=>?_);go_simp;refine hK.out _ _ ⟨trivial,ag5 (by kernel_rfl) ⟨rfl,G,cap,b,H,X,rfl,hI.fin⟩ _⟩
  ·refine oO (λK hK=>?_);have hI2:=hI.s6;have hmk:=ah HMK W;go_simp;refine hK.out _ _ ⟨trivial,?_⟩;clear hK K;generalize W.alloc (.cells (madeCells #[.bool false] nc) 4)=W2 at hI2 ⊢;clear hmk;generalize W.heap.size=H at hI2 ⊢;clear hI W
   rename World=>W
   have hI:=hI2;clear hI2;refine a2 3 8 ?_ ?_
   ·refine oO (λK hK=>?_);obtain⟨G,hX⟩:∃X,W.heap.size=X:=⟨_,rfl⟩;obtain⟨cap,hcap⟩:∃c,grownCap W nt 0 5=c:=⟨_,rfl⟩;have hcv:=ah HCV W;rw[hX,hcap]at hcv;have hI2:=hI.s3 (cap:=cap) (fz:=((bytesRow (s.extract 0 nt) cap).size,(bytesRow (s.extract 0 nt) cap).size+1));rw[hX]at hI2;generalize W.drew.alloc (.cells (bytesRow (s.extract 0 nt) cap) 5 ((bytesRow (s.extract 0 nt) cap).size,(bytesRow (s.extract 0 nt) cap).size+1))=W2 at hI2 hcv;go_simp;refine hK.out _ _ ⟨trivial,?_⟩;clear hK K hcv hX hcap hI W
    rename World=>W
    have hI:=hI2;clear hI2;refine a2 4 8 ?_ ?_
    ·refine oO (λK hK=>?_);go_simp;refine(ah HTG W G cap (hI.i3 G rfl).2).mono ?_;rintro e W2 ⟨b,rfl,hb1,hb2,hb3⟩;have hI2:=hI.s4 hb2 hb1 hb3;refine hK.out _ _ ⟨trivial,?_⟩;clear hK K hb1 hb2 hb3 hI W
     rename World=>W
     have hI:=hI2;clear hI2;refine a2 7 8 ?_ ?_
     ·refine oO (λK hK=>?_);go_simp;refine hK.out _ _ ⟨trivial,?_⟩;clear hK K;refine a1 8 ?_;refine oO (λK hK=>?_);have hI2:=hI.s8;go_simp;refine hK.out _ _ ⟨trivial,?_⟩;clear hK K;generalize W.alloc (.cells #[.map none,.slice none 0 0] 56)=W2 at hI2 ⊢;generalize W.heap.size=X at hI2 ⊢;clear hI W
      rename World=>W
      have hI:=hI2;clear hI2;refine a1 9 ?_;have cx:=(hI.i8 X rfl).2;have cx0:W.cell? ⟨X,0,none⟩=some (.map none):=(by rw[Lib.cell_of_heap cx];rfl);have cx1:W.cell? ⟨X,1,none⟩=some (.slice none 0 0):=(by rw[Lib.cell_of_heap cx];rfl);have fx0:W.frozen? ⟨X,0,none⟩=false:=ag8 cx 0;have fx1:W.frozen? ⟨X,1,none⟩=false:=ag8 cx 1;refine oO (λK hK=>?_);go_simp;refine hK.out _ _ ⟨trivial,ag5 (by kernel_rfl) ⟨rfl,G,cap,b,H,X,rfl,hI.fin⟩ _⟩
     ·refine oO (λK hK=>?_);have hI2:=hI.s8;go_simp;refine hK.out _ _ ⟨trivial,?_⟩;clear hK K;generalize W.alloc (.cells #[.map none,.slice none 0 0] 56)=W2 at hI2 ⊢;generalize W.heap.size=X at hI2 ⊢;clear hI W
      rename World=>W
      have hI:=hI2;clear hI2;refine a1 7 ?_;refine oO (λK hK=>?_);go_simp;refine hK.out _ _ ⟨trivial,?_⟩;clear hK K;refine a1 9 ?_;have cx:=(hI.i8 X rfl).2;have cx0:W.cell? ⟨X,0,none⟩=some (.map none):=(by rw[Lib.cell_of_heap cx];rfl);have cx1:W.cell? ⟨X,1,none⟩=some (.slice none 0 0):=(by rw[Lib.cell_of_heap cx];rfl);have fx0:W.frozen? ⟨X,0,none⟩=false:=ag8 cx 0;have fx1:W.frozen? ⟨X,1,none⟩=false:=ag8 cx 1;refine oO (λK hK=>?_);go_simp;refine hK.out _ _ ⟨trivial,ag5 (by kernel_rfl) ⟨rfl,G,cap,b,H,X,rfl,hI.fin⟩ _⟩
    ·refine oO (λK hK=>?_);have hI2:=hI.s8;go_simp;refine hK.out _ _ ⟨trivial,?_⟩;clear hK K;generalize W.alloc (.cells #[.map none,.slice none 0 0] 56)=W2 at hI2 ⊢;generalize W.heap.size=X at hI2 ⊢;clear hI W
     rename World=>W
     have hI:=hI2;clear hI2;refine a1 4 ?_;refine oO (λK hK=>?_);go_simp;refine(ah HTG W G cap (hI.i3 G rfl).2).mono ?_;rintro e W2 ⟨b,rfl,hb1,hb2,hb3⟩;have hI2:=hI.s4 hb2 hb1 hb3;refine hK.out _ _ ⟨trivial,?_⟩;clear hK K hb1 hb2 hb3 hI W
     rename World=>W
     have hI:=hI2;clear hI2;refine a1 7 ?_;refine oO (λK hK=>?_);go_simp;refine hK.out _ _ ⟨trivial,?_⟩;clear hK K;refine a1 9 ?_;have cx:=(hI.i8 X rfl).2;have cx0:W.cell? ⟨X,0,none⟩=some (.map none):=(by rw[Lib.cell_of_heap cx];rfl);have cx1:W.cell? ⟨X,1,none⟩=some (.slice none 0 0):=(by rw[Lib.cell_of_heap cx];rfl);have fx0:W.frozen? ⟨X,0,none⟩=false:=ag8 cx 0;have fx1:W.frozen? ⟨X,1,none⟩=false:=ag8 cx 1;refine oO (λK hK=>?_);go_simp;refine hK.out _ _ ⟨trivial,ag5 (by kernel_rfl) ⟨rfl,G,cap,b,H,X,rfl,hI.fin⟩ _⟩
   ·refine oO (λK hK=>?_);have hI2:=hI.s8;go_simp;refine hK.out _ _ ⟨trivial,?_⟩;clear hK K;generalize W.alloc (.cells #[.map none,.slice none 0 0] 56)=W2 at hI2 ⊢;generalize W.heap.size=X at hI2 ⊢;clear hI W
    rename World=>W
    have hI:=hI2;clear hI2;refine a1 3 ?_;refine oO (λK hK=>?_);obtain⟨G,hX⟩:∃X,W.heap.size=X:=⟨_,rfl⟩;obtain⟨cap,hcap⟩:∃c,grownCap W nt 0 5=c:=⟨_,rfl⟩;have hcv:=ah HCV W;rw[hX,hcap]at hcv;have hI2:=hI.s3 (cap:=cap) (fz:=((bytesRow (s.extract 0 nt) cap).size,(bytesRow (s.extract 0 nt) cap).size+1));rw[hX]at hI2;generalize W.drew.alloc (.cells (bytesRow (s.extract 0 nt) cap) 5 ((bytesRow (s.extract 0 nt) cap).size,(bytesRow (s.extract 0 nt) cap).size+1))=W2 at hI2 hcv;go_simp;refine hK.out _ _ ⟨trivial,?_⟩;clear hK K hcv hX hcap hI W
    rename World=>W
    have hI:=hI2;clear hI2;refine a1 4 ?_;refine oO (λK hK=>?_);go_simp;refine(ah HTG W G cap (hI.i3 G rfl).2).mono ?_;rintro e W2 ⟨b,rfl,hb1,hb2,hb3⟩;have hI2:=hI.s4 hb2 hb1 hb3;refine hK.out _ _ ⟨trivial,?_⟩;clear hK K hb1 hb2 hb3 hI W
    rename World=>W
    have hI:=hI2;clear hI2;refine a1 7 ?_;refine oO (λK hK=>?_);go_simp;refine hK.out _ _ ⟨trivial,?_⟩;clear hK K;refine a1 9 ?_;have cx:=(hI.i8 X rfl).2;have cx0:W.cell? ⟨X,0,none⟩=some (.map none):=(by rw[Lib.cell_of_heap cx];rfl);have cx1:W.cell? ⟨X,1,none⟩=some (.slice none 0 0):=(by rw[Lib.cell_of_heap cx];rfl);have fx0:W.frozen? ⟨X,0,none⟩=false:=ag8 cx 0;have fx1:W.frozen? ⟨X,1,none⟩=false:=ag8 cx 1;refine oO (λK hK=>?_);go_simp;refine hK.out _ _ ⟨trivial,ag5 (by kernel_rfl) ⟨rfl,G,cap,b,H,X,rfl,hI.fin⟩ _⟩
  ·refine oO (λK hK=>?_);have hI2:=hI.s8;go_simp;refine hK.out _ _ ⟨trivial,?_⟩;clear hK K;generalize W.alloc (.cells #[.map none,.slice none 0 0] 56)=W2 at hI2 ⊢;generalize W.heap.size=X at hI2 ⊢;clear hI W
   rename World=>W
   have hI:=hI2;clear hI2;refine a2 3 6 ?_ ?_
   ·refine oO (λK hK=>?_);obtain⟨G,hX⟩:∃X,W.heap.size=X:=⟨_,rfl⟩;obtain⟨cap,hcap⟩:∃c,grownCap W nt 0 5=c:=⟨_,rfl⟩;have hcv:=ah HCV W;rw[hX,hcap]at hcv;have hI2:=hI.s3 (cap:=cap) (fz:=((bytesRow (s.extract 0 nt) cap).size,(bytesRow (s.extract 0 nt) cap).size+1));rw[hX]at hI2;generalize W.drew.alloc (.cells (bytesRow (s.extract 0 nt) cap) 5 ((bytesRow (s.extract 0 nt) cap).size,(bytesRow (s.extract 0 nt) cap).size+1))=W2 at hI2 hcv;go_simp;refine hK.out _ _ ⟨trivial,?_⟩;clear hK K hcv hX hcap hI W
    rename World=>W
    have hI:=hI2;clear hI2;refine a2 4 6 ?_ ?_
    ·refine oO (λK hK=>?_);go_simp;refine(ah HTG W G cap (hI.i3 G rfl).2).mono ?_;rintro e W2 ⟨b,rfl,hb1,hb2,hb3⟩;have hI2:=hI.s4 hb2 hb1 hb3;refine hK.out _ _ ⟨trivial,?_⟩;clear hK K hb1 hb2 hb3 hI W
     rename World=>W
     have hI:=hI2;clear hI2;refine a1 6 ?_;refine oO (λK hK=>?_);have hI2:=hI.s6;have hmk:=ah HMK W;go_simp;refine hK.out _ _ ⟨trivial,?_⟩;clear hK K;generalize W.alloc (.cells (madeCells #[.bool false] nc) 4)=W2 at hI2 ⊢;clear hmk;generalize W.heap.size=H at hI2 ⊢;clear hI W
     rename World=>W
     have hI:=hI2;clear hI2;refine a1 7 ?_;refine oO (λK hK=>?_);go_simp;refine hK.out _ _ ⟨trivial,?_⟩;clear hK K;refine a1 9 ?_;have cx:=(hI.i8 X rfl).2;have cx0:W.cell? ⟨X,0,none⟩=some (.map none):=(by rw[Lib.cell_of_heap cx];rfl);have cx1:W.cell? ⟨X,1,none⟩=some (.slice none 0 0):=(by rw[Lib.cell_of_heap cx];rfl);have fx0:W.frozen? ⟨X,0,none⟩=false:=ag8 cx 0;have fx1:W.frozen? ⟨X,1,none⟩=false:=ag8 cx 1;refine oO (λK hK=>?_);go_simp;refine hK.out _ _ ⟨trivial,ag5 (by kernel_rfl) ⟨rfl,G,cap,b,H,X,rfl,hI.fin⟩ _⟩
    ·refine oO (λK hK=>?_);have hI2:=hI.s6;have hmk:=ah HMK W;go_simp;refine hK.out _ _ ⟨trivial,?_⟩;clear hK K;generalize W.alloc (.cells (madeCells #[.bool false] nc) 4)=W2 at hI2 ⊢;clear hmk;generalize W.heap.size=H at hI2 ⊢;clear hI W
     rename World=>W
     have hI:=hI2;clear hI2;refine a1 4 ?_;refine oO (λK hK=>?_);go_simp;refine(ah HTG W G cap (hI.i3 G rfl).2).mono ?_;rintro e W2 ⟨b,rfl,hb1,hb2,hb3⟩;have hI2:=hI.s4 hb2 hb1 hb3;refine hK.out _ _ ⟨trivial,?_⟩;clear hK K hb1 hb2 hb3 hI W
     rename World=>W
     have hI:=hI2;clear hI2;refine a1 7 ?_;refine oO (λK hK=>?_);go_simp;refine hK.out _ _ ⟨trivial,?_⟩;clear hK K;refine a1 9 ?_;have cx:=(hI.i8 X rfl).2;have cx0:W.cell? ⟨X,0,none⟩=some (.map none):=(by rw[Lib.cell_of_heap cx];rfl);have cx1:W.cell? ⟨X,1,none⟩=some (.slice none 0 0):=(by rw[Lib.cell_of_heap cx];rfl);have fx0:W.frozen? ⟨X,0,none⟩=false:=ag8 cx 0;have fx1:W.frozen? ⟨X,1,none⟩=false:=ag8 cx 1;refine oO (λK hK=>?_);go_simp;refine hK.out _ _ ⟨trivial,ag5 (by kernel_rfl) ⟨rfl,G,cap,b,H,X,rfl,hI.fin⟩ _⟩
   ·refine oO (λK hK=>?_);have hI2:=hI.s6;have hmk:=ah HMK W;go_simp;refine hK.out _ _ ⟨trivial,?_⟩;clear hK K;generalize W.alloc (.cells (madeCells #[.bool false] nc) 4)=W2 at hI2 ⊢;clear hmk;generalize W.heap.size=H at hI2 ⊢;clear hI W
    rename World=>W
    have hI:=hI2;clear hI2;refine a1 3 ?_;refine oO (λK hK=>?_);obtain⟨G,hX⟩:∃X,W.heap.size=X:=⟨_,rfl⟩;obtain⟨cap,hcap⟩:∃c,grownCap W nt 0 5=c:=⟨_,rfl⟩;have hcv:=ah HCV W;rw[hX,hcap]at hcv;have hI2:=hI.s3 (cap:=cap) (fz:=((bytesRow (s.extract 0 nt) cap).size,(bytesRow (s.extract 0 nt) cap).size+1));rw[hX]at hI2;generalize W.drew.alloc (.cells (bytesRow (s.extract 0 nt) cap) 5 ((bytesRow (s.extract 0 nt) cap).size,(bytesRow (s.extract 0 nt) cap).size+1))=W2 at hI2 hcv;go_simp;refine hK.out _ _ ⟨trivial,?_⟩;clear hK K hcv hX hcap hI W
    rename World=>W
    have hI:=hI2;clear hI2;refine a1 4 ?_;refine oO (λK hK=>?_);go_simp;refine(ah HTG W G cap (hI.i3 G rfl).2).mono ?_;rintro e W2 ⟨b,rfl,hb1,hb2,hb3⟩;have hI2:=hI.s4 hb2 hb1 hb3;refine hK.out _ _ ⟨trivial,?_⟩;clear hK K hb1 hb2 hb3 hI W
    rename World=>W
    have hI:=hI2;clear hI2;refine a1 7 ?_;refine oO (λK hK=>?_);go_simp;refine hK.out _ _ ⟨trivial,?_⟩;clear hK K;refine a1 9 ?_;have cx:=(hI.i8 X rfl).2;have cx0:W.cell? ⟨X,0,none⟩=some (.map none):=(by rw[Lib.cell_of_heap cx];rfl);have cx1:W.cell? ⟨X,1,none⟩=some (.slice none 0 0):=(by rw[Lib.cell_of_heap cx];rfl);have fx0:W.frozen? ⟨X,0,none⟩=false:=ag8 cx 0;have fx1:W.frozen? ⟨X,1,none⟩=false:=ag8 cx 1;refine oO (λK hK=>?_);go_simp;refine hK.out _ _ ⟨trivial,ag5 (by kernel_rfl) ⟨rfl,G,cap,b,H,X,rfl,hI.fin⟩ _⟩
 ·rintro e a W ⟨rfl,G,cap,b,H,X,rfl,hL⟩;dsimp only;have hx0:W.cell? ⟨X,0,none⟩=some (.map (some b)):=by rw[Lib.cell_of_heap hL.x];rfl
  have hx1:W.cell? ⟨X,1,none⟩=some (.slice (some ⟨H,0,none⟩) nc nc):=by rw[Lib.cell_of_heap hL.x];rfl
  have HL:=aj hL;clear hL;have h50:L5 w0.drew (s.extract 0 nt).data.toList nc b H X 0 (λc=>s.data.toList.getD (nt+1+c) 0==49) W:=(ah HL).five _
  go_wp2_with fail
  go_loopw [35] (λi wr=>∃k:Nat,k<=nc/\i=.int .i64 k/\L5 w0.drew (s.extract 0 nt).data.toList nc b H X k (λc=>s.data.toList.getD (nt+1+c) 0==49) wr) (λi _=>nc-(intOf i).toNat)
  case atStart=>exact⟨0,ah2 _,rfl,h50⟩
  case round=>
   obtain⟨k,hk,rfl,h5⟩:=hrel;by_cases hlt:k<nc
   ·have hbd:(k:Int)<(nc:Int):=(by omega);have hsz:nt+1+k<s.size:=(by omega);obtain⟨bt,hbt⟩:∃bt:UInt8,s.data.toList.getD (nt+1+k) 0=bt:=⟨_,rfl⟩;have HBY:Hid (∀W:World,(Instr.index 9 (.string s) (.int .i64 ((nt:Int)+1+(k:Int)))).run prog W=.ok (.int .u8 (bt.toNat:Int)) W):=λW=>by
     have hcast:((nt:Int)+1+(k:Int))=((nt+1+k:Nat):Int):=(by omega);rw[hcast,run_index_string (P:=prog) _ _ _ _ _ underlying9,dif_pos ⟨by omega,by omega⟩,<-hbt];have hget:s[nt+1+k]=s.data.toList.getD (nt+1+k) 0:=by
      have h1:nt+1+k<s.data.toList.length:=(by simpa using hsz);rw[ag2,ad6 h1];simp[am0]
     rw[<-hget];rfl
    have hw1:IntKind.i64.wrap ((nt:Int)+1)=(nt:Int)+1:=wrap_small (by omega) (by omega);have hw2:IntKind.i64.wrap ((nt:Int)+1+(k:Int))=(nt:Int)+1+(k:Int):=wrap_small (by omega) (by omega);have HBT:=aj hbt;clear hbt;have hcell:=h5.c k hlt;have hfz:=h5.fz k;have hX1:=h5.x1;have H5:=aj h5;clear h5
    go_wp2_with fail
    have hS0:wr.drew.cell? ⟨X,1,none⟩=some (.slice (some ⟨H,0,none⟩) nc nc):=hX1;refine ah0 (S:=λW'=>W'.cell? ⟨X,1,none⟩=some (.slice (some ⟨H,0,none⟩) nc nc)) rfl ?_;simp only[ae2,ae1,ae8,Nat.reduceAdd,ae0,ad9,ae4,ae7,ae6];change wpAnyH prog .any _ _ _ _ _ _ wr.drew;refine tH 0 (.pointer (some ⟨X,1,none⟩)) (λw' hS=>?_) hS0 ?_
    ·go_simp
    simp only[aC];refine tH 1 (.slice (some ⟨H,0,none⟩) nc nc) (λw' hS=>?_) hS0 ?_
    ·go_simp
    simp only[aC];refine tH 2 (.int .i64 k) (λw' hS=>?_) hS0 ?_
    ·go_simp
    simp only[aC];refine tH 3 (.string s) (λw' hS=>?_) hS0 ?_
    ·go_simp
    simp only[aC];refine tH 4 (.int .i64 nt) (λw' hS=>?_) hS0 ?_
    ·go_simp
    simp only[aC];refine tH 5 (.int .i64 ((nt:Int)+1)) (λw' hS=>?_) hS0 ?_
    ·go_simp
    simp only[aC];refine tH 6 (.int .i64 k) (λw' hS=>?_) hS0 ?_
    ·go_simp
    simp only[aC];refine tH 7 (.int .i64 ((nt:Int)+1+(k:Int))) (λw' hS=>?_) hS0 ?_
    ·go_simp
    simp only[aC];refine tH 8 (.int .u8 (bt.toNat:Int)) (λw' hS=>?_) hS0 ?_
    ·have hb:=ah HBY w';go_simp
    simp only[aC];refine tH 9 (.bool (bt==49)) (λw' hS=>?_) hS0 ?_
    ·go_simp;exact VR bt
    simp only[aC];refine oH 10 (λK hK=>?_);go_simp;refine hK.out _ _ hS0 ?_;clear hK K;have hcd:wr.drew.cell? ⟨H,k,none⟩=some (.bool (decide (k<k)&&(s.data.toList.getD (nt+1+k) 0==49))):=hcell;have hfd:wr.drew.frozen? ⟨H,k,none⟩=false:=hfz;have hx6:=(ah H5).next (v:=(bt==49)) hlt (by show(s.data.toList.getD (nt+1+k) 0==49)=(bt==49);rw[ah HBT])
    refine oH 11 (λK hK=>?_);go_simp;refine hK.out _ _ hx6.x1 (ag5 (by kernel_rfl) ?_ _);clear hK K
    go_wp2_with fail
    exact⟨⟨k+1,hlt,by go_num,hx6⟩,by simp[intOf];omega⟩
   ·have hkk:k=nc:=(by omega);subst hkk;have hbd:¬(k:Int)<(k:Int):=(by omega);have H5:=aj h5;clear h5;have hbw:=(ah H5).below;have hsz0:w0.drew.heap.size=w.heap.size+2:=hz0;have cw:∀(n i:Nat),n<w.heap.size+2->wr.cell? ⟨n,i,none⟩=w0.cell? ⟨n,i,none⟩:=λn i hn=>hbw.cell (p:=⟨n,i,none⟩) (by show n<_;omega);have p0:=(cw w.heap.size 0 (by omega)).trans hk0;have p1:=(cw w.heap.size 1 (by omega)).trans hk1;have p2:=(cw w.heap.size 2 (by omega)).trans hk2;have p3:=(cw (w.heap.size+1) 0 (by omega)).trans hr0;have p4:=(cw (w.heap.size+1) 1 (by omega)).trans hr1;have p5:wr.frozen? ⟨w.heap.size+1,0,none⟩=false:=(hbw.frozen (p:=⟨w.heap.size+1,0,none⟩) (by show w.heap.size+1<_;omega)).trans hq0;have p6:wr.frozen? ⟨w.heap.size+1,1,none⟩=false:=(hbw.frozen (p:=⟨w.heap.size+1,1,none⟩) (by show w.heap.size+1<_;omega)).trans hq1;have hlX:=(ah H5).lx;have hlb:=(ah H5).lb;have hlh:=(ah H5).lh;have Vz:(s.extract 0 nt).data.toList.length=nt:=(by simpa using ah HTS);have hhl:hlo s nt k=(List.range k).map (λc=>s.data.toList.getD (nt+1+c) 0==49):=rfl;have hrows:bY wr H (hlo s nt k):=(ah H5).rows;have Bq:(hlo s nt k).length=k:=(by simp[hlo]);have hm:dN wr b (fi (s.data.toList.take nt)) nt 100:=by
     have h:=(ah H5).m;rw[Vz,ah eG]at h;exact h
    have hff:∀i,i<nt->fi (s.data.toList.take nt) i<=i/\fi (s.data.toList.take nt) (fi (s.data.toList.take nt) i)=fi (s.data.toList.take nt) i:=λi hi=>by
     have hl2:i<(s.data.toList.take nt).length:=(by rw[<-ah eG,Vz];exact hi);exact⟨Bz _ i hl2,F6 _ i hl2⟩
    have hwr:=oN GT GC GP nt k np b 100 H (fi (s.data.toList.take nt)) (hlo s nt k) wr.drew h7 (by omega) (λi h=>Nat.lt_of_le_of_lt (hff i h).1 h) (gG.of (hm.kept rfl) hff) (hrows.same rfl);rw[Bq]at hwr;unfold fv sv at hwr;have HWR:=aj hwr;have HM:=aj hm;have HR:=aj hrows;have HBW:=aj hbw;have hx0:=(ah H5).x0;have hx1:=(ah H5).x1;have hlM:=hm.lt;have hlR:=hrows.1;have Ur:X<wr.heap.size:=ad7 wr _ hx0;have hsw:w.heap.size+2<=wr.heap.size:=(by have:=hbw.size;omega);clear hwr hm hrows hbw cw hff hhl Bq;generalize hwt:wrt (fi (s.data.toList.take nt)) nt (hlo s nt k)=wt at HWR;have HWT:=aj hwt;clear hwt
    go_wp2_with fail
    have hS0:wr.drew.cell? ⟨X,0,none⟩=some (.map (some b))/\wr.drew.cell? ⟨X,1,none⟩=some (.slice (some ⟨H,0,none⟩) k k)/\wr.drew.cell? ⟨w.heap.size,0,none⟩=some (.slice (some ⟨GT,0,none⟩) nt nt)/\wr.drew.cell? ⟨w.heap.size,1,none⟩=some (.slice (some ⟨GC,0,none⟩) k k)/\wr.drew.cell? ⟨w.heap.size,2,none⟩=some (.slice (some ⟨GP,0,none⟩) np np):=⟨hx0,hx1,p0,p1,p2⟩;refine ah0 (S:=λW'=>W'.cell? ⟨X,0,none⟩=some (.map (some b))/\W'.cell? ⟨X,1,none⟩=some (.slice (some ⟨H,0,none⟩) k k)/\W'.cell? ⟨w.heap.size,0,none⟩=some (.slice (some ⟨GT,0,none⟩) nt nt)/\W'.cell? ⟨w.heap.size,1,none⟩=some (.slice (some ⟨GC,0,none⟩) k k)/\W'.cell? ⟨w.heap.size,2,none⟩=some (.slice (some ⟨GP,0,none⟩) np np)) rfl ?_;simp only[ae2,ae1,ae8,Nat.reduceAdd,ae0,ad9,ae4,ae7,ae6];change wpAnyH prog .any _ _ _ _ _ _ wr.drew;refine tH 0 (.agg #[.map (some b),.slice (some ⟨H,0,none⟩) k k]) (λw' hS=>?_) hS0 ?_
    ·obtain⟨s1,s2,s3,s4,s5⟩:=hS;go_simp
    simp only[aC];refine tH 1 (.agg #[.slice (some ⟨GT,0,none⟩) nt nt,.slice (some ⟨GC,0,none⟩) k k,.slice (some ⟨GP,0,none⟩) np np]) (λw' hS=>?_) hS0 ?_
    ·obtain⟨s1,s2,s3,s4,s5⟩:=hS;go_simp
    simp only[aC];refine tH 2 (.agg #[.map (some b),.slice (some ⟨H,0,none⟩) k k]) (λw' hS=>?_) hS0 ?_
    ·obtain⟨s1,s2,s3,s4,s5⟩:=hS;go_simp
    simp only[aC];refine tH 4 (.string s) (λw' hS=>?_) hS0 ?_
    ·obtain⟨s1,s2,s3,s4,s5⟩:=hS;go_simp
    simp only[aC];have hSt:Hid (∀W':World,Below wr.drew.heap.size wr.drew W'->W'.cell? ⟨X,0,none⟩=some (.map (some b))/\W'.cell? ⟨X,1,none⟩=some (.slice (some ⟨H,0,none⟩) k k)/\W'.cell? ⟨w.heap.size,0,none⟩=some (.slice (some ⟨GT,0,none⟩) nt nt)/\W'.cell? ⟨w.heap.size,1,none⟩=some (.slice (some ⟨GC,0,none⟩) k k)/\W'.cell? ⟨w.heap.size,2,none⟩=some (.slice (some ⟨GP,0,none⟩) np np)):=λW' h=>⟨(h.cell (p:=⟨X,0,none⟩) Ur).trans hx0,(h.cell (p:=⟨X,1,none⟩) Ur).trans hx1,(h.cell (p:=⟨w.heap.size,0,none⟩) (by show w.heap.size<wr.heap.size;omega)).trans p0,(h.cell (p:=⟨w.heap.size,1,none⟩) (by show w.heap.size<wr.heap.size;omega)).trans p1,(h.cell (p:=⟨w.heap.size,2,none⟩) (by show w.heap.size<wr.heap.size;omega)).trans p2⟩;refine oH 3 (λK hK=>?_);go_simp;refine(ah HWR).mono ?_;rintro e w3 ⟨rfl,hb3⟩;have hS3:=ah hSt _ hb3;refine hK.out _ _ hS3 ?_;clear hK K hS0;refine tH 5 (.bool (decide (wt=s.data.toList))) (λw' hS=>?_) hS3 ?_
    ·obtain⟨s1,s2,s3,s4,s5⟩:=hS;go_simp;exact bytes_eq wt s
    simp only[aC];have p3b:w3.cell? ⟨w.heap.size+1,0,none⟩=some (.map none):=(hb3.cell (p:=⟨w.heap.size+1,0,none⟩) (by show w.heap.size+1<wr.heap.size;omega)).trans p3;have p4b:w3.cell? ⟨w.heap.size+1,1,none⟩=some (.slice none 0 0):=(hb3.cell (p:=⟨w.heap.size+1,1,none⟩) (by show w.heap.size+1<wr.heap.size;omega)).trans p4;have p5b:w3.frozen? ⟨w.heap.size+1,0,none⟩=false:=(hb3.frozen (p:=⟨w.heap.size+1,0,none⟩) (by show w.heap.size+1<wr.heap.size;omega)).trans p5;have p6b:w3.frozen? ⟨w.heap.size+1,1,none⟩=false:=(hb3.frozen (p:=⟨w.heap.size+1,1,none⟩) (by show w.heap.size+1<wr.heap.size;omega)).trans p6;have hx10:X≠w.heap.size+1:=(by omega);obtain⟨wz,hwz⟩:∃wz,(w3.setCell ⟨w.heap.size+1,0,none⟩ (.map (some b))).setCell ⟨w.heap.size+1,1,none⟩ (.slice (some ⟨H,0,none⟩) k k)=wz:=⟨_,rfl⟩;have z0:wz.cell? ⟨w.heap.size+1,0,none⟩=some (.map (some b)):=by
     rw[<-hwz,fU (by simp)];exact dB _ p3b
    have z1:wz.cell? ⟨w.heap.size+1,1,none⟩=some (.slice (some ⟨H,0,none⟩) k k):=by
     rw[<-hwz];exact dB _ ((fU (by simp)).trans p4b)
    have zk:∀j,j≠w.heap.size+1->wz.heap[j]?=w3.heap[j]?:=λj hj=>by rw[<-hwz];exact(af4 _ _ _ _ hj).trans (af4 _ _ _ _ hj)
    have zw:∀j,j<wr.heap.size->j≠w.heap.size+1->wz.heap[j]?=wr.heap[j]?:=λj h1 h2=>(zk j h2).trans (hb3.block j h1);have zb:Below w.heap.size w wz:=by
     have h1:Below w.heap.size w wr:=hb0.trans ⟨(ah HBW).os,(ah HBW).tape,(ah HBW).output,(ah HBW).size,λj hj=>(ah HBW).block j (by omega)⟩;have h2:Below w.heap.size wr w3:=⟨hb3.os,hb3.tape,hb3.output,hb3.size,λj hj=>hb3.block j (by show j<wr.heap.size;omega)⟩;rw[<-hwz];exact((h1.trans h2).setCell (p:=⟨w.heap.size+1,0,none⟩) (by show w.heap.size<=w.heap.size+1;omega) _).setCell (p:=⟨w.heap.size+1,1,none⟩) (by show w.heap.size<=w.heap.size+1;omega) _
    have zm:=(ah HM).kept (zw b hlM (by omega));have zh:=(ah HR).same (zw H hlR (by omega));have hS6:wz.cell? ⟨X,0,none⟩=some (.map (some b))/\wz.cell? ⟨X,1,none⟩=some (.slice (some ⟨H,0,none⟩) k k)/\wz.cell? ⟨w.heap.size,0,none⟩=some (.slice (some ⟨GT,0,none⟩) nt nt)/\wz.cell? ⟨w.heap.size,1,none⟩=some (.slice (some ⟨GC,0,none⟩) k k)/\wz.cell? ⟨w.heap.size,2,none⟩=some (.slice (some ⟨GP,0,none⟩) np np):=⟨(ae5 (zw X Ur hx10)).trans hx0,(ae5 (zw X Ur hx10)).trans hx1,(ae5 (zw w.heap.size (by omega) (by omega))).trans p0,(ae5 (zw w.heap.size (by omega) (by omega))).trans p1,(ae5 (zw w.heap.size (by omega) (by omega))).trans p2⟩;have HZM:=aj zm;have HZH:=aj zh;have HZB:=aj zb;clear zm zh zb zk zw;refine oH 6 (λK hK=>?_);go_simp;refine hK.out _ _ hS6 ?_;clear hK K;refine oH 7 (λK hK=>?_);go_simp;refine hK.out _ _ hS6 (ag5 (by kernel_rfl) ?_ _);clear hK K
    go_wp2_with fail
    exact ag3 (v:=.tuple #[.agg #[.map (some b),.slice (some ⟨H,0,none⟩) k k],.bool (decide (wt=s.data.toList))]) (by simp[results,results20,go_sem,z0,z1]) rfl ⟨b,H,by rw[ah HWT];rfl,by omega,by omega,ah HZM,ah HZH,ah HZB⟩
end Go.Proofs.YthcppbmkacbbiabGreat
