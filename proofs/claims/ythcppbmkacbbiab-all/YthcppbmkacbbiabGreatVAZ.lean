import Derived.Test.YthcppbmkacbbiabGreatVAV
set_option linter.unusedSimpArgs false
set_option maxHeartbeats 2000000
set_option maxRecDepth 100000
namespace Go.Proofs.YthcppbmkacbbiabGreat
open Go.Proofs.Tryz
open Go.RowKit Go.Maps Go.WideMaps
open au (Key put fQ tV jn aB gV bJ)
attribute [local go_sem] Oper.semAt_some
def hlo(s:ByteArray)(nt nc:Nat):List Bool:=(List.range nc).map λc=>s.data.toList.getD (nt+1+c) 0==49
structure Y3(w0:World)(keys:List UInt8)(nc b H X:Nat)(W:World):Prop where
 below:Below w0.heap.size w0 W
 lb:w0.heap.size<=b
 lh:w0.heap.size<=H
 lx:w0.heap.size<=X
 m:gY W b (fi keys) keys.length 100
 h:W.heap[H]?=some (.cells (madeCells #[.bool false] nc) 4)
 x:W.heap[X]?=some (.cells #[.map (some b),Ac H 0 nc nc] 56)
theorem gY.obj{W:World}{b n c:Nat}{f:Nat->Nat}(h:gY W b f n c):∃o:Obj,W.heap[b]?=some o/\∀c t fz,o≠.cells c t fz:=by
 obtain⟨D,nn,_,⟨es,clock,I,_⟩,_⟩:=h;exact⟨_,I,λ_ _ _ e=>by cases e⟩
theorem XV{W:World}{X t:Nat}{p q u v:Value}(h:W.heap[X]?=some (.cells #[p,q] t)):((W.setCell (J X 0) u).setCell (J X 1) v).heap[X]?=some (.cells #[u,v] t):=by
 have I:(W.setCell (J X 0) u).heap[X]?=some (.cells #[u,q] t):=by simp[World.setCell,aA3,h]
 generalize W.setCell (J X 0) u=W1 at I ⊢;simp[World.setCell,aA3,I]
structure L5(w0:World)(keys:List UInt8)(nc b H X k:Nat)(hb:Nat->Bool)(W:World):Prop where
 below:Below w0.heap.size w0 W
 lb:w0.heap.size<=b
 lh:w0.heap.size<=H
 lx:w0.heap.size<=X
 m:gY W b (fi keys) keys.length 100
 x0:W.cell? (J X 0)=some (.map (some b))
 x1:W.cell? (J X 1)=some (Ac H 0 nc nc)
 hlt:H<W.heap.size
 c:∀c,c<nc->W.cell? (J H c)=some (.bool (decide (c<k)&&hb c))
 fz:∀c,W.frozen? (J H c)=false
 nx:X≠H
 nb:b≠H
theorem Y3.five{w0:World}{keys:List UInt8}{nc b H X:Nat}{W:World}(h:Y3 w0 keys nc b H X W)(hb:Nat->Bool):L5 w0 keys nc b H X 0 hb W where
 below:=h.below
 lb:=h.lb
 lh:=h.lh
 lx:=h.lx
 m:=h.m
 x0:=by rw[Lib.cell_of_heap h.x];rfl
 x1:=by rw[Lib.cell_of_heap h.x];rfl
 hlt:=(an0.1 h.h).1
 c:=λc hc=>by
  rw[Lib.cell_of_heap h.h];simp[madeCells,hc,Nat.mod_one]
 fz:=λc=>Lib.frozen_of_heap h.h c
 nx:=λe=>by
  have I:=h.x;subst e;rw[h.h]at I;have M:=at7 I;injection M with _ h3 _
  exact absurd h3 ane
 nb:=λe=>by
  subst e;obtain⟨o,I,M⟩:=h.m.obj;rw[h.h]at I;exact M _ _ _ (at7 I).symm
theorem L5.next{w0:World}{keys:List UInt8}{nc b H X k:Nat}{hb:Nat->Bool}{W:World}{v:Bool}(h:L5 w0 keys nc b H X k hb W)(hk:k<nc)(hv:hb k=v):L5 w0 keys nc b H X (k+1) hb (W.drew.setCell (J H k) (.bool v)) where
 below:=(h.below.drew).setCell (p:=(J H k)) h.lh _
 lb:=h.lb
 lh:=h.lh
 lx:=h.lx
 m:=h.m.kept (ao9 _ _ _ _ h.nb)
 x0:=(ku (by simp;exact λe=>absurd e.symm h.nx)).trans h.x0
 x1:=(ku (by simp;exact λe=>absurd e.symm h.nx)).trans h.x1
 hlt:=by have:=h.hlt;simpa[World.setCell]using this
 c:=λc hc=>by
  by_cases e:c=k
  ·subst e;have I:=h.c c hc;rw[bH (w:=W.drew) (.bool v) I,<-hv];simp
  ·refine(ku (p:=(J H k)) (q:=(J H c)) (λe2=>e (by injection e2 with _ M _;exact M.symm))).trans ?_;have I:=h.c c hc;have e2:decide (c<k+1)=decide (c<k):=anf;rw[e2];exact I
 fz:=λc=>by rw[aw2];exact h.fz c
 nx:=h.nx
 nb:=h.nb
theorem L5.rows{w0:World}{keys:List UInt8}{nc b H X:Nat}{hb:Nat->Bool}{W:World}(h:L5 w0 keys nc b H X nc hb W):eP W H ((List.range nc).map hb):=by
 refine⟨h.hlt,λi hi=>?_⟩;have hi2:i<nc:=by simpa using hi
 rw[h.c i hi2];simp[hi2]
theorem bytes_eq(l:List UInt8)(s:ByteArray):(l==s.toList)=decide (l=s.data.toList):=by
 have e:s.toList=s.data.toList:=ByteArray.toList_eq s;rw[e];by_cases h:l=s.data.toList
 ·rw[ay5 h,beq_iff_eq];exact h
 ·rw[ax4 h,ay1];exact h
theorem agw(bt:UInt8):(((bt.toNat:Nat):Int)==49)=(bt==49):=by
 by_cases h:bt=49
 ·subst h;rfl
 ·have M:bt.toNat≠49:=λe=>h (UInt8.toNat.inj (e:bt.toNat=(49:UInt8).toNat));have h3:((bt.toNat:Nat):Int)≠49:=O
  rw[ay1.2 h,ay1.2 h3]
theorem wrap_small{a:Int}(h0:0<=a)(I:a<=1000000):IntKind.i64.wrap a=a:=by
 simp[IntKind.wrap,IntKind.bits,IntKind.signed];omega
theorem kX.fin{w0:World}{keys:List UInt8}{nc G b H X:Nat}{W:World}(h:kX w0 keys nc (some G) (some b) (some H) (some X) W):Y3 w0 keys nc b H X ((W.setCell (J X 0) (.map (some b))).setCell (J X 1) (Ac H 0 nc nc)):=by
 obtain⟨lx,hx⟩:=h.i8 X rfl;obtain⟨lh,hh⟩:=h.i6 H rfl;obtain⟨lb,hm⟩:=h.i4 b rfl;have n1:H≠X:=λe=>by
  subst e;rw[hx]at hh;have I:=at7 hh;injection I with _ M _
  exact absurd M ane
 have n2:b≠X:=λe=>by
  subst e;obtain⟨o,I,M⟩:=hm.obj;rw[hx]at I;exact M _ _ _ (at7 I).symm
 have hk:∀j,j≠X->((W.setCell (J X 0) (.map (some b))).setCell (J X 1) (Ac H 0 nc nc)).heap[j]?=W.heap[j]?:=λj hj=>(ao9 _ _ _ _ hj).trans (ao9 _ _ _ _ hj);exact⟨(h.below.setCell (p:=(J X 0)) lx _).setCell (p:=(J X 1)) lx _,lb,lh,lx,hm.kept (hk b n2),(hk H n1).trans hh,XV hx⟩
theorem Ov(GT GC GP nt nc np:Nat)(s:ByteArray)(w:World)(h7:nt<=7)(h4:nc<=4)(hs:s.size=nt+1+nc) :
  Calls prog 20 #[fv GT GC GP nt nc np,.string s] w λe w'=>∃b H,e=.returned (.tuple #[sv b H nc,.bool (decide (wrt (fi (s.data.toList.take nt)) nt (hlo s nt nc)=s.data.toList))])/\w.heap.size<=b/\w.heap.size<=H/\gY w' b (fi (s.data.toList.take nt)) nt 100/\eP w' H (hlo s nt nc)/\Ag w w':=by
 unfold fv
 go_in
 go_wp2_with fail
 obtain⟨w0,kW⟩:∃w0,(w.alloc (.cells #[Ac GT 0 nt nt,Ac GC 0 nc nc,Ac GP 0 np np] 46)).alloc (.cells #[.map none,.slice none 0 0] 56)=w0:=⟨_,rfl⟩;have kQ:Below w.heap.size w w0:=by rw[<-kW];exact eY _ _ _
 have jR:w0.heap.size=w.heap.size+2:=by rw[<-kW];simp
 have kJ:w0.cell? (J w.heap.size 0)=some (Ac GT 0 nt nt):=by rw[<-kW];simp[go_sem]
 have O4:w0.cell? (J w.heap.size 1)=some (Ac GC 0 nc nc):=by rw[<-kW];simp[go_sem]
 have sH:w0.cell? (J w.heap.size 2)=some (Ac GP 0 np np):=by rw[<-kW];simp[go_sem]
 have hr0:w0.cell? (J (w.heap.size+1) 0)=some (.map none):=by rw[<-kW];simp[go_sem]
 have DX:w0.cell? (J (w.heap.size+1) 1)=some (.slice none 0 0):=by rw[<-kW];simp[go_sem]
 have hq0:w0.frozen? (J (w.heap.size+1) 0)=false:=by rw[<-kW];simp[go_sem]
 have Qk:w0.frozen? (J (w.heap.size+1) 1)=false:=by rw[<-kW];simp[go_sem]
 rw[kW];clear kW;have aA:w0.drew.cell? (J w.heap.size 0)=some (Ac GT 0 nt nt)/\w0.drew.cell? (J w.heap.size 1)=some (Ac GC 0 nc nc):=⟨kJ,O4⟩;refine aq8 (S:=λW'=>W'.cell? (J w.heap.size 0)=some (Ac GT 0 nt nt)/\W'.cell? (J w.heap.size 1)=some (Ac GC 0 nc nc)) rfl ?_;simp only[ao5,ao1,ap0,Nat.reduceAdd,an7,an6,ao6,ao8,ao7];change wpAnyH prog .any _ _ _ _ _ _ w0.drew;refine tH 0 (Aa w.heap.size 0) (λw' hS=>?_) aA ?_
 ·obtain⟨s1,s2⟩:=hS;go_simp
 simp only[aF];refine tH 1 (Ac GT 0 nt nt) (λw' hS=>?_) aA ?_
 ·obtain⟨s1,s2⟩:=hS;go_simp
 simp only[aF];refine tH 2 (A nt) (λw' hS=>?_) aA ?_
 ·obtain⟨s1,s2⟩:=hS;go_simp
 simp only[aF];refine tH 3 (Aa w.heap.size 1) (λw' hS=>?_) aA ?_
 ·obtain⟨s1,s2⟩:=hS;go_simp
 simp only[aF];refine tH 4 (Ac GC 0 nc nc) (λw' hS=>?_) aA ?_
 ·obtain⟨s1,s2⟩:=hS;go_simp
 simp only[aF];refine tH 5 (A nc) (λw' hS=>?_) aA ?_
 ·obtain⟨s1,s2⟩:=hS;go_simp
 simp only[aF];refine oH 6 (λK hK=>?_);go_simp;refine hK.out _ _ aA ?_;clear hK K;refine oH 7 (λK hK=>?_);go_simp;refine hK.out _ _ aA (ar2 (by kernel_rfl) ?_ _);clear hK K aA;have heq:decide ((s.size:Int)=(nt:Int)+1+(nc:Int))=true:=anf
 have amY:(s.size:Int)=(nt:Int)+1+(nc:Int):=O
 have kT:(s.extract 0 nt).data.toList=s.data.toList.take nt:=R
 have VR:(s.extract 0 nt).size=nt:=anf
 have HCV:Hid (∀W:World,(convert 9 39 (.string (s.extract 0 nt))).run prog W=.ok (Ac W.heap.size 0 nt (grownCap W nt 0 5)) (W.drew.alloc (.cells (bytesRow (s.extract 0 nt) (grownCap W nt 0 5)) 5 ((bytesRow (s.extract 0 nt) (grownCap W nt 0 5)).size,(bytesRow (s.extract 0 nt) (grownCap W nt 0 5)).size+1)))):=λW=>by
  have h:=run_bytes_of_string (P:=prog) W 9 39 5 (s.extract 0 nt) underlying9 underlying39 underlying5;rw[VR]at h;exact h
 have HMK:Hid (∀W:World,(Instr.makeSlice 54 (A (nc:Int)) (A (nc:Int))).run prog W=.ok (Ac W.heap.size 0 nc nc) (W.alloc (.cells (madeCells #[.bool false] nc) 4))):=λW=>
  run_make_row' (P:=prog) 54 4 (.bool false) 1 underlying54 Jw rfl .i64 .i64 nc O O W
 have HTG:Hid (∀(W:World) (G cap:Nat),zn W G (s.extract 0 nt).data.toList->Calls prog 31 #[Ac G 0 nt cap] W λe w'=>∃b,e=.returned (.map (some b))/\W.heap.size<=b/\Ag W w'/\gY w' b (fi (s.extract 0 nt).data.toList) (s.extract 0 nt).data.toList.length 100):=λW G cap hG=>by
  have hlen:(s.extract 0 nt).data.toList.length=nt:=by simpa using VR
  have h:=LJ G cap (s.extract 0 nt).data.toList W O hG (λx _=>⟨_,akW x⟩);rw[hlen]at h ⊢;exact h
 have hI:kX w0.drew (s.extract 0 nt).data.toList nc none none none none w0.drew:=⟨aq1 _ _,λ_ e=>(by cases e),λ_ e=>(by cases e),λ_ e=>(by cases e),λ_ e=>(by cases e)⟩;have amQ:(nt:Int)<=(s.size:Int):=O
 have je:=F kT;have Y5:=F VR;have HSS:=F hs;clear kT VR
 go_wp2_with fail
 refine Code.wp_mono (Q:=λe a W'=>e=.normal/\∃(G cap b H X:Nat),a={tmps:=#[.agg #[Ac GT 0 nt nt,Ac GC 0 nc nc,Ac GP 0 np np],.string s,Aa w.heap.size 0,undef,Aa (w.heap.size+1) 0,.bool false,A nt,A nc,Aa X 0,undef,Aa w.heap.size 0,Ac GT 0 nt nt,A nt,Aa w.heap.size 1,Ac GC 0 nc nc,A nc,.string s,A ((nt:Int)+1+(nc:Int)),A nt,A ((nt:Int)+1),A nc,A ((nt:Int)+1+(nc:Int)),.bool false,undef,.string s,A nt,.string (s.extract 0 nt),Ac G 0 nt cap,.map (some b),A nc,Ac H 0 nc nc,.agg #[.map (some b),Ac H 0 nc nc],undef,undef,undef,undef,undef,undef,undef,undef,undef,undef,undef,undef,undef,undef,undef,undef,undef,undef,undef,undef,undef,undef,undef,undef],defers:=[]}/\Y3 w0.drew (s.extract 0 nt).data.toList nc b H X W') ?_ ?_
 rotate_left
 ·refine aq8 (S:=λ_=>True) rfl ?_;simp only[ao5,ao1,ap0,Nat.reduceAdd,an7,an6,ao6,ao8,ao7];have Lj:Below w0.drew.heap.size w0.drew w0.drew.drew:=(aq1 _ _).drew;have hI:=hI.grow Lj;change wpAnyH prog .any _ _ _ _ _ _ w0.drew.drew;generalize w0.drew.drew=W at hI ⊢;have aA:True:=trivial;refine dF 0 (.string s) aA ?_
  simp only[aF];refine dF 1 (A nt) aA ?_
  simp only[aF];refine tH 2 (.string (s.extract 0 nt)) (λw' hS=>?_) aA ?_
  ·go_simp;intro h;omega
  simp only[aF];refine dF 5 (A nc) aA ?_
  simp only[aF]
  repeat'
   first
   |(show pz _ _ _ _ _ _ _ 3 _ _
     refine oO (λK hK=>?_);obtain⟨G,hX⟩:∃X,W.heap.size=X:=⟨_,rfl⟩;obtain⟨cap,hcap⟩:∃c,grownCap W nt 0 5=c:=⟨_,rfl⟩;have hcv:=Z HCV W;rw[hX,hcap]at hcv;have dD:=hI.s3 (cap:=cap) (fz:=((bytesRow (s.extract 0 nt) cap).size,(bytesRow (s.extract 0 nt) cap).size+1));rw[hX]at dD;generalize W.drew.alloc (.cells (bytesRow (s.extract 0 nt) cap) 5 ((bytesRow (s.extract 0 nt) cap).size,(bytesRow (s.extract 0 nt) cap).size+1))=W2 at dD hcv;go_simp;refine hK.out _ _ ⟨trivial,?_⟩;clear hK K hcv hX hcap hI W
     rename World=>W
     have hI:=dD;clear dD)
   |(show pz _ _ _ _ _ _ _ 4 _ _
     refine oO (λK hK=>?_);go_simp;refine(Z HTG W G cap (hI.i3 G rfl).2).mono ?_;rintro e W2 ⟨b,rfl,iD,fF,iR⟩;have dD:=hI.s4 fF iD iR;refine hK.out _ _ ⟨trivial,?_⟩;clear hK K iD fF iR hI W
     rename World=>W
     have hI:=dD;clear dD)
   |(show pz _ _ _ _ _ _ _ 6 _ _
     refine oO (λK hK=>?_);have dD:=hI.s6;have wC:=Z HMK W;go_simp;refine hK.out _ _ ⟨trivial,?_⟩;clear hK K;generalize W.alloc (.cells (madeCells #[.bool false] nc) 4)=W2 at dD ⊢;clear wC;generalize W.heap.size=H at dD ⊢;clear hI W
     rename World=>W
     have hI:=dD;clear dD)
   |(show pz _ _ _ _ _ _ _ 7 _ _
     refine oO (λK hK=>?_);go_simp;refine hK.out _ _ ⟨trivial,?_⟩;clear hK K)
   |(show pz _ _ _ _ _ _ _ 8 _ _
     refine oO (λK hK=>?_);have dD:=hI.s8;go_simp;refine hK.out _ _ ⟨trivial,?_⟩;clear hK K;generalize W.alloc (.cells #[.map none,.slice none 0 0] 56)=W2 at dD ⊢;generalize W.heap.size=X at dD ⊢;clear hI W
     rename World=>W
     have hI:=dD;clear dD)
   |(show pz _ _ _ _ _ _ _ 9 _ _
     refine oO (λK hK=>?_);have cx:=(hI.i8 X rfl).2;have cx0:W.cell? (J X 0)=some (.map none):=(by rw[Lib.cell_of_heap cx];rfl);have cx1:W.cell? (J X 1)=some (.slice none 0 0):=(by rw[Lib.cell_of_heap cx];rfl);have fx0:W.frozen? (J X 0)=false:=Lib.frozen_of_heap cx 0;have fx1:W.frozen? (J X 1)=false:=Lib.frozen_of_heap cx 1;go_simp;exact hK.out _ _ ⟨trivial,ar2 (by kernel_rfl) ⟨rfl,G,cap,b,H,X,rfl,hI.fin⟩ _⟩)
   |(have h:kX _ _ _ none none none none W:=hI;clear h;refine a3 3 6 8 ?_ ?_ ?_)
   |(have h:kX _ _ _ (some _) none none none W:=hI;clear h;refine a3 4 6 8 ?_ ?_ ?_)
   |(have h:kX _ _ _ none none (some _) none W:=hI;clear h;refine a2 3 8 ?_ ?_)
   |(have h:kX _ _ _ none none none (some _) W:=hI;clear h;refine a2 3 6 ?_ ?_)
   |(have h:kX _ _ _ (some _) (some _) none none W:=hI;clear h;refine a2 6 8 ?_ ?_)
   |(have h:kX _ _ _ (some _) none (some _) none W:=hI;clear h;refine a2 4 8 ?_ ?_)
   |(have h:kX _ _ _ (some _) none none (some _) W:=hI;clear h;refine a2 4 6 ?_ ?_)
   |(have h:kX _ _ _ none none (some _) (some _) W:=hI;clear h;refine a1 3 ?_)
   |(show wpAnyH _ _ _ _ _ 3 _ _ _;have h:kX _ _ _ (some _) (some _) (some _) none W:=hI;clear h;refine a2 7 8 ?_ ?_)
   |(have h:kX _ _ _ (some _) (some _) none (some _) W:=hI;clear h;refine a1 6 ?_)
   |(have h:kX _ _ _ (some _) none (some _) (some _) W:=hI;clear h;refine a1 4 ?_)
   |(show wpAnyH _ _ _ _ _ 2 _ _ _;have h:kX _ _ _ (some _) (some _) (some _) none W:=hI;clear h;refine a1 8 ?_)
   |(show wpAnyH _ _ _ _ _ 2 _ _ _;have h:kX _ _ _ (some _) (some _) (some _) (some _) W:=hI;clear h;refine a1 7 ?_)
   |(show wpAnyH _ _ _ _ _ 1 _ _ _;have h:kX _ _ _ (some _) (some _) (some _) (some _) W:=hI;clear h;refine a1 9 ?_)
 ·rintro e a W ⟨rfl,G,cap,b,H,X,rfl,hL⟩;dsimp only;have xI:W.cell? (J X 0)=some (.map (some b)):=by rw[Lib.cell_of_heap hL.x];rfl
  have nN:W.cell? (J X 1)=some (Ac H 0 nc nc):=by rw[Lib.cell_of_heap hL.x];rfl
  have HL:=F hL;clear hL;have h50:L5 w0.drew (s.extract 0 nt).data.toList nc b H X 0 (λc=>s.data.toList.getD (nt+1+c) 0==49) W:=(Z HL).five _
  go_wp2_with fail
  go_loopw [35] (λi wr=>∃k:Nat,k<=nc/\i=A k/\L5 w0.drew (s.extract 0 nt).data.toList nc b H X k (λc=>s.data.toList.getD (nt+1+c) 0==49) wr) (λi _=>nc-(intOf i).toNat)
  case atStart=>exact⟨0,ap7 _,rfl,h50⟩
  case round=>
   obtain⟨k,hk,rfl,h5⟩:=hrel;by_cases hlt:k<nc
   ·have iF:(k:Int)<(nc:Int):=O;have eH:nt+1+k<s.size:=O;obtain⟨bt,EG⟩:∃bt:UInt8,s.data.toList.getD (nt+1+k) 0=bt:=⟨_,rfl⟩;have HBY:Hid (∀W:World,(Instr.index 9 (.string s) (A ((nt:Int)+1+(k:Int)))).run prog W=.ok (Ae (bt.toNat:Int)) W):=λW=>by
     have xk:((nt:Int)+1+(k:Int))=((nt+1+k:Nat):Int):=O;rw[xk,run_index_string (P:=prog) _ _ _ _ _ underlying9,dif_pos ⟨O,O⟩,<-EG];have ahg:s[nt+1+k]=s.data.toList.getD (nt+1+k) 0:=by
      have I:nt+1+k<s.data.toList.length:=(by simpa using eH);rw[ao0,an3 I];simp[ar4]
     rw[<-ahg];rfl
    have uH:IntKind.i64.wrap ((nt:Int)+1)=(nt:Int)+1:=wrap_small O O;have eu:IntKind.i64.wrap ((nt:Int)+1+(k:Int))=(nt:Int)+1+(k:Int):=wrap_small O O;have HBT:=F EG;clear EG;have Yy:=h5.c k hlt;have hfz:=h5.fz k;have EH:=h5.x1;have H5:=F h5;clear h5
    go_wp2_with fail
    have aA:wr.drew.cell? (J X 1)=some (Ac H 0 nc nc):=EH;refine aq8 (S:=λW'=>W'.cell? (J X 1)=some (Ac H 0 nc nc)) rfl ?_;simp only[ao5,ao1,ap0,Nat.reduceAdd,an7,an6,ao6,ao8,ao7];change wpAnyH prog .any _ _ _ _ _ _ wr.drew;refine dF 0 (Aa X 1) aA ?_
    simp only[aF];refine dF 1 (Ac H 0 nc nc) aA ?_
    simp only[aF];refine dF 2 (A k) aA ?_
    simp only[aF];refine dF 3 (.string s) aA ?_
    simp only[aF];refine dF 4 (A nt) aA ?_
    simp only[aF];refine dF 5 (A ((nt:Int)+1)) aA ?_
    simp only[aF];refine dF 6 (A k) aA ?_
    simp only[aF];refine dF 7 (A ((nt:Int)+1+(k:Int))) aA ?_
    simp only[aF];refine tH 8 (Ae (bt.toNat:Int)) (λw' hS=>?_) aA ?_
    ·have hb:=Z HBY w';go_simp
    simp only[aF];refine tH 9 (.bool (bt==49)) (λw' hS=>?_) aA ?_
    ·go_simp;exact agw bt
    simp only[aF];refine oH 10 (λK hK=>?_);go_simp;refine hK.out _ _ aA ?_;clear hK K;have hcd:wr.drew.cell? (J H k)=some (.bool (decide (k<k)&&(s.data.toList.getD (nt+1+k) 0==49))):=Yy;have hfd:wr.drew.frozen? (J H k)=false:=hfz;have hx6:=(Z H5).next (v:=(bt==49)) hlt (by show(s.data.toList.getD (nt+1+k) 0==49)=(bt==49);rw[Z HBT])
    refine oH 11 (λK hK=>?_);go_simp;refine hK.out _ _ hx6.x1 (ar2 (by kernel_rfl) ?_ _);clear hK K
    go_wp2_with fail
    exact⟨⟨k+1,hlt,by go_num,hx6⟩,by simp[intOf];omega⟩
   ·have gW:k=nc:=O;subst gW;have iF:¬(k:Int)<(k:Int):=O;have H5:=F h5;clear h5;have rQ:=(Z H5).below;have afd:w0.drew.heap.size=w.heap.size+2:=jR;have cw:∀(n i:Nat),n<w.heap.size+2->wr.cell? (J n i)=w0.cell? (J n i):=λn i hn=>rQ.cell (p:=(J n i)) (by show n<_;omega);have p0:=(cw w.heap.size 0 O).trans kJ;have p1:=(cw w.heap.size 1 O).trans O4;have p2:=(cw w.heap.size 2 O).trans sH;have p3:=(cw (w.heap.size+1) 0 O).trans hr0;have p4:=(cw (w.heap.size+1) 1 O).trans DX;have p5:wr.frozen? (J (w.heap.size+1) 0)=false:=(rQ.frozen (p:=(J (w.heap.size+1) 0)) (by show w.heap.size+1<_;omega)).trans hq0;have p6:wr.frozen? (J (w.heap.size+1) 1)=false:=(rQ.frozen (p:=(J (w.heap.size+1) 1)) (by show w.heap.size+1<_;omega)).trans Qk;have wG:=(Z H5).lx;have Yw:=(Z H5).lb;have hlh:=(Z H5).lh;have af9:(s.extract 0 nt).data.toList.length=nt:=(by simpa using Z Y5);have hhl:hlo s nt k=(List.range k).map (λc=>s.data.toList.getD (nt+1+c) 0==49):=rfl;have mO:eP wr H (hlo s nt k):=(Z H5).rows;have Tf:(hlo s nt k).length=k:=(by simp[hlo]);have hm:gY wr b (fi (s.data.toList.take nt)) nt 100:=by
     have h:=(Z H5).m;rw[af9,Z je]at h;exact h
    have hff:∀i,i<nt->fi (s.data.toList.take nt) i<=i/\fi (s.data.toList.take nt) (fi (s.data.toList.take nt) i)=fi (s.data.toList.take nt) i:=λi hi=>by
     have lH:i<(s.data.toList.take nt).length:=(by rw[<-Z je,af9];exact hi);exact⟨N9 _ i lH,TV _ i lH⟩
    have uG:=xY GT GC GP nt k np b 100 H (fi (s.data.toList.take nt)) (hlo s nt k) wr.drew h7 O (λi h=>Nat.lt_of_le_of_lt (hff i h).1 h) (kM.of (hm.kept rfl) hff) (mO.same rfl);rw[Tf]at uG;unfold fv sv at uG;have HWR:=F uG;have HM:=F hm;have HR:=F mO;have FV:=F rQ;have xI:=(Z H5).x0;have nN:=(Z H5).x1;have hlM:=hm.lt;have hlR:=mO.1;have afg:X<wr.heap.size:=an4 wr _ xI;have hsw:w.heap.size+2<=wr.heap.size:=(by have:=rQ.size;omega);clear uG hm mO rQ cw hff hhl Tf;generalize hwt:wrt (fi (s.data.toList.take nt)) nt (hlo s nt k)=wt at HWR;have HWT:=F hwt;clear hwt
    go_wp2_with fail
    have aA:wr.drew.cell? (J X 0)=some (.map (some b))/\wr.drew.cell? (J X 1)=some (Ac H 0 k k)/\wr.drew.cell? (J w.heap.size 0)=some (Ac GT 0 nt nt)/\wr.drew.cell? (J w.heap.size 1)=some (Ac GC 0 k k)/\wr.drew.cell? (J w.heap.size 2)=some (Ac GP 0 np np):=⟨xI,nN,p0,p1,p2⟩;refine aq8 (S:=λW'=>W'.cell? (J X 0)=some (.map (some b))/\W'.cell? (J X 1)=some (Ac H 0 k k)/\W'.cell? (J w.heap.size 0)=some (Ac GT 0 nt nt)/\W'.cell? (J w.heap.size 1)=some (Ac GC 0 k k)/\W'.cell? (J w.heap.size 2)=some (Ac GP 0 np np)) rfl ?_;simp only[ao5,ao1,ap0,Nat.reduceAdd,an7,an6,ao6,ao8,ao7];change wpAnyH prog .any _ _ _ _ _ _ wr.drew;refine tH 0 (.agg #[.map (some b),Ac H 0 k k]) (λw' hS=>?_) aA ?_
    ·obtain⟨s1,s2,s3,s4,s5⟩:=hS;go_simp
    simp only[aF];refine tH 1 (.agg #[Ac GT 0 nt nt,Ac GC 0 k k,Ac GP 0 np np]) (λw' hS=>?_) aA ?_
    ·obtain⟨s1,s2,s3,s4,s5⟩:=hS;go_simp
    simp only[aF];refine tH 2 (.agg #[.map (some b),Ac H 0 k k]) (λw' hS=>?_) aA ?_
    ·obtain⟨s1,s2,s3,s4,s5⟩:=hS;go_simp
    simp only[aF];refine tH 4 (.string s) (λw' hS=>?_) aA ?_
    ·obtain⟨s1,s2,s3,s4,s5⟩:=hS;go_simp
    simp only[aF];have wK:Hid (∀W':World,Below wr.drew.heap.size wr.drew W'->W'.cell? (J X 0)=some (.map (some b))/\W'.cell? (J X 1)=some (Ac H 0 k k)/\W'.cell? (J w.heap.size 0)=some (Ac GT 0 nt nt)/\W'.cell? (J w.heap.size 1)=some (Ac GC 0 k k)/\W'.cell? (J w.heap.size 2)=some (Ac GP 0 np np)):=λW' h=>⟨(h.cell (p:=(J X 0)) afg).trans xI,(h.cell (p:=(J X 1)) afg).trans nN,(h.cell (p:=(J w.heap.size 0)) (by show w.heap.size<wr.heap.size;omega)).trans p0,(h.cell (p:=(J w.heap.size 1)) (by show w.heap.size<wr.heap.size;omega)).trans p1,(h.cell (p:=(J w.heap.size 2)) (by show w.heap.size<wr.heap.size;omega)).trans p2⟩;refine oH 3 (λK hK=>?_);go_simp;refine(Z HWR).mono ?_;rintro e w3 ⟨rfl,iR⟩;have hS3:=Z wK _ iR;refine hK.out _ _ hS3 ?_;clear hK K aA;refine tH 5 (.bool (decide (wt=s.data.toList))) (λw' hS=>?_) hS3 ?_
    ·obtain⟨s1,s2,s3,s4,s5⟩:=hS;go_simp;exact bytes_eq wt s
    simp only[aF];have p3b:w3.cell? (J (w.heap.size+1) 0)=some (.map none):=(iR.cell (p:=(J (w.heap.size+1) 0)) (by show w.heap.size+1<wr.heap.size;omega)).trans p3;have p4b:w3.cell? (J (w.heap.size+1) 1)=some (.slice none 0 0):=(iR.cell (p:=(J (w.heap.size+1) 1)) (by show w.heap.size+1<wr.heap.size;omega)).trans p4;have p5b:w3.frozen? (J (w.heap.size+1) 0)=false:=(iR.frozen (p:=(J (w.heap.size+1) 0)) (by show w.heap.size+1<wr.heap.size;omega)).trans p5;have p6b:w3.frozen? (J (w.heap.size+1) 1)=false:=(iR.frozen (p:=(J (w.heap.size+1) 1)) (by show w.heap.size+1<wr.heap.size;omega)).trans p6;have aiQ:X≠w.heap.size+1:=O;obtain⟨wz,NJ⟩:∃wz,(w3.setCell (J (w.heap.size+1) 0) (.map (some b))).setCell (J (w.heap.size+1) 1) (Ac H 0 k k)=wz:=⟨_,rfl⟩;have z0:wz.cell? (J (w.heap.size+1) 0)=some (.map (some b)):=by
     rw[<-NJ,ku R];exact bH _ p3b
    have z1:wz.cell? (J (w.heap.size+1) 1)=some (Ac H 0 k k):=by
     rw[<-NJ];exact bH _ ((ku R).trans p4b)
    have zk:∀j,j≠w.heap.size+1->wz.heap[j]?=w3.heap[j]?:=λj hj=>by rw[<-NJ];exact(ao9 _ _ _ _ hj).trans (ao9 _ _ _ _ hj)
    have zw:∀j,j<wr.heap.size->j≠w.heap.size+1->wz.heap[j]?=wr.heap[j]?:=λj I M=>(zk j M).trans (iR.block j I);have zb:Below w.heap.size w wz:=by
     have I:Below w.heap.size w wr:=kQ.trans ⟨(Z FV).os,(Z FV).tape,(Z FV).output,(Z FV).size,λj hj=>(Z FV).block j O⟩;have M:Below w.heap.size wr w3:=⟨iR.os,iR.tape,iR.output,iR.size,λj hj=>iR.block j (by show j<wr.heap.size;omega)⟩;rw[<-NJ];exact((I.trans M).setCell (p:=(J (w.heap.size+1) 0)) (by show w.heap.size<=w.heap.size+1;omega) _).setCell (p:=(J (w.heap.size+1) 1)) (by show w.heap.size<=w.heap.size+1;omega) _
    have zm:=(Z HM).kept (zw b hlM O);have zh:=(Z HR).same (zw H hlR O);have hS6:wz.cell? (J X 0)=some (.map (some b))/\wz.cell? (J X 1)=some (Ac H 0 k k)/\wz.cell? (J w.heap.size 0)=some (Ac GT 0 nt nt)/\wz.cell? (J w.heap.size 1)=some (Ac GC 0 k k)/\wz.cell? (J w.heap.size 2)=some (Ac GP 0 np np):=⟨(an9 (zw X afg aiQ)).trans xI,(an9 (zw X afg aiQ)).trans nN,(an9 (zw w.heap.size O O)).trans p0,(an9 (zw w.heap.size O O)).trans p1,(an9 (zw w.heap.size O O)).trans p2⟩;have HZM:=F zm;have HZH:=F zh;have HZB:=F zb;clear zm zh zb zk zw;refine oH 6 (λK hK=>?_);go_simp;refine hK.out _ _ hS6 ?_;clear hK K;refine oH 7 (λK hK=>?_);go_simp;refine hK.out _ _ hS6 (ar2 (by kernel_rfl) ?_ _);clear hK K
    go_wp2_with fail
    exact aq0 (v:=.tuple #[.agg #[.map (some b),Ac H 0 k k],.bool (decide (wt=s.data.toList))]) (by simp[results,results20,go_sem,z0,z1]) rfl ⟨b,H,by rw[Z HWT];rfl,O,O,Z HZM,Z HZH,Z HZB⟩
end Go.Proofs.YthcppbmkacbbiabGreat
