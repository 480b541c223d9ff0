import Derived.Test.YthcppbmkacbbiabGreatWBT
set_option linter.unusedSimpArgs false
set_option maxHeartbeats 4000000
set_option maxRecDepth 100000
namespace Go.Proofs.YthcppbmkacbbiabGreat
open Go.Proofs.Tryz
open Go.RowKit Go.Maps Go.WideMaps
open Sat (View Rule jk bG)
open aB (Key put dJ au isAtom cnt aQ fE)
attribute [local go_sem] Oper.semAt_some
structure Oh(w0:World)(f:Nat->Nat)(nt nc:Nat)(hl:List Bool)(o7:Option (Nat×Nat))(o8:Option Nat)(W:World):Prop where
 below:Below w0.heap.size w0 W
 s:∀b H,o7=some (b,H)->w0.heap.size<=H/\JG w0 f nt b W/\bY W H hl
 x:∀X,o8=some X->w0.heap.size<=X/\W.heap[X]?=some (.cells #[.map none,.slice none 0 0] 56)
 ne:∀b H X,o7=some (b,H)->o8=some X->H≠X
theorem bY.kept{w w':World}{H:Nat}{hl:List Bool}(h:bY w H hl)(hb:w'.heap[H]?=w.heap[H]?):bY w' H hl:=by
 refine⟨?_,λi hi=>(ae5 hb).trans (h.2 i hi)⟩;have:=h.1;rw[ag7 this]at hb;exact(ad3.1 hb).1
theorem Oh.grow{w0:World}{f:Nat->Nat}{nt nc:Nat}{hl:List Bool}{o7:Option (Nat×Nat)}{o8:Option Nat}{W W':World}(h:Oh w0 f nt nc hl o7 o8 W)(hb:Below W.heap.size W W'):Oh w0 f nt nc hl o7 o8 W' where
 below:=h.below.trans (hb.mono h.below.size)
 s:=λb H e=>⟨(h.s b H e).1,(h.s b H e).2.1.grow (bI hb),(h.s b H e).2.2.kept (hb.block H (h.s b H e).2.2.1)⟩
 x:=λX e=>⟨(h.x X e).1,(hb.block X (ad3.1 (h.x X e).2).1).trans (h.x X e).2⟩
 ne:=h.ne
theorem Oh.eight{w0:World}{f:Nat->Nat}{nt nc:Nat}{hl:List Bool}{o7:Option (Nat×Nat)}{W:World}(h:Oh w0 f nt nc hl o7 none W):Oh w0 f nt nc hl o7 (some W.heap.size) (W.alloc (.cells #[.map none,.slice none 0 0] 56)):=by
 have h2:=h.grow (below_alloc1 W (.cells #[.map none,.slice none 0 0] 56));refine⟨h2.below,h2.s,λX e=>(by cases e;exact⟨h.below.size,ae9 _ _⟩),λb H X e1 e2=>?_⟩;cases e2;have:=(h.s b H e1).2.2.1;omega
theorem Oh.seven{w0:World}{f:Nat->Nat}{nt nc b H:Nat}{hl:List Bool}{o8:Option Nat}{W W':World}(h:Oh w0 f nt nc hl none o8 W)(hH:W.heap.size<=H)(hJ:JG W f nt b W')(hr:bY W' H hl):Oh w0 f nt nc hl (some (b,H)) o8 W':=by
 have h2:=h.grow hJ.below;have hs:=h.below.size;refine⟨h2.below,λc G e=>?_,h2.x,λc G X e1 e2=>?_⟩
 ·cases e;exact⟨by omega,⟨hJ.m,hJ.roots,h2.below,af7 hs hJ.lo⟩,hr⟩
 ·cases e1;have:=(ad3.1 (h.x X e2).2).1;omega
structure SY(w0:World)(f:Nat->Nat)(nt nc b H X:Nat)(hl:List Bool)(W:World):Prop where
 j:JG w0 f nt b W
 lx:w0.heap.size<=X
 x:W.heap[X]?=some (.cells #[.map (some b),.slice (some ⟨H,0,none⟩) nc nc] 56)
 r:bY W H hl
theorem Oh.nine{w0:World}{f:Nat->Nat}{nt nc b H X:Nat}{hl:List Bool}{W:World}(h:Oh w0 f nt nc hl (some (b,H)) (some X) W):SY w0 f nt nc b H X hl ((W.setCell ⟨X,0,none⟩ (.map (some b))).setCell ⟨X,1,none⟩ (.slice (some ⟨H,0,none⟩) nc nc)):=by
 obtain⟨lx,hx⟩:=h.x X rfl;obtain⟨lh,hj,hr⟩:=h.s b H rfl;have hne:=h.ne b H X rfl rfl;refine⟨(hj.setCell (p:=⟨X,0,none⟩) lx (hj.lZ hx) _).setCell (p:=⟨X,1,none⟩) lx (hj.lZ hx) _,lx,xZ hx,hr.kept ?_⟩;exact(af4 _ _ _ _ hne).trans (af4 _ _ _ _ hne)
theorem JV{W:World}{rv:Value}{ak:List Rule}(h:bF W rv ak){k:Nat}{cur:Array Value}{t:TypeId}{x:Nat×Nat}(hk:W.heap[k]?=some (.cells cur t x))(ht:t≠130):some k≠rv.ownBlock:=λe=>by
 obtain⟨vs,⟨_,q⟩,_⟩:=h;rcases q with⟨rfl,_⟩|⟨g,cap,cur',rfl,q2,q3,q4⟩
 ·cases e
 ·cases e;rw[q3]at hk;simp at hk;exact ht hk.2.1.symm
theorem KR{ps:List Key}(hp:ps.length<=100):([]++lK id ps).length<=1000:=by
 have:=xY id ps;rw[ae7];omega
theorem wX(w:World)(GT GC GP:Nat)(ts:List Key)(cs:List (Int×Nat))(ps:List Key)(tape:ByteArray)(hF:FF ts cs ps)(hd:xg tape.data.toList)(h60:tape.size<=60)(hrt:bQ w GT ts)(hrc:eF w GC cs)(hrp:bQ w GP ps) :
  Calls prog 30 #[fv GT GC GP ts.length cs.length ps.length,.string tape] w λe w'=>D8 ts cs ps e/\Below w.heap.size w w':=by
 obtain⟨w0,hw0⟩:∃w0,w.alloc (.cells #[.slice (some ⟨GT,0,none⟩) ts.length ts.length,.slice (some ⟨GC,0,none⟩) cs.length cs.length,.slice (some ⟨GP,0,none⟩) ps.length ps.length] 46)=w0:=⟨_,rfl⟩;have hb0:Below w.heap.size w w0:=by rw[<-hw0];exact(ag6 _ w).alloc (ad5 _) _
 have hx0:w0.heap[w.heap.size]?=some (.cells #[.slice (some ⟨GT,0,none⟩) ts.length ts.length,.slice (some ⟨GC,0,none⟩) cs.length cs.length,.slice (some ⟨GP,0,none⟩) ps.length ps.length] 46 (0,0)):=by rw[<-hw0];exact ae9 _ _
 have hs0:w.heap.size<w0.heap.size:=(ad3.1 hx0).1;have hnl:=tC w0 (λ_=>True) (λ_=>False);have HF:=aj hF;have HD:=aj hd;have HRT:=aj hrt;have HRC:=aj hrc;have HRP:=aj hrp;clear hF hd hrt hrc hrp;unfold fv
 go_enter func30,ntmps30
 go_wp2_with fail
 clear hw0;refine hnl.mono ?_;rintro e w1 ⟨lb,BU,BS,rfl,iK,_,hg1⟩;obtain⟨w1',hw1⟩:∃w1',w1.alloc (.cells #[.pointer (some ⟨lb,0,none⟩)] 124)=w1':=⟨_,rfl⟩;have hg1':w1.grownBy w1' none:=by rw[<-hw1];exact ad4 _ _ none
 have hg01:=hg1.trans hg1';have hb01:Below w0.heap.size w0 w1':=(But.aA hg01).below (ad5 _) (λk _ e=>by cases e);have hxl:w1'.heap[w1.heap.size]?=some (.cells #[.pointer (some ⟨lb,0,none⟩)] 124 (0,0)):=by rw[<-hw1];exact ae9 _ _
 have hxf:=(hb01.block _ hs0).trans hx0;have hs1:w0.heap.size<=w1.heap.size:=hg1.size;have hs1':w1.heap.size<w1'.heap.size:=(ad3.1 hxl).1;have hgp:=(ah HRP).1;have yY:Below w.heap.size w w1':=hb0.trans (hb01.mono (by omega));have hst:=AB (λ_=>False) w0.heap.size w1' lb BU BS id (λ_=>True) [] [] [] GT GC GP ts.length cs.length ps (iK.grow hg1') (λk h=>h.elim) jW.nil (by simp) (by simp) ((ah HRP).below yY hgp) (by omega) (ah HF).kR (ah HF).hp0 (ah HF).hp (ah HF).h7 (ah HF).h4 (VY _ _ (λ_=>trivial)) (by omega);unfold fv at hst;have l0:w1'.cell? ⟨w1.heap.size,0,none⟩=some (.pointer (some ⟨lb,0,none⟩)):=by rw[cell_of hxl];rfl
 have q0:w1'.cell? ⟨w.heap.size,0,none⟩=some (.slice (some ⟨GT,0,none⟩) ts.length ts.length):=by rw[cell_of hxf];rfl
 have q1:w1'.cell? ⟨w.heap.size,1,none⟩=some (.slice (some ⟨GC,0,none⟩) cs.length cs.length):=by rw[cell_of hxf];rfl
 have q2:w1'.cell? ⟨w.heap.size,2,none⟩=some (.slice (some ⟨GP,0,none⟩) ps.length ps.length):=by rw[cell_of hxf];rfl
 have aco:=aj hb01;have X0:=aj yY;clear hnl iK hg1 hg1' hg01 hb01 yY
 go_wp2_with fail
 clear hw1;refine hst.mono ?_;rintro e w2 ⟨⟨z2,rfl⟩,ak,iQ,kY,hB2,hK2⟩;have Wu:=aI hK2 hxl;have YF:=aI hK2 hxf;have l2:w2.cell? ⟨w1.heap.size,0,none⟩=some (.pointer (some ⟨lb,0,none⟩)):=by rw[cell_of Wu];rfl
 obtain⟨Us,hUs⟩:∃Us,Us=mV id [] ps ps.length:=⟨_,rfl⟩;rw[<-hUs]at iQ kY;have hUc:∀p∈Us,p∈nU ps:=by rw[hUs];exact Ei (λp h=>by cases h) (EO (ah HF).kR) _
 have VF:∀q∈ps,q.1≠33->q∈Us:=λq hq h33=>by
  have:=Td (f:=id) (Us:=[]) (ps:=ps) ps.length (ad5 _) q (by rw[ai7];exact hq) h33;rw[hUs];exact this
 have hrl:=kY.len;have hsl:=KR (ah HF).hp;rw[ae7]at kY;have hUl:Us.length<=33:=af7 (qB _ Us kY.lp.nodup hUc) (NV (ah HF).ha);obtain⟨rv,hL,hRX,hro⟩:=iQ.rv;have hRV:=hRX.v;obtain⟨rp,rc,rfl⟩:=hRV.slice;have hls:=wC w2 lb BU (some BS) rp ak.length rc Us tape 66 #[.pointer (some ⟨w.heap.size,0,none⟩),.pointer (some ⟨w1.heap.size,0,none⟩)] hL iQ.us;have hs2:=hB2.size;have HLG:=aj iQ;have HLP:=aj kY;have HUC:=aj hUc;have HUA:=aj VF;have HL:=aj hL;have HRV:=aj hRV;have HRO:=aj hro;have HB2:=aj hB2;have HXL:=aj Wu;have HXF:=aj YF;clear hst iQ kY hUc VF hL hRX hRV hro hB2 hK2 hxl hxf l0 q0 q1 q2 hUs Wu YF
 go_wp2_with fail
 refine hls.mono ?_;rintro e w3 ⟨rfl,hS,hg3⟩;have hs3:=hg3.size;have h2U:=Yi hUl;have htl:tape.data.toList.length<=60:=h60;have hb03:Below w0.heap.size w0 w3:=(ah aco).trans ((ah HB2).trans ((But.aA hg3).below (by omega) (λk _ e=>by cases e)));have hfi:=Bv w3 (λk=>k=w2.heap.size\/some k=(Value.slice rp ak.length rc).ownBlock) w2.heap.size Us.length 5000000000000 66 [.pointer (some ⟨w.heap.size,0,none⟩),.pointer (some ⟨w1.heap.size,0,none⟩)] (.slice rp ak.length rc) tape.data.toList ak (Th1 ts cs Us) True (KE ts cs Us) (J1 Us.length) (J1 Us.length) (aas Us.length) (tape.data.toList.length+62*2 ^ Us.length) hS
  ((ah HRV).but (But.aA hg3) (λk e=>by cases e) (λk _ e=>by cases e)) (ah HLP).lp.rg (ah HD) (by omega)
  ⟨by simp[Tl];omega,[],⟨ap3,λc h=>(by cases h),λc h=>(by cases h)⟩,by
   by_cases e:tape.data.toList=[]
   ·exact Or.inr ⟨e,[],SV.nil _ _ _,by simp[e]⟩
   ·exact Or.inl ⟨e,by simp⟩⟩
  (Or.inl rfl) (λk hk=>Or.inr hk.symm) (by omega) (ad5 _) (ar6 func66 (by kernel_rfl) rfl)
  (λW m τ hBW hm hbel hlt hall=>by
   obtain⟨hL4,hM4⟩:=(ah HLG).after (ah HL) (ah HRV) hg3 hBW (ad5 _);have hbW:Below w0.heap.size w0 W:=hb03.trans (hBW.below (by omega) (λk hk e=>by
    rcases e with e|e
    ·omega
    ·have:=ah HRO k e.symm;omega))
   have hbw:Below w.heap.size w W:=hb0.trans (hbW.mono (by omega));have kp:∀(k:Nat) (cur:Array Value) (t:TypeId) (x:Nat×Nat),w2.heap[k]?=some (.cells cur t x)->t≠130->W.heap[k]?=some (.cells cur t x):=λk cur t x h1 h2=>by
    have hkl:=(ad3.1 h1).1;refine(hBW.block k (by omega) (λe=>?_)).trans ((hg3.block k hkl (by simp)).trans h1);rcases e with e|e
    ·omega
    ·exact JV (ah HRV) h1 h2 e
   exact vK W GT GC GP w.heap.size w1.heap.size lb BU m (some BS) (.slice rp ak.length rc) ts cs ps Us τ (ah HF) hUl (ah HLP).lp.nodup (ah HUC) ((ah HRT).below hbw (ah HRT).1) ((ah HRC).below hbw (ah HRC).1) (kp _ _ _ _ (ah HXF) (by decide)) (kp _ _ _ _ (ah HXL) (by decide)) hL4 hM4 hbel.m hlt hall)
 have HG3:=aj hg3;have aap:=aj hb03;clear hls hS hg3 hb03
 go_wp2_with fail
 refine hfi.mono ?_;rintro e w4 ⟨hE,hB4⟩;obtain⟨hL4,hM4⟩:=(ah HLG).after (ah HL) (ah HRV) (ah HG3) hB4 (ad5 _);have hb04:Below w0.heap.size w0 w4:=(ah aap).trans (hB4.below (by omega) (λk hk e=>by
  rcases e with e|e
  ·omega
  ·have:=ah HRO k e.symm;omega))
 have hb4:Below w.heap.size w w4:=hb0.trans (hb04.mono (by omega));have Ws:w4.heap[w1.heap.size]?=some (.cells #[.pointer (some ⟨lb,0,none⟩)] 124 (0,0)):=by
  have hkl:=(ad3.1 (ah HXL)).1;refine(hB4.block _ (by omega) (λe=>?_)).trans (((ah HG3).block _ hkl (by simp)).trans (ah HXL));rcases e with e|e
  ·omega
  ·exact JV (ah HRV) (ah HXL) (by decide) e
 have YE:=(hb04.block _ hs0).trans hx0;have HB4:=aj hb4;have X3:=aj hb04;clear hfi hB4 hb4 hb04 hx0;rcases hE with⟨rfl,rv',tp',m,τ,aK,hFI,hall,hsub,hdone,hgood⟩|⟨rfl,hno⟩
 ·obtain⟨fg,hcg,hcb⟩:=hgood;have Qk:Hid (∀f'',Closed ts (aX ((fA Us τ).map dD)) f''->xP f'' ts cs ps (kQ (fA Us τ) cs.length)):=λf'' hf=>
   KH (ah HF).kR (ah HF).hk (ah HF).hp0 (ah HF).hcs (ah HLP) (ah HUC) (ah HUA) hdone hsub hall hcg hcb hf
  have Qh:=hFI.uM.cells.2.2.2.2;have aaE:=hFI.uM.lt;have hlen:=yT (fA Us τ) cs.length;have hBM:=hFI.bs.m;have nD:Hid (∀W,Below w4.heap.size w4 W->Calls prog 63 #[.pointer (some ⟨lb,0,none⟩),.map (some m)] W λe w'=>∃v,e=.returned v/\fV w' v (fA Us τ)/\Below W.heap.size W w'):=λW hW=>
   oV W lb BU m (some BS) (.slice rp ak.length rc) Us τ (hL4.kept (hW.block lb hL4.lt)) (hM4.kept (hW.block BU hM4.lt)) (ah HLP).lp.nodup (by omega) (λx hx=>(ah HF).key1 (ah HUC x hx)) (hBM.kept (hW.block m hBM.lt)) hFI.lt hall
  have Qe:∀s∈fA Us τ,(s.2.2.1=61->s.2.2.2.1<ts.length/\s.2.2.2.2<ts.length)/\(s.2.2.1≠61->s.2.2.2.1<cs.length):=λs hs=>by
   obtain⟨g1,g2,_,_⟩:=rF (ah HLP).lp.nodup hs;rcases nJ (ah HF).kR (ah HF).hk (ah HUC _ g1) g2 with⟨a,b,c⟩|⟨a,⟨b,_⟩,c⟩
   ·exact⟨λ_=>⟨b,c⟩,λh=>absurd a h⟩
   ·exact⟨λh=>by omega,λ_=>b⟩
  have hsl2:(fA Us τ).length<=1000:=af7 (oW Us τ Us.length) (by omega);have SE:=aj Qe;clear hFI hall hsub hdone Qe hL4 hM4 hBM hcg hcb;generalize fA Us τ=ss at nD Qk SE hsl2 hlen;have hsit:Hid (∀W v,fV W v ss->Calls prog 62 #[.agg #[.slice (some ⟨GT,0,none⟩) ts.length ts.length,.slice (some ⟨GC,0,none⟩) cs.length cs.length,.slice (some ⟨GP,0,none⟩) ps.length ps.length],v] W λe w'=>∃b H,e=.returned (.agg #[.map (some b),.slice (some ⟨H,0,none⟩) cs.length cs.length])/\W.heap.size<=H/\JG W (aX (ss.map dD)) ts.length b w'/\bY w' H (kQ ss cs.length)):=λW v hs=>
   nO GT GC GP ts.length cs.length ps.length v ss W (ah HF).h7 (ah HF).h4 hs hsl2 (ah SE)
  have hSt:Hid (∀W',Below w4.heap.size w4 W'->W'.cell? ⟨w.heap.size,0,none⟩=some (.slice (some ⟨GT,0,none⟩) ts.length ts.length)/\W'.cell? ⟨w.heap.size,1,none⟩=some (.slice (some ⟨GC,0,none⟩) cs.length cs.length)/\W'.cell? ⟨w.heap.size,2,none⟩=some (.slice (some ⟨GP,0,none⟩) ps.length ps.length)/\W'.cell? ⟨w2.heap.size,4,none⟩=some (.map (some m))/\W'.cell? ⟨w1.heap.size,0,none⟩=some (.pointer (some ⟨lb,0,none⟩))):=λW' hW=>by
   have hx:=(hW.block w.heap.size (af5 hs0 (ah X3).size)).trans YE;have hy:=(hW.block w1.heap.size (ad3.1 Ws).1).trans Ws;exact⟨by rw[cell_of hx];rfl,by rw[cell_of hx];rfl,by rw[cell_of hx];rfl,(hW.cell (p:=⟨w2.heap.size,4,none⟩) aaE).trans Qh,by rw[cell_of hy];rfl⟩
  have HLEN:=aj hlen;clear YE Ws Qh hlen l2;have hI:Oh w4 (aX (ss.map dD)) ts.length cs.length (kQ ss cs.length) none none w4:=⟨ag6 _ _,λ_ _ e=>(by cases e),λ_ e=>(by cases e),λ_ _ _ e=>(by cases e)⟩
  go_wp2_with fail
  refine Code.wp_mono (Q:=λe a W'=>e=.normal/\∃(v26:Value) (b H X:Nat),a={tmps:=#[.agg #[.slice (some ⟨GT,0,none⟩) ts.length ts.length,.slice (some ⟨GC,0,none⟩) cs.length cs.length,.slice (some ⟨GP,0,none⟩) ps.length ps.length],.string tape,.pointer (some ⟨w.heap.size,0,none⟩),undef,.bool false,.string ⟨#[]⟩,.pointer (some ⟨w1.heap.size,0,none⟩),.pointer (some ⟨w2.heap.size,0,none⟩),.pointer (some ⟨X,0,none⟩),.pointer (some ⟨lb,0,none⟩),.pointer (some ⟨lb,0,none⟩),.agg #[.slice (some ⟨GT,0,none⟩) ts.length ts.length,.slice (some ⟨GC,0,none⟩) cs.length cs.length,.slice (some ⟨GP,0,none⟩) ps.length ps.length],z2,.pointer (some ⟨lb,0,none⟩),.string tape,.func (.func 66) #[] #[.pointer (some ⟨w.heap.size,0,none⟩),.pointer (some ⟨w1.heap.size,0,none⟩)],.pointer (some ⟨w2.heap.size,0,none⟩),.pointer (some ⟨w2.heap.size,0,none⟩),.bool true,.bool false,.agg #[.slice (some ⟨GT,0,none⟩) ts.length ts.length,.slice (some ⟨GC,0,none⟩) cs.length cs.length,.slice (some ⟨GP,0,none⟩) ps.length ps.length],.pointer (some ⟨lb,0,none⟩),.pointer (some ⟨w2.heap.size,0,none⟩),.pointer (some ⟨w2.heap.size,0,none⟩),.pointer (some ⟨w2.heap.size,4,none⟩),.map (some m),v26,.agg #[.map (some b),.slice (some ⟨H,0,none⟩) cs.length cs.length],undef,undef,undef,undef,undef,undef,undef],defers:=[]}/\SY w4 (aX (ss.map dD)) ts.length cs.length b H X (kQ ss cs.length) W') ?_ ?_
  rotate_left
  ·refine ah0 (S:=λW'=>Below w4.heap.size w4 W') rfl ?_;simp only[ae2,ae1,ae8,Nat.reduceAdd,ae0,ad9,ae4,ae7,ae6];have hgd:Below w4.heap.size w4 w4.drew:=(ag6 _ _).drew;have hI:=hI.grow hgd;change wpAnyH prog .any _ _ _ _ _ _ w4.drew;generalize w4.drew=W at hI ⊢;clear hgd;have hS0:=hI.below;refine tH 0 (.agg #[.slice (some ⟨GT,0,none⟩) ts.length ts.length,.slice (some ⟨GC,0,none⟩) cs.length cs.length,.slice (some ⟨GP,0,none⟩) ps.length ps.length]) (λw' hS=>?_) hS0 ?_
   ·obtain⟨s1,s2,s3,s4,s5⟩:=ah hSt _ hS;go_simp
   simp only[aC];refine tH 1 (.pointer (some ⟨lb,0,none⟩)) (λw' hS=>?_) hS0 ?_
   ·obtain⟨s1,s2,s3,s4,s5⟩:=ah hSt _ hS;go_simp
   simp only[aC];refine tH 2 (.pointer (some ⟨w2.heap.size,0,none⟩)) (λw' hS=>?_) hS0 ?_
   ·go_simp
   simp only[aC];refine tH 3 (.pointer (some ⟨w2.heap.size,0,none⟩)) (λw' hS=>?_) hS0 ?_
   ·go_simp
   simp only[aC];refine tH 4 (.pointer (some ⟨w2.heap.size,4,none⟩)) (λw' hS=>?_) hS0 ?_
   ·go_simp
   simp only[aC];refine tH 5 (.map (some m)) (λw' hS=>?_) hS0 ?_
   ·obtain⟨s1,s2,s3,s4,s5⟩:=ah hSt _ hS;go_simp
   simp only[aC];clear hS0;refine a2 6 8 ?_ ?_
   ·refine oO (λK hK=>?_);have hsy:=ah nD W hI.below;go_simp;refine hsy.mono ?_;rintro e W2 ⟨v26,rfl,hsv,hb⟩;have hI2:=hI.grow hb;refine hK.out _ _ ⟨hI2.below,?_⟩;clear hK K hsy hb hI W
    rename World=>W
    have hI:=hI2;clear hI2;refine a2 7 8 ?_ ?_
    ·refine oO (λK hK=>?_);have hst:=ah hsit W v26 hsv;obtain⟨vp,vc,rfl,hdrop⟩:=id hsv;clear hdrop;go_simp;refine hst.mono ?_;rintro e W2 ⟨b,H,rfl,hH,hJ,hrows⟩;have hI2:=hI.seven hH hJ hrows;refine hK.out _ _ ⟨hI2.below,?_⟩;clear hK K hst hH hJ hrows hI hsv W
     rename World=>W
     have hI:=hI2;clear hI2;refine oH 8 (λK hK=>?_);have hI2:=hI.eight;go_simp;refine hK.out _ _ hI2.below ?_;clear hK K;generalize W.alloc (.cells #[.map none,.slice none 0 0] 56)=W2 at hI2 ⊢;generalize W.heap.size=X at hI2 ⊢;clear hI W
     rename World=>W
     have hI:=hI2;clear hI2;have cx:=hI.x X rfl;have cx0:W.cell? ⟨X,0,none⟩=some (.map none):=(by rw[cell_of cx.2];rfl);have cx1:W.cell? ⟨X,1,none⟩=some (.slice none 0 0):=(by rw[cell_of cx.2];rfl);have fx0:W.frozen? ⟨X,0,none⟩=false:=(by simp[World.frozen?,cx.2]);have fx1:W.frozen? ⟨X,1,none⟩=false:=(by simp[World.frozen?,cx.2]);refine oH 9 (λK hK=>?_);go_simp;refine hK.out _ _ hI.nine.j.below (ag5 (by kernel_rfl) ⟨rfl,_,b,H,X,rfl,hI.nine⟩ _)
    ·refine oO (λK hK=>?_);have hI2:=hI.eight;have WH:=hsv.below (below_alloc1 W (.cells #[.map none,.slice none 0 0] 56));go_simp;refine hK.out _ _ ⟨hI2.below,?_⟩;clear hK K;generalize W.alloc (.cells #[.map none,.slice none 0 0] 56)=W2 at hI2 WH ⊢;generalize W.heap.size=X at hI2 ⊢;clear hI hsv W
     rename World=>W
     have hI:=hI2;clear hI2;have hsv:=WH;clear WH;refine oH 7 (λK hK=>?_);have hst:=ah hsit W v26 hsv;obtain⟨vp,vc,rfl,hdrop⟩:=id hsv;clear hdrop;go_simp;refine hst.mono ?_;rintro e W2 ⟨b,H,rfl,hH,hJ,hrows⟩;have hI2:=hI.seven hH hJ hrows;refine hK.out _ _ hI2.below ?_;clear hK K hst hH hJ hrows hI hsv W
     rename World=>W
     have hI:=hI2;clear hI2;have cx:=hI.x X rfl;have cx0:W.cell? ⟨X,0,none⟩=some (.map none):=(by rw[cell_of cx.2];rfl);have cx1:W.cell? ⟨X,1,none⟩=some (.slice none 0 0):=(by rw[cell_of cx.2];rfl);have fx0:W.frozen? ⟨X,0,none⟩=false:=(by simp[World.frozen?,cx.2]);have fx1:W.frozen? ⟨X,1,none⟩=false:=(by simp[World.frozen?,cx.2]);refine oH 9 (λK hK=>?_);go_simp;refine hK.out _ _ hI.nine.j.below (ag5 (by kernel_rfl) ⟨rfl,_,b,H,X,rfl,hI.nine⟩ _)
   ·refine oO (λK hK=>?_);have hI2:=hI.eight;go_simp;refine hK.out _ _ ⟨hI2.below,?_⟩;clear hK K;generalize W.alloc (.cells #[.map none,.slice none 0 0] 56)=W2 at hI2 ⊢;generalize W.heap.size=X at hI2 ⊢;clear hI W
    rename World=>W
    have hI:=hI2;clear hI2;refine oH 6 (λK hK=>?_);have hsy:=ah nD W hI.below;go_simp;refine hsy.mono ?_;rintro e W2 ⟨v26,rfl,hsv,hb⟩;have hI2:=hI.grow hb;refine hK.out _ _ hI2.below ?_;clear hK K hsy hb hI W
    rename World=>W
    have hI:=hI2;clear hI2;refine oH 7 (λK hK=>?_);have hst:=ah hsit W v26 hsv;obtain⟨vp,vc,rfl,hdrop⟩:=id hsv;clear hdrop;go_simp;refine hst.mono ?_;rintro e W2 ⟨b,H,rfl,hH,hJ,hrows⟩;have hI2:=hI.seven hH hJ hrows;refine hK.out _ _ hI2.below ?_;clear hK K hst hH hJ hrows hI hsv W
    rename World=>W
    have hI:=hI2;clear hI2;have cx:=hI.x X rfl;have cx0:W.cell? ⟨X,0,none⟩=some (.map none):=(by rw[cell_of cx.2];rfl);have cx1:W.cell? ⟨X,1,none⟩=some (.slice none 0 0):=(by rw[cell_of cx.2];rfl);have fx0:W.frozen? ⟨X,0,none⟩=false:=(by simp[World.frozen?,cx.2]);have fx1:W.frozen? ⟨X,1,none⟩=false:=(by simp[World.frozen?,cx.2]);refine oH 9 (λK hK=>?_);go_simp;refine hK.out _ _ hI.nine.j.below (ag5 (by kernel_rfl) ⟨rfl,_,b,H,X,rfl,hI.nine⟩ _)
  ·rintro e a W ⟨rfl,v26,b,H,X,rfl,hSY⟩;dsimp only;obtain⟨s1,s2,s3,_,_⟩:=ah hSt W hSY.j.below;have x0:W.cell? ⟨X,0,none⟩=some (.map (some b)):=(by rw[cell_of hSY.x];rfl);have x1:W.cell? ⟨X,1,none⟩=some (.slice (some ⟨H,0,none⟩) cs.length cs.length):=(by rw[cell_of hSY.x];rfl);obtain⟨c0,hm0,hm1⟩:=hSY.j.m;have hbW:Below w.heap.size w W:=(ah HB4).trans (hSY.j.below.mono (ah HB4).size);have hcl:=close_any GT GC GP cs.length ps.length b c0 _ ts W (ah HF).h7 ((ah HRT).below hbW (ah HRT).1) (ah HF).inv hm0 hm1 hSY.j.roots (ah HF).ht;unfold fv at hcl;have hXb:=hSY.j.lZ hSY.x;have hwb:w.heap.size≠b:=(by have:=hSY.j.lo;have:=(ah X3).size;omega);have hlo:=hSY.j.lo;have hs4:=(ah X3).size;have HSY:=aj hSY;have HBW:=aj hbW;obtain⟨ob,hob,hoc⟩:=hm0.obj;have hRH:Hid (∀w5,W.grownBy w5 (some b)->bY w5 H (kQ ss cs.length)):=λw5 hg=>by
    refine⟨af5 (ah HSY).r.1 hg.size,λi hi=>?_⟩;have hc:=(ah HSY).r.2 i hi;refine hg.cell hc (λe=>?_);have e:H=b:=(by simpa using e);obtain⟨o',ho',hc'⟩:=aq6 hc;have ho':W.heap[H]?=some o':=ho';rw[e,hob]at ho';cases ho';cases ob<;>first|exact hoc _ _ _ rfl|cases hc'
   clear hm0 hm1 hSY hbW hob hoc hI
   go_wp2_with fail
   refine hcl.mono ?_;rintro e w5 ⟨⟨v5,rfl⟩,f',yX,⟨c1,hm5,_⟩,hg5⟩;have t1:=hg5.cell s1 (by simpa using hwb);have t2:=hg5.cell s2 (by simpa using hwb);have t3:=hg5.cell s3 (by simpa using hwb);have y0:=hg5.cell x0 (by simpa using hXb.symm);have y1:=hg5.cell x1 (by simpa using hXb.symm);have hwr:=oN GT GC GP ts.length cs.length ps.length b c1 H f' (kQ ss cs.length) w5 (ah HF).h7 (by rw[ah HLEN];exact(ah HF).h4) (λi hi=>(yX.roots i hi).1) hm5 (ah hRH w5 hg5);unfold fv sv at hwr;rw[ah HLEN]at hwr;have hb5:Below w.heap.size w w5:=(ah HBW).grown hg5 (ah HBW).size (λk e=>by cases e;omega);have HB5:=aj hb5;have HMD:=aj (ah Qk f' yX);clear hcl yX hm5 hg5 hb5 s1 s2 s3 x0 x1
   go_wp2_with fail
   refine hwr.mono ?_;rintro e w6 ⟨rfl,hb6⟩;have HB6:=aj ((ah HB5).trans (hb6.mono (ah HB5).size));clear hwr hb6 t1 t2 t3 y0 y1
   go_wp2_with fail
   refine ag3 (v:=.tuple #[.bool true,.string ⟨(wrt f' ts.length (kQ ss cs.length)).toArray⟩]) (by simp[results,results30,go_sem]) rfl ⟨Or.inr ⟨_,_,ah HLEN,ah HMD,rfl⟩,ah HB6⟩
 ·have hnone:=KG (ah HF).kR (ah HF).hk (ah HF).hp0 (ah HLP) (ah HUC) hno;have HN:=aj hnone;clear hnone hno hL4 hM4
  go_wp2_with fail
  refine ag3 (v:=.tuple #[.bool false,.string ⟨#[]⟩]) (by simp[results,results30,go_sem]) rfl ⟨Or.inl ⟨rfl,ah HN⟩,ah HB4⟩
end Go.Proofs.YthcppbmkacbbiabGreat
