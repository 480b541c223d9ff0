import Derived.Test.YthcppbmkacbbiaaGreatYBS
import Derived.Test.YthcppbmkacbbiaaGreatYBQ
set_option linter.unusedSimpArgs false
set_option maxHeartbeats 4000000
set_option maxRecDepth 100000
namespace Go.Proofs.YthcppbmkacbbiaaGreat
open Go.Proofs.Tryz
open Go.RowKit Go.Maps Go.WideMaps
open Sat (View Rule jw bI)
open aB (Key put dH au isAtom cnt aP fD)
attribute [local go_sem] Oper.semAt_some
def JY(ts:List Key)(cs:List (Int×Nat))(Us:List Key)(τ:List Tr):Prop:=
 ∃f',Closed ts (aY ((fA Us τ).map dF)) f'/\cb f' cs ((fA Us τ).map dF)
theorem vH(W:World)(GT GC GP xf xl lb BU m:Nat)(ms:Option Nat)(rv:Value)(ts:List Key)(cs:List (Int×Nat))(ps Us:List Key)(τ:List Tr)(hF:FF ts cs ps)(hU:Us.length<=33)(hnd:Us.Nodup)(hUc:∀p∈Us,p∈oC ps)
 (hrt:cO W GT ts)(hrc:eP W GC cs)(hxf:W.heap[xf]?=some (.cells #[.slice (some ⟨GT,0,none⟩) ts.length ts.length,.slice (some ⟨GC,0,none⟩) cs.length cs.length,.slice (some ⟨GP,0,none⟩) ps.length ps.length] 54 (0,0)))
 (hxl:W.heap[xl]?=some (.cells #[.pointer (some ⟨lb,0,none⟩)] 155 (0,0)))(hL:oJ W lb (some BU) ms rv)(hM:aH W 93 BU aS Us)(hB:lq W m τ)(hlt:∀q∈τ,q.1<Us.length)(hall:∀x,x<Us.length->lG τ x=true) :
  Calls prog 94 #[.map (some m),.pointer (some ⟨xf,0,none⟩),.pointer (some ⟨xl,0,none⟩)] W λe W'=>∃v r,e=.returned v/\aQ W' v r/\Below W.heap.size W W'/\(r=[]->JY ts cs Us τ)/\
   (r≠[]->True/\r.Nodup/\r.length<=1000/\(∀u∈r,u.1<Us.length/\Sat.wrong (bel τ) u)/\∀α,ZE ts cs Us α->Sat.keeps α r):=by
 have hsub:=xX (τ:=τ) hF.ny hF.hk hUc hnd (λs hs=>hs);have hfl:=(ac0.1 hxf).1;have hll:=(ac0.1 hxl).1;have nU:Hid (∀W',Below W.heap.size W W'->Calls prog 91 #[.pointer (some ⟨lb,0,none⟩),.map (some m)] W' λe w'=>∃v,e=.returned v/\gy w' v (fA Us τ)/\Below W'.heap.size W' w'):=λW' hW=>
  pJ W' lb BU m ms rv Us τ (hL.kept (hW.block lb hL.lt)) (hM.kept (hW.block BU hM.lt)) hnd (by omega) (λx hx=>hF.key1 (hUc x hx)) (hB.kept (hW.block m hB.lt)) hlt hall
 have hsl:(fA Us τ).length<=100:=ae4 (pK Us τ Us.length) (by omega);have VJ:Hid (∀W' v,Below W.heap.size W W'->gy W' v (fA Us τ)->Calls prog 95 #[fv GT GC GP ts.length cs.length ps.length,v] W' λe w'=>∃v' r,e=.returned v'/\aQ w' v' r/\Below W'.heap.size W' w'/\(r=[]->JY ts cs Us τ)/\
   (r≠[]->True/\r.Nodup/\r.length<=1000/\(∀u∈r,u.1<Us.length/\Sat.wrong (bel τ) u)/\∀α,ZE ts cs Us α->Sat.keeps α r)):=λW' v hW hs=>by
  refine(zX GT GC GP ps.length ts cs v (fA Us τ) W' hF.h7 hs hsl (hrt.below hW hrt.1) (hrc.below hW hrc.1) hF.inv hF.ht hF.hcs hsub).mono ?_;rintro e w' ⟨v',r,rfl,hr,hb,h⟩;refine⟨v',r,rfl,hr,hb,?_,?_⟩
  ·intro hr0;rcases h with⟨_,f',h1,h2⟩|⟨S,hS,rfl,f',h1,h2⟩
   ·exact⟨f',h1,h2⟩
   ·have:S=[]:=List.map_eq_nil_iff.1 hr0;subst this;exact absurd (WS _ _) h2
  ·intro hr0;rcases h with⟨h,_⟩|⟨S,hS,rfl,f',h1,h2⟩
   ·exact absurd h hr0
   ·have hm:∀s∈S,s∈fA Us τ:=λs hs=>hS.subset hs;refine⟨trivial,Lh ((Gj Us τ).sublist (hS.map _)),?_,Lc hall hm,λα hα=>Ld hF.ny hF.hk hUc hnd hF.hcs hm h1 h2 α hα⟩;rw[aj7];have:=hS.length_le;omega
 have hSt:Hid (∀W',Below W.heap.size W W'->W'.cell? ⟨xf,0,none⟩=some (.slice (some ⟨GT,0,none⟩) ts.length ts.length)/\W'.cell? ⟨xf,1,none⟩=some (.slice (some ⟨GC,0,none⟩) cs.length cs.length)/\W'.cell? ⟨xf,2,none⟩=some (.slice (some ⟨GP,0,none⟩) ps.length ps.length)/\W'.cell? ⟨xl,0,none⟩=some (.pointer (some ⟨lb,0,none⟩))):=λW' hW=>by
  have hx:=(hW.block xf hfl).trans hxf;have hy:=(hW.block xl hll).trans hxl;exact⟨by rw[cell_of hx];rfl,by rw[cell_of hx];rfl,by rw[cell_of hx];rfl,by rw[cell_of hy];rfl⟩
 generalize JY ts cs Us τ=Gd at VJ ⊢;clear hF hU hnd hUc hrt hrc hxf hxl hL hM hB hlt hall hsub hsl hfl hll;unfold fv at VJ
 go_enter func94,ntmps94
 go_wp2_with fail
 refine ag0 (S:=λW'=>Below W.heap.size W W') rfl ?_;have hS0:Below W.heap.size W W.drew:=(af5 _ _).drew;simp only[ad3,ac9,ae1,Nat.reduceAdd,ac7,ac6,ad5,ad9,ad8];change wpAnyH prog .any _ _ _ _ _ _ W.drew;refine tH 0 (.agg #[.slice (some ⟨GT,0,none⟩) ts.length ts.length,.slice (some ⟨GC,0,none⟩) cs.length cs.length,.slice (some ⟨GP,0,none⟩) ps.length ps.length]) (λw' hS=>?_) hS0 ?_
 ·obtain⟨s1,s2,s3,s4⟩:=ah hSt _ hS;go_simp
 simp only[aC];refine tH 1 (.pointer (some ⟨lb,0,none⟩)) (λw' hS=>?_) hS0 ?_
 ·obtain⟨s1,s2,s3,s4⟩:=ah hSt _ hS;go_simp
 simp only[aC];refine tH 2 (.map (some m)) (λw' hS=>?_) hS0 ?_
 ·go_simp
 simp only[aC];refine oH 3 (λK hK=>?_);go_simp;refine(ah nU _ hS0).mono ?_;rintro e w4 ⟨v,rfl,hsv,hb4⟩;replace hS0:=hS0.trans (hb4.mono hS0.size);refine hK.out _ _ hS0 ?_;clear hK K;refine oH 4 (λK hK=>?_);go_simp;refine(ah VJ _ _ hS0 hsv).mono ?_;rintro e w5 ⟨v5,r5,rfl,hr5,hb5,hg5,hn5⟩;replace hS0:=hS0.trans (hb5.mono hS0.size);refine hK.out _ _ hS0 ?_;clear hK K;have HS5:=aj hS0;have HR5:=aj hr5;have HG5:=aj hg5;have HN5:=aj hn5;obtain⟨rp5,rc5,rfl⟩:=hr5.len;clear hsv hb4 hb5 hr5 hg5 hn5;refine oH 5 (λK hK=>?_);go_simp;refine hK.out _ _ (hS0) (af4 (by kernel_rfl) ?_ _);clear hK K;clear hS0
 go_wp2_with fail
 refine af2 (v:=.slice rp5 r5.length rc5) (by simp[results,results94,go_sem]) rfl ?_;exact⟨_,r5,rfl,ah HR5,ah HS5,ah HG5,ah HN5⟩
structure NR(w0:World)(f:Nat->Nat)(nt nc:Nat)(hl:List Bool)(o7:Option (Nat×Nat))(o8:Option Nat)(W:World):Prop where
 below:Below w0.heap.size w0 W
 s:∀b H,o7=some (b,H)->w0.heap.size<=H/\JG w0 f nt b W/\dw W H hl
 x:∀X,o8=some X->w0.heap.size<=X/\W.heap[X]?=some (.cells #[.map none,.slice none 0 0] 105)
 ne:∀b H X,o7=some (b,H)->o8=some X->H≠X
theorem dw.kept{w w':World}{H:Nat}{hl:List Bool}(h:dw w H hl)(hb:w'.heap[H]?=w.heap[H]?):dw w' H hl:=by
 refine⟨?_,λi hi=>(ae0 hb).trans (h.2 i hi)⟩;have:=h.1;rw[ag7 this]at hb;exact(ac0.1 hb).1
theorem NR.grow{w0:World}{f:Nat->Nat}{nt nc:Nat}{hl:List Bool}{o7:Option (Nat×Nat)}{o8:Option Nat}{W W':World}(h:NR w0 f nt nc hl o7 o8 W)(hb:Below W.heap.size W W'):NR w0 f nt nc hl o7 o8 W' where
 below:=h.below.trans (hb.mono h.below.size)
 s:=λb H e=>⟨(h.s b H e).1,(h.s b H e).2.1.grow (bM hb),(h.s b H e).2.2.kept (hb.block H (h.s b H e).2.2.1)⟩
 x:=λX e=>⟨(h.x X e).1,(hb.block X (ac0.1 (h.x X e).2).1).trans (h.x X e).2⟩
 ne:=h.ne
theorem NR.eight{w0:World}{f:Nat->Nat}{nt nc:Nat}{hl:List Bool}{o7:Option (Nat×Nat)}{W:World}(h:NR w0 f nt nc hl o7 none W):NR w0 f nt nc hl o7 (some W.heap.size) (W.alloc (.cells #[.map none,.slice none 0 0] 105)):=by
 have h2:=h.grow (below_alloc1 W (.cells #[.map none,.slice none 0 0] 105));refine⟨h2.below,h2.s,λX e=>(by cases e;exact⟨h.below.size,ad7 _ _⟩),λb H X e1 e2=>?_⟩;cases e2;have:=(h.s b H e1).2.2.1;omega
theorem NR.seven{w0:World}{f:Nat->Nat}{nt nc b H:Nat}{hl:List Bool}{o8:Option Nat}{W W':World}(h:NR w0 f nt nc hl none o8 W)(hH:W.heap.size<=H)(hJ:JG W f nt b W')(hr:dw W' H hl):NR w0 f nt nc hl (some (b,H)) o8 W':=by
 have h2:=h.grow hJ.below;have hs:=h.below.size;refine⟨h2.below,λc G e=>?_,h2.x,λc G X e1 e2=>?_⟩
 ·cases e;exact⟨by omega,⟨hJ.m,hJ.roots,h2.below,ae4 hs hJ.lo⟩,hr⟩
 ·cases e1;have:=(ac0.1 (h.x X e2).2).1;omega
structure SY(w0:World)(f:Nat->Nat)(nt nc b H X:Nat)(hl:List Bool)(W:World):Prop where
 j:JG w0 f nt b W
 lx:w0.heap.size<=X
 x:W.heap[X]?=some (.cells #[.map (some b),.slice (some ⟨H,0,none⟩) nc nc] 105)
 r:dw W H hl
theorem NR.nine{w0:World}{f:Nat->Nat}{nt nc b H X:Nat}{hl:List Bool}{W:World}(h:NR w0 f nt nc hl (some (b,H)) (some X) W):SY w0 f nt nc b H X hl ((W.setCell ⟨X,0,none⟩ (.map (some b))).setCell ⟨X,1,none⟩ (.slice (some ⟨H,0,none⟩) nc nc)):=by
 obtain⟨lx,hx⟩:=h.x X rfl;obtain⟨lh,hj,hr⟩:=h.s b H rfl;have hne:=h.ne b H X rfl rfl;refine⟨(hj.setCell (p:=⟨X,0,none⟩) lx (hj.mQ hx) _).setCell (p:=⟨X,1,none⟩) lx (hj.mQ hx) _,lx,xW hx,hr.kept ?_⟩;exact(ae3 _ _ _ _ hne).trans (ae3 _ _ _ _ hne)
theorem Jq{W:World}{rv:Value}{ak:List Rule}(h:bH W rv ak){k:Nat}{cur:Array Value}{t:TypeId}{x:Nat×Nat}(hk:W.heap[k]?=some (.cells cur t x))(ht:t≠161):some k≠rv.ownBlock:=λe=>by
 obtain⟨vs,⟨_,q⟩,_⟩:=h;rcases q with⟨rfl,_⟩|⟨g,cap,cur',rfl,q2,q3,q4⟩
 ·cases e
 ·cases e;rw[q3]at hk;simp at hk;exact ht hk.2.1.symm
theorem Kt{ps:List Key}(hp:ps.length<=100):([]++l9 id ps).length<=1000:=by
 have:=xU id ps;rw[ad9];omega
theorem wZ(w:World)(GT GC GP:Nat)(ts:List Key)(cs:List (Int×Nat))(ps:List Key)(tape:ByteArray)(hF:FF ts cs ps)(hd:xg tape.data.toList)(h60:tape.size<=60)(hrt:cO w GT ts)(hrc:eP w GC cs)(hrp:cO w GP ps) :
  Calls prog 53 #[fv GT GC GP ts.length cs.length ps.length,.string tape] w λe w'=>DJ ts cs ps e/\Below w.heap.size w w':=by
 obtain⟨w0,hw0⟩:∃w0,w.alloc (.cells #[.slice (some ⟨GT,0,none⟩) ts.length ts.length,.slice (some ⟨GC,0,none⟩) cs.length cs.length,.slice (some ⟨GP,0,none⟩) ps.length ps.length] 54)=w0:=⟨_,rfl⟩;have hb0:Below w.heap.size w w0:=by rw[<-hw0];exact(af5 _ w).alloc (ac2 _) _
 have hx0:w0.heap[w.heap.size]?=some (.cells #[.slice (some ⟨GT,0,none⟩) ts.length ts.length,.slice (some ⟨GC,0,none⟩) cs.length cs.length,.slice (some ⟨GP,0,none⟩) ps.length ps.length] 54 (0,0)):=by rw[<-hw0];exact ad7 _ _
 have hs0:w.heap.size<w0.heap.size:=(ac0.1 hx0).1;have hnl:=tu w0 (λ_=>True) (λ_=>False);have HF:=aj hF;have HD:=aj hd;have HRT:=aj hrt;have HRC:=aj hrc;have HRP:=aj hrp;clear hF hd hrt hrc hrp;unfold fv
 go_enter func53,ntmps53
 go_wp2_with fail
 clear hw0;refine hnl.mono ?_;rintro e w1 ⟨lb,BU,BS,rfl,iO,_,hg1⟩;obtain⟨w1',hw1⟩:∃w1',w1.alloc (.cells #[.pointer (some ⟨lb,0,none⟩)] 155)=w1':=⟨_,rfl⟩;have hg1':w1.grownBy w1' none:=by rw[<-hw1];exact ac1 _ _ none
 have hg01:=hg1.trans hg1';have hb01:Below w0.heap.size w0 w1':=(But.aA hg01).below (ac2 _) (λk _ e=>by cases e);have hxl:w1'.heap[w1.heap.size]?=some (.cells #[.pointer (some ⟨lb,0,none⟩)] 155 (0,0)):=by rw[<-hw1];exact ad7 _ _
 have hxf:=(hb01.block _ hs0).trans hx0;have hs1:w0.heap.size<=w1.heap.size:=hg1.size;have hs1':w1.heap.size<w1'.heap.size:=(ac0.1 hxl).1;have hgp:=(ah HRP).1;have yQ:Below w.heap.size w w1':=hb0.trans (hb01.mono (by omega));have hst:=Aq (λ_=>False) w0.heap.size w1' lb BU BS id (λ_=>True) [] [] [] GT GC GP ts.length cs.length ps (iO.grow hg1') (λk h=>h.elim) kC.nil (by simp) (by simp) ((ah HRP).below yQ hgp) (by omega) (ah HF).ny (ah HF).hp0 (ah HF).hp (ah HF).h7 (ah HF).h4 (Vh _ _ (λ_=>trivial)) (by omega);unfold fv at hst;have l0:w1'.cell? ⟨w1.heap.size,0,none⟩=some (.pointer (some ⟨lb,0,none⟩)):=by rw[cell_of hxl];rfl
 have q0:w1'.cell? ⟨w.heap.size,0,none⟩=some (.slice (some ⟨GT,0,none⟩) ts.length ts.length):=by rw[cell_of hxf];rfl
 have q1:w1'.cell? ⟨w.heap.size,1,none⟩=some (.slice (some ⟨GC,0,none⟩) cs.length cs.length):=by rw[cell_of hxf];rfl
 have q2:w1'.cell? ⟨w.heap.size,2,none⟩=some (.slice (some ⟨GP,0,none⟩) ps.length ps.length):=by rw[cell_of hxf];rfl
 have abz:=aj hb01;have Xk:=aj yQ;clear hnl iO hg1 hg1' hg01 hb01 yQ
 go_wp2_with fail
 clear hw1;refine hst.mono ?_;rintro e w2 ⟨⟨z2,rfl⟩,ak,iZ,lH,hB2,hK2⟩;have Vy:=aI hK2 hxl;have X4:=aI hK2 hxf;have l2:w2.cell? ⟨w1.heap.size,0,none⟩=some (.pointer (some ⟨lb,0,none⟩)):=by rw[cell_of Vy];rfl
 obtain⟨Us,hUs⟩:∃Us,Us=nG id [] ps ps.length:=⟨_,rfl⟩;rw[<-hUs]at iZ lH;have hUc:∀p∈Us,p∈oC ps:=by rw[hUs];exact DY (λp h=>by cases h) (Eo (ah HF).ny) _
 have U0:∀q∈ps,q.1≠33->q∈Us:=λq hq h33=>by
  have:=RY (f:=id) (Us:=[]) (ps:=ps) ps.length (ac2 _) q (by rw[ai1];exact hq) h33;rw[hUs];exact this
 have hrl:=lH.len;have hsl:=Kt (ah HF).hp;rw[ad9]at lH;have hUl:Us.length<=33:=ae4 (qK _ Us lH.lp.nodup hUc) (Nv (ah HF).ha);obtain⟨rv,hL,hRX,hro⟩:=iZ.rv;have hRV:=hRX.v;obtain⟨rp,rc,rfl⟩:=hRV.slice;have hls:=wB w2 lb BU (some BS) rp ak.length rc Us tape 94 #[.pointer (some ⟨w.heap.size,0,none⟩),.pointer (some ⟨w1.heap.size,0,none⟩)] hL iZ.us;have hs2:=hB2.size;have HLG:=aj iZ;have HLP:=aj lH;have HUC:=aj hUc;have HUA:=aj U0;have HL:=aj hL;have HRV:=aj hRV;have HRO:=aj hro;have HB2:=aj hB2;have HXL:=aj Vy;have HXF:=aj X4;clear hst iZ lH hUc U0 hL hRX hRV hro hB2 hK2 hxl hxf l0 q0 q1 q2 hUs Vy X4
 go_wp2_with fail
 refine hls.mono ?_;rintro e w3 ⟨rfl,hS,hg3⟩;have hs3:=hg3.size;have h2U:=XA hUl;have htl:tape.data.toList.length<=60:=h60;have hb03:Below w0.heap.size w0 w3:=(ah abz).trans ((ah HB2).trans ((But.aA hg3).below (by omega) (λk _ e=>by cases e)));have hfi:=Ba w3 (λk=>k=w2.heap.size\/some k=(Value.slice rp ak.length rc).ownBlock) w2.heap.size Us.length 5000000000000 94 [.pointer (some ⟨w.heap.size,0,none⟩),.pointer (some ⟨w1.heap.size,0,none⟩)] (.slice rp ak.length rc) tape.data.toList ak (ZE ts cs Us) True (JY ts cs Us) (J1 Us.length) (J1 Us.length) (ZU Us.length) (tape.data.toList.length+62*2 ^ Us.length) hS
  ((ah HRV).but (But.aA hg3) (λk e=>by cases e) (λk _ e=>by cases e)) (ah HLP).lp.rg (ah HD) (by omega)
  ⟨by simp[Tl];omega,[],⟨al6,λc h=>(by cases h),λc h=>(by cases h)⟩,by
   by_cases e:tape.data.toList=[]
   ·exact Or.inr ⟨e,[],RU.nil _ _ _,by simp[e]⟩
   ·exact Or.inl ⟨e,by simp⟩⟩
  (Or.inl rfl) (λk hk=>Or.inr hk.symm) (by omega) (ac2 _) (aq2 func94 (by kernel_rfl) rfl)
  (λW m τ hBW hm hbel hlt hall=>by
   obtain⟨hL4,hM4⟩:=(ah HLG).after (ah HL) (ah HRV) hg3 hBW (ac2 _);have hbW:Below w0.heap.size w0 W:=hb03.trans (hBW.below (by omega) (λk hk e=>by
    rcases e with e|e
    ·omega
    ·have:=ah HRO k e.symm;omega))
   have hbw:Below w.heap.size w W:=hb0.trans (hbW.mono (by omega));have kp:∀(k:Nat) (cur:Array Value) (t:TypeId) (x:Nat×Nat),w2.heap[k]?=some (.cells cur t x)->t≠161->W.heap[k]?=some (.cells cur t x):=λk cur t x h1 h2=>by
    have hkl:=(ac0.1 h1).1;refine(hBW.block k (by omega) (λe=>?_)).trans ((hg3.block k hkl (by simp)).trans h1);rcases e with e|e
    ·omega
    ·exact Jq (ah HRV) h1 h2 e
   exact vH W GT GC GP w.heap.size w1.heap.size lb BU m (some BS) (.slice rp ak.length rc) ts cs ps Us τ (ah HF) hUl (ah HLP).lp.nodup (ah HUC) ((ah HRT).below hbw (ah HRT).1) ((ah HRC).below hbw (ah HRC).1) (kp _ _ _ _ (ah HXF) (by decide)) (kp _ _ _ _ (ah HXL) (by decide)) hL4 hM4 hbel.m hlt hall)
 have HG3:=aj hg3;have ZJ:=aj hb03;clear hls hS hg3 hb03
 go_wp2_with fail
 refine hfi.mono ?_;rintro e w4 ⟨hE,hB4⟩;obtain⟨hL4,hM4⟩:=(ah HLG).after (ah HL) (ah HRV) (ah HG3) hB4 (ac2 _);have hb04:Below w0.heap.size w0 w4:=(ah ZJ).trans (hB4.below (by omega) (λk hk e=>by
  rcases e with e|e
  ·omega
  ·have:=ah HRO k e.symm;omega))
 have hb4:Below w.heap.size w w4:=hb0.trans (hb04.mono (by omega));have Vx:w4.heap[w1.heap.size]?=some (.cells #[.pointer (some ⟨lb,0,none⟩)] 155 (0,0)):=by
  have hkl:=(ac0.1 (ah HXL)).1;refine(hB4.block _ (by omega) (λe=>?_)).trans (((ah HG3).block _ hkl (by simp)).trans (ah HXL));rcases e with e|e
  ·omega
  ·exact Jq (ah HRV) (ah HXL) (by decide) e
 have X3:=(hb04.block _ hs0).trans hx0;have HB4:=aj hb4;have Xl:=aj hb04;clear hfi hB4 hb4 hb04 hx0;rcases hE with⟨rfl,rv',tp',m,τ,aK,hFI,hall,hsub,hdone,hgood⟩|⟨rfl,hno⟩
 ·obtain⟨fg,hcg,hcb⟩:=hgood;have PN:Hid (∀f'',Closed ts (aY ((fA Us τ).map dF)) f''->Ak f'' ts cs ps (kV (fA Us τ) cs.length)):=λf'' hf=>
   J3 (ah HF).ny (ah HF).hk (ah HF).hp0 (ah HF).hcs (ah HLP) (ah HUC) (ah HUA) hdone hsub hall hcg hcb hf
  have PD:=hFI.uG.cells.2.2.2.2;have aaf:=hFI.uG.lt;have hlen:=yM (fA Us τ) cs.length;have hBM:=hFI.bs.m;have nU:Hid (∀W,Below w4.heap.size w4 W->Calls prog 91 #[.pointer (some ⟨lb,0,none⟩),.map (some m)] W λe w'=>∃v,e=.returned v/\gy w' v (fA Us τ)/\Below W.heap.size W w'):=λW hW=>
   pJ W lb BU m (some BS) (.slice rp ak.length rc) Us τ (hL4.kept (hW.block lb hL4.lt)) (hM4.kept (hW.block BU hM4.lt)) (ah HLP).lp.nodup (by omega) (λx hx=>(ah HF).key1 (ah HUC x hx)) (hBM.kept (hW.block m hBM.lt)) hFI.lt hall
  have Py:∀s∈fA Us τ,(s.2.2.1=61->s.2.2.2.1<ts.length/\s.2.2.2.2<ts.length)/\(s.2.2.1≠61->s.2.2.2.1<cs.length):=λs hs=>by
   obtain⟨g1,g2,_,_⟩:=rP (ah HLP).lp.nodup hs;rcases nX (ah HF).ny (ah HF).hk (ah HUC _ g1) g2 with⟨a,b,c⟩|⟨a,⟨b,_⟩,c⟩
   ·exact⟨λ_=>⟨b,c⟩,λh=>absurd a h⟩
   ·exact⟨λh=>by omega,λ_=>b⟩
  have hsl2:(fA Us τ).length<=1000:=ae4 (pK Us τ Us.length) (by omega);have Ry:=aj Py;clear hFI hall hsub hdone Py hL4 hM4 hBM hcg hcb;generalize fA Us τ=ss at nU PN Ry hsl2 hlen;have hsit:Hid (∀W v,gy W v ss->Calls prog 90 #[.agg #[.slice (some ⟨GT,0,none⟩) ts.length ts.length,.slice (some ⟨GC,0,none⟩) cs.length cs.length,.slice (some ⟨GP,0,none⟩) ps.length ps.length],v] W λe w'=>∃b H,e=.returned (.agg #[.map (some b),.slice (some ⟨H,0,none⟩) cs.length cs.length])/\W.heap.size<=H/\JG W (aY (ss.map dF)) ts.length b w'/\dw w' H (kV ss cs.length)):=λW v hs=>
   oh GT GC GP ts.length cs.length ps.length v ss W (ah HF).h7 (ah HF).h4 hs hsl2 (ah Ry)
  have hSt:Hid (∀W',Below w4.heap.size w4 W'->W'.cell? ⟨w.heap.size,0,none⟩=some (.slice (some ⟨GT,0,none⟩) ts.length ts.length)/\W'.cell? ⟨w.heap.size,1,none⟩=some (.slice (some ⟨GC,0,none⟩) cs.length cs.length)/\W'.cell? ⟨w.heap.size,2,none⟩=some (.slice (some ⟨GP,0,none⟩) ps.length ps.length)/\W'.cell? ⟨w2.heap.size,4,none⟩=some (.map (some m))/\W'.cell? ⟨w1.heap.size,0,none⟩=some (.pointer (some ⟨lb,0,none⟩))):=λW' hW=>by
   have hx:=(hW.block w.heap.size (ac8 hs0 (ah Xl).size)).trans X3;have hy:=(hW.block w1.heap.size (ac0.1 Vx).1).trans Vx;exact⟨by rw[cell_of hx];rfl,by rw[cell_of hx];rfl,by rw[cell_of hx];rfl,(hW.cell (p:=⟨w2.heap.size,4,none⟩) aaf).trans PD,by rw[cell_of hy];rfl⟩
  have HLEN:=aj hlen;clear X3 Vx PD hlen l2;have hI:NR w4 (aY (ss.map dF)) ts.length cs.length (kV ss cs.length) none none w4:=⟨af5 _ _,λ_ _ e=>(by cases e),λ_ e=>(by cases e),λ_ _ _ e=>(by cases e)⟩
  go_wp2_with fail
  refine Code.wp_mono (Q:=λe a W'=>e=.normal/\∃(v26:Value) (b H X:Nat),a={tmps:=#[.agg #[.slice (some ⟨GT,0,none⟩) ts.length ts.length,.slice (some ⟨GC,0,none⟩) cs.length cs.length,.slice (some ⟨GP,0,none⟩) ps.length ps.length],.string tape,.pointer (some ⟨w.heap.size,0,none⟩),undef,.bool false,.string ⟨#[]⟩,.pointer (some ⟨w1.heap.size,0,none⟩),.pointer (some ⟨w2.heap.size,0,none⟩),.pointer (some ⟨X,0,none⟩),.pointer (some ⟨lb,0,none⟩),.pointer (some ⟨lb,0,none⟩),.agg #[.slice (some ⟨GT,0,none⟩) ts.length ts.length,.slice (some ⟨GC,0,none⟩) cs.length cs.length,.slice (some ⟨GP,0,none⟩) ps.length ps.length],z2,.pointer (some ⟨lb,0,none⟩),.string tape,.func (.func 94) #[] #[.pointer (some ⟨w.heap.size,0,none⟩),.pointer (some ⟨w1.heap.size,0,none⟩)],.pointer (some ⟨w2.heap.size,0,none⟩),.pointer (some ⟨w2.heap.size,0,none⟩),.bool true,.bool false,.agg #[.slice (some ⟨GT,0,none⟩) ts.length ts.length,.slice (some ⟨GC,0,none⟩) cs.length cs.length,.slice (some ⟨GP,0,none⟩) ps.length ps.length],.pointer (some ⟨lb,0,none⟩),.pointer (some ⟨w2.heap.size,0,none⟩),.pointer (some ⟨w2.heap.size,0,none⟩),.pointer (some ⟨w2.heap.size,4,none⟩),.map (some m),v26,.agg #[.map (some b),.slice (some ⟨H,0,none⟩) cs.length cs.length],undef,undef,undef,undef,undef,undef,undef],defers:=[]}/\SY w4 (aY (ss.map dF)) ts.length cs.length b H X (kV ss cs.length) W') ?_ ?_
  rotate_left
  ·refine ag0 (S:=λW'=>Below w4.heap.size w4 W') rfl ?_;simp only[ad3,ac9,ae1,Nat.reduceAdd,ac7,ac6,ad5,ad9,ad8];have hgd:Below w4.heap.size w4 w4.drew:=(af5 _ _).drew;have hI:=hI.grow hgd;change wpAnyH prog .any _ _ _ _ _ _ w4.drew;generalize w4.drew=W at hI ⊢;clear hgd;have hS0:=hI.below;refine tH 0 (.agg #[.slice (some ⟨GT,0,none⟩) ts.length ts.length,.slice (some ⟨GC,0,none⟩) cs.length cs.length,.slice (some ⟨GP,0,none⟩) ps.length ps.length]) (λw' hS=>?_) hS0 ?_
   ·obtain⟨s1,s2,s3,s4,s5⟩:=ah hSt _ hS;go_simp
   simp only[aC];refine tH 1 (.pointer (some ⟨lb,0,none⟩)) (λw' hS=>?_) hS0 ?_
   ·obtain⟨s1,s2,s3,s4,s5⟩:=ah hSt _ hS;go_simp
   simp only[aC];refine tH 2 (.pointer (some ⟨w2.heap.size,0,none⟩)) (λw' hS=>?_) hS0 ?_
   ·go_simp
   simp only[aC];refine tH 3 (.pointer (some ⟨w2.heap.size,0,none⟩)) (λw' hS=>?_) hS0 ?_
   ·go_simp
   simp only[aC];refine tH 4 (.pointer (some ⟨w2.heap.size,4,none⟩)) (λw' hS=>?_) hS0 ?_
   ·go_simp
   simp only[aC];refine tH 5 (.map (some m)) (λw' hS=>?_) hS0 ?_
   ·obtain⟨s1,s2,s3,s4,s5⟩:=ah hSt _ hS;go_simp
   simp only[aC];clear hS0;refine a2 6 8 ?_ ?_
   ·refine oO (λK hK=>?_);have hsy:=ah nU W hI.below;go_simp;refine hsy.mono ?_;rintro e W2 ⟨v26,rfl,hsv,hb⟩;have hI2:=hI.grow hb;refine hK.out _ _ ⟨hI2.below,?_⟩;clear hK K hsy hb hI W
    rename World=>W
    have hI:=hI2;clear hI2;refine a2 7 8 ?_ ?_
    ·refine oO (λK hK=>?_);have hst:=ah hsit W v26 hsv;obtain⟨vp,vc,rfl,hdrop⟩:=id hsv;clear hdrop;go_simp;refine hst.mono ?_;rintro e W2 ⟨b,H,rfl,hH,hJ,hrows⟩;have hI2:=hI.seven hH hJ hrows;refine hK.out _ _ ⟨hI2.below,?_⟩;clear hK K hst hH hJ hrows hI hsv W
     rename World=>W
     have hI:=hI2;clear hI2;refine oH 8 (λK hK=>?_);have hI2:=hI.eight;go_simp;refine hK.out _ _ hI2.below ?_;clear hK K;generalize W.alloc (.cells #[.map none,.slice none 0 0] 105)=W2 at hI2 ⊢;generalize W.heap.size=X at hI2 ⊢;clear hI W
     rename World=>W
     have hI:=hI2;clear hI2;have cx:=hI.x X rfl;have cx0:W.cell? ⟨X,0,none⟩=some (.map none):=(by rw[cell_of cx.2];rfl);have cx1:W.cell? ⟨X,1,none⟩=some (.slice none 0 0):=(by rw[cell_of cx.2];rfl);have fx0:W.frozen? ⟨X,0,none⟩=false:=(by simp[World.frozen?,cx.2]);have fx1:W.frozen? ⟨X,1,none⟩=false:=(by simp[World.frozen?,cx.2]);refine oH 9 (λK hK=>?_);go_simp;refine hK.out _ _ hI.nine.j.below (af4 (by kernel_rfl) ⟨rfl,_,b,H,X,rfl,hI.nine⟩ _)
    ·refine oO (λK hK=>?_);have hI2:=hI.eight;have VE:=hsv.below (below_alloc1 W (.cells #[.map none,.slice none 0 0] 105));go_simp;refine hK.out _ _ ⟨hI2.below,?_⟩;clear hK K;generalize W.alloc (.cells #[.map none,.slice none 0 0] 105)=W2 at hI2 VE ⊢;generalize W.heap.size=X at hI2 ⊢;clear hI hsv W
     rename World=>W
     have hI:=hI2;clear hI2;have hsv:=VE;clear VE;refine oH 7 (λK hK=>?_);have hst:=ah hsit W v26 hsv;obtain⟨vp,vc,rfl,hdrop⟩:=id hsv;clear hdrop;go_simp;refine hst.mono ?_;rintro e W2 ⟨b,H,rfl,hH,hJ,hrows⟩;have hI2:=hI.seven hH hJ hrows;refine hK.out _ _ hI2.below ?_;clear hK K hst hH hJ hrows hI hsv W
     rename World=>W
     have hI:=hI2;clear hI2;have cx:=hI.x X rfl;have cx0:W.cell? ⟨X,0,none⟩=some (.map none):=(by rw[cell_of cx.2];rfl);have cx1:W.cell? ⟨X,1,none⟩=some (.slice none 0 0):=(by rw[cell_of cx.2];rfl);have fx0:W.frozen? ⟨X,0,none⟩=false:=(by simp[World.frozen?,cx.2]);have fx1:W.frozen? ⟨X,1,none⟩=false:=(by simp[World.frozen?,cx.2]);refine oH 9 (λK hK=>?_);go_simp;refine hK.out _ _ hI.nine.j.below (af4 (by kernel_rfl) ⟨rfl,_,b,H,X,rfl,hI.nine⟩ _)
   ·refine oO (λK hK=>?_);have hI2:=hI.eight;go_simp;refine hK.out _ _ ⟨hI2.below,?_⟩;clear hK K;generalize W.alloc (.cells #[.map none,.slice none 0 0] 105)=W2 at hI2 ⊢;generalize W.heap.size=X at hI2 ⊢;clear hI W
    rename World=>W
    have hI:=hI2;clear hI2;refine oH 6 (λK hK=>?_);have hsy:=ah nU W hI.below;go_simp;refine hsy.mono ?_;rintro e W2 ⟨v26,rfl,hsv,hb⟩;have hI2:=hI.grow hb;refine hK.out _ _ hI2.below ?_;clear hK K hsy hb hI W
    rename World=>W
    have hI:=hI2;clear hI2;refine oH 7 (λK hK=>?_);have hst:=ah hsit W v26 hsv;obtain⟨vp,vc,rfl,hdrop⟩:=id hsv;clear hdrop;go_simp;refine hst.mono ?_;rintro e W2 ⟨b,H,rfl,hH,hJ,hrows⟩;have hI2:=hI.seven hH hJ hrows;refine hK.out _ _ hI2.below ?_;clear hK K hst hH hJ hrows hI hsv W
    rename World=>W
    have hI:=hI2;clear hI2;have cx:=hI.x X rfl;have cx0:W.cell? ⟨X,0,none⟩=some (.map none):=(by rw[cell_of cx.2];rfl);have cx1:W.cell? ⟨X,1,none⟩=some (.slice none 0 0):=(by rw[cell_of cx.2];rfl);have fx0:W.frozen? ⟨X,0,none⟩=false:=(by simp[World.frozen?,cx.2]);have fx1:W.frozen? ⟨X,1,none⟩=false:=(by simp[World.frozen?,cx.2]);refine oH 9 (λK hK=>?_);go_simp;refine hK.out _ _ hI.nine.j.below (af4 (by kernel_rfl) ⟨rfl,_,b,H,X,rfl,hI.nine⟩ _)
  ·rintro e a W ⟨rfl,v26,b,H,X,rfl,hSY⟩;dsimp only;obtain⟨s1,s2,s3,_,_⟩:=ah hSt W hSY.j.below;have x0:W.cell? ⟨X,0,none⟩=some (.map (some b)):=(by rw[cell_of hSY.x];rfl);have x1:W.cell? ⟨X,1,none⟩=some (.slice (some ⟨H,0,none⟩) cs.length cs.length):=(by rw[cell_of hSY.x];rfl);obtain⟨c0,hm0,hm1⟩:=hSY.j.m;have hbW:Below w.heap.size w W:=(ah HB4).trans (hSY.j.below.mono (ah HB4).size);have hcl:=close_any GT GC GP cs.length ps.length b c0 _ ts W (ah HF).h7 ((ah HRT).below hbW (ah HRT).1) (ah HF).inv hm0 hm1 hSY.j.roots (ah HF).ht;unfold fv at hcl;have hXb:=hSY.j.mQ hSY.x;have hwb:w.heap.size≠b:=(by have:=hSY.j.lo;have:=(ah Xl).size;omega);have hlo:=hSY.j.lo;have hs4:=(ah Xl).size;have HSY:=aj hSY;have HBW:=aj hbW;obtain⟨ob,hob,hoc⟩:=hm0.obj;have hRH:Hid (∀w5,W.grownBy w5 (some b)->dw w5 H (kV ss cs.length)):=λw5 hg=>by
    refine⟨ac8 (ah HSY).r.1 hg.size,λi hi=>?_⟩;have hc:=(ah HSY).r.2 i hi;refine hg.cell hc (λe=>?_);have e:H=b:=(by simpa using e);obtain⟨o',ho',hc'⟩:=aq5 hc;have ho':W.heap[H]?=some o':=ho';rw[e,hob]at ho';cases ho';cases ob<;>first|exact hoc _ _ _ rfl|cases hc'
   clear hm0 hm1 hSY hbW hob hoc hI
   go_wp2_with fail
   refine hcl.mono ?_;rintro e w5 ⟨⟨v5,rfl⟩,f',yP,⟨c1,hm5,_⟩,hg5⟩;have t1:=hg5.cell s1 (by simpa using hwb);have t2:=hg5.cell s2 (by simpa using hwb);have t3:=hg5.cell s3 (by simpa using hwb);have y0:=hg5.cell x0 (by simpa using hXb.symm);have y1:=hg5.cell x1 (by simpa using hXb.symm);have hwr:=pF GT GC GP ts.length cs.length ps.length b c1 H f' (kV ss cs.length) w5 (ah HF).h7 (by rw[ah HLEN];exact(ah HF).h4) (λi hi=>(yP.roots i hi).1) hm5 (ah hRH w5 hg5);unfold fv sv at hwr;rw[ah HLEN]at hwr;have hb5:Below w.heap.size w w5:=(ah HBW).grown hg5 (ah HBW).size (λk e=>by cases e;omega);have HB5:=aj hb5;have HMD:=aj (ah PN f' yP);clear hcl yP hm5 hg5 hb5 s1 s2 s3 x0 x1
   go_wp2_with fail
   refine hwr.mono ?_;rintro e w6 ⟨rfl,hb6⟩;have HB6:=aj ((ah HB5).trans (hb6.mono (ah HB5).size));clear hwr hb6 t1 t2 t3 y0 y1
   go_wp2_with fail
   refine af2 (v:=.tuple #[.bool true,.string ⟨(wrt f' ts.length (kV ss cs.length)).toArray⟩]) (by simp[results,results53,go_sem]) rfl ⟨Or.inr ⟨_,_,ah HLEN,ah HMD,rfl⟩,ah HB6⟩
 ·have hnone:=JZ (ah HF).ny (ah HF).hk (ah HF).hp0 (ah HLP) (ah HUC) hno;have HN:=aj hnone;clear hnone hno hL4 hM4
  go_wp2_with fail
  refine af2 (v:=.tuple #[.bool false,.string ⟨#[]⟩]) (by simp[results,results53,go_sem]) rfl ⟨Or.inl ⟨rfl,ah HN⟩,ah HB4⟩
end Go.Proofs.YthcppbmkacbbiaaGreat
