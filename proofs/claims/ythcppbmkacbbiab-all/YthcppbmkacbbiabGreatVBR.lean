import Derived.Test.YthcppbmkacbbiabGreatVBQ
set_option linter.unusedSimpArgs false
set_option maxHeartbeats 4000000
set_option maxRecDepth 100000
namespace Go.Proofs.YthcppbmkacbbiabGreat
open Go.Proofs.Tryz
section
open Go.RowKit Go.Maps Go.WideMaps
open Sat (View Rule og dN)
open au (Key put fQ aB isAtom cnt bJ jD)
attribute [local go_sem] Oper.semAt_some
structure I78(w0:World)(f:Nat->Nat)(nt nc:Nat)(hl:List Bool)(o7:Option (Nat×Nat))(o8:Option Nat)(W:World):Prop where
 below:Below w0.heap.size w0 W
 s:∀b H,o7=some (b,H)->w0.heap.size<=H/\JG w0 f nt b W/\eP W H hl
 x:∀X,o8=some X->w0.heap.size<=X/\W.heap[X]?=some (.cells #[.map none,.slice none 0 0] 56)
 ne:∀b H X,o7=some (b,H)->o8=some X->H≠X
theorem eP.kept{w w':World}{H:Nat}{hl:List Bool}(h:eP w H hl)(hb:w'.heap[H]?=w.heap[H]?):eP w' H hl:=by
 refine⟨?_,λi hi=>(an9 hb).trans (h.2 i hi)⟩;have:=h.1;rw[aq6 this]at hb;exact(an0.1 hb).1
theorem I78.grow{w0:World}{f:Nat->Nat}{nt nc:Nat}{hl:List Bool}{o7:Option (Nat×Nat)}{o8:Option Nat}{W W':World}(h:I78 w0 f nt nc hl o7 o8 W)(hb:Below W.heap.size W W'):I78 w0 f nt nc hl o7 o8 W' where
 below:=h.below.trans (hb.mono h.below.size)
 s:=λb H e=>⟨(h.s b H e).1,(h.s b H e).2.1.grow (dX hb),(h.s b H e).2.2.kept (hb.block H (h.s b H e).2.2.1)⟩
 x:=λX e=>⟨(h.x X e).1,(hb.block X (an0.1 (h.x X e).2).1).trans (h.x X e).2⟩
 ne:=h.ne
theorem I78.eight{w0:World}{f:Nat->Nat}{nt nc:Nat}{hl:List Bool}{o7:Option (Nat×Nat)}{W:World}(h:I78 w0 f nt nc hl o7 none W):I78 w0 f nt nc hl o7 (some W.heap.size) (W.alloc (.cells #[.map none,.slice none 0 0] 56)):=by
 have M:=h.grow (below_alloc1 W (.cells #[.map none,.slice none 0 0] 56));refine⟨M.below,M.s,λX e=>(by cases e;exact⟨h.below.size,ap5 _ _⟩),λb H X e1 e2=>?_⟩;cases e2;have:=(h.s b H e1).2.2.1;omega
theorem I78.seven{w0:World}{f:Nat->Nat}{nt nc b H:Nat}{hl:List Bool}{o8:Option Nat}{W W':World}(h:I78 w0 f nt nc hl none o8 W)(hH:W.heap.size<=H)(hJ:JG W f nt b W')(hr:eP W' H hl):I78 w0 f nt nc hl (some (b,H)) o8 W':=by
 have M:=h.grow hJ.below;have hs:=h.below.size;refine⟨M.below,λc G e=>?_,M.x,λc G X e1 e2=>?_⟩
 ·cases e;exact⟨O,⟨hJ.m,hJ.roots,M.below,ap3 hs hJ.lo⟩,hr⟩
 ·cases e1;have:=(an0.1 (h.x X e2).2).1;omega
structure SY(w0:World)(f:Nat->Nat)(nt nc b H X:Nat)(hl:List Bool)(W:World):Prop where
 j:JG w0 f nt b W
 lx:w0.heap.size<=X
 x:W.heap[X]?=some (.cells #[.map (some b),Ac H 0 nc nc] 56)
 r:eP W H hl
theorem I78.nine{w0:World}{f:Nat->Nat}{nt nc b H X:Nat}{hl:List Bool}{W:World}(h:I78 w0 f nt nc hl (some (b,H)) (some X) W):SY w0 f nt nc b H X hl ((W.setCell (J X 0) (.map (some b))).setCell (J X 1) (Ac H 0 nc nc)):=by
 obtain⟨lx,hx⟩:=h.x X rfl;obtain⟨lh,hj,hr⟩:=h.s b H rfl;have bg:=h.ne b H X rfl rfl;refine⟨(hj.setCell (p:=(J X 0)) lx (hj.uz hx) _).setCell (p:=(J X 1)) lx (hj.uz hx) _,lx,IU hx,hr.kept ?_⟩;exact(ao9 _ _ _ _ bg).trans (ao9 _ _ _ _ bg)
theorem Ya{W:World}{rv:Value}{ak:List Rule}(h:dM W rv ak){k:Nat}{cur:Array Value}{t:TypeId}{x:Nat×Nat}(hk:W.heap[k]?=some (.cells cur t x))(ht:t≠130):some k≠rv.ownBlock:=λe=>by
 obtain⟨vs,⟨_,q⟩,_⟩:=h;obtain⟨rfl,_⟩|⟨g,cap,G9,rfl,q2,q3,q4⟩:=q
 ·cases e
 ·cases e;rw[q3]at hk;simp at hk;exact ht hk.2.1.symm
theorem Zm{ps:Ai}(hp:ps.length<=100):([]++tZ id ps).length<=1000:=by
 have:=IK id ps;rw[ao8];omega
theorem G8(w:World)(GT GC GP:Nat)(Y:Ai)(cs:Ah)(ps:Ai)(tape:ByteArray)(hF:FF Y cs ps)(hd:Hl tape.data.toList)(h60:tape.size<=60)(kE:dS w GT Y)(AA:gZ w GC cs)(Qj:dS w GP ps) :
  Calls prog 30 #[fv GT GC GP Y.length cs.length ps.length,.string tape] w λe w'=>Qi Y cs ps e/\Ag w w':=by
 obtain⟨w0,kW⟩:∃w0,w.alloc (.cells #[Ac GT 0 Y.length Y.length,Ac GC 0 cs.length cs.length,Ac GP 0 ps.length ps.length] 46)=w0:=⟨_,rfl⟩;have kQ:Below w.heap.size w w0:=by rw[<-kW];exact(aq1 _ w).alloc (an2 _) _
 have xI:w0.heap[w.heap.size]?=some (.cells #[Ac GT 0 Y.length Y.length,Ac GC 0 cs.length cs.length,Ac GP 0 ps.length ps.length] 46 (0,0)):=by rw[<-kW];exact ap5 _ _
 have hs0:w.heap.size<w0.heap.size:=(an0.1 xI).1;have hnl:=Dy w0 (λ_=>True) (λ_=>False);have HF:=F hF;have HD:=F hd;have Eu:=F kE;have HRC:=F AA;have HRP:=F Qj;unfold fv
 go_in
 go_wp2_with fail
 refine hnl.mono ?_;rintro e w1 ⟨lb,BU,BS,rfl,D8,_,bG⟩;obtain⟨w1',uH⟩:∃w1',w1.alloc (.cells #[Aa lb 0] 124)=w1':=⟨_,rfl⟩;have ajM:w1.grownBy w1' none:=by rw[<-uH];exact an1 _ _ none
 have alu:=bG.trans ajM;have ahy:Below w0.heap.size w0 w1':=(But.aC alu).below (an2 _) (λk _ e=>by cases e);have hxl:w1'.heap[w1.heap.size]?=some (.cells #[Aa lb 0] 124 (0,0)):=by rw[<-uH];exact ap5 _ _
 have LW:=(ahy.block _ hs0).trans xI;have oI:w0.heap.size<=w1.heap.size:=bG.size;have amP:w1.heap.size<w1'.heap.size:=(an0.1 hxl).1;have hgp:=(Z HRP).1;have MB:Below w.heap.size w w1':=kQ.trans (ahy.mono O);have oP:=Na (λ_=>False) w0.heap.size w1' lb BU BS id (λ_=>True) [] [] [] GT GC GP Y.length cs.length ps (D8.grow ajM) (λk h=>h.elim) vG.nil R R ((Z HRP).below MB hgp) O (Z HF).qj (Z HF).hp0 (Z HF).hp (Z HF).h7 (Z HF).h4 (agA _ _ (λ_=>trivial)) O;unfold fv at oP;have l0:w1'.cell? (J w1.heap.size 0)=some (Aa lb 0):=by rw[cell_of hxl];rfl
 have q0:w1'.cell? (J w.heap.size 0)=some (Ac GT 0 Y.length Y.length):=by rw[cell_of LW];rfl
 have q1:w1'.cell? (J w.heap.size 1)=some (Ac GC 0 cs.length cs.length):=by rw[cell_of LW];rfl
 have q2:w1'.cell? (J w.heap.size 2)=some (Ac GP 0 ps.length ps.length):=by rw[cell_of LW];rfl
 have amo:=F ahy;have aij:=F MB
 go_wp2_with fail
 refine oP.mono ?_;rintro e w2 ⟨⟨z2,rfl⟩,ak,wM,EJ,BQ,oU⟩;have aiP:=aZ oU hxl;have ak0:=aZ oU LW;have l2:w2.cell? (J w1.heap.size 0)=some (Aa lb 0):=by rw[cell_of aiP];rfl
 obtain⟨Us,YA⟩:∃Us,Us=vH id [] ps ps.length:=⟨_,rfl⟩;rw[<-YA]at wM EJ;have hUc:∀p∈Us,p∈xA ps:=by rw[YA];exact QB (λp h=>by cases h) (Rl (Z HF).qj) _
 have aj3:∀q∈ps,q.1≠33->q∈Us:=λq hq mV=>by
  have:=aeD (f:=id) (Us:=[]) (ps:=ps) ps.length (an2 _) q (by rw[ar7];exact hq) mV;rw[YA];exact this
 have OW:=EJ.len;have OV:=Zm (Z HF).hp;rw[ao8]at EJ;have hUl:Us.length<=33:=ap3 (zD _ Us EJ.lp.nodup hUc) (aa6 (Z HF).ha);obtain⟨rv,hL,hRX,yK⟩:=wM.rv;have hRV:=hRX.v;obtain⟨rp,rc,rfl⟩:=hRV.slice;have uM:=F7 w2 lb BU (some BS) rp ak.length rc Us tape 66 #[Aa w.heap.size 0,Aa w1.heap.size 0] hL wM.us;have su:=BQ.size;have HLG:=F wM;have HLP:=F EJ;have HUC:=F hUc;have HUA:=F aj3;have HL:=F hL;have HRV:=F hRV;have HRO:=F yK;have Lu:=F BQ;have HXL:=F aiP;have HXF:=F ak0
 go_wp2_with fail
 refine uM.mono ?_;rintro e w3 ⟨rfl,hS,dY⟩;have Aw:=dY.size;have h2U:=ait hUl;have htl:tape.data.toList.length<=60:=h60;have Wq:Below w0.heap.size w0 w3:=(Z amo).trans ((Z Lu).trans ((But.aC dY).below O (λk _ e=>by cases e)));have xK:=N8 w3 (λk=>k=w2.heap.size\/some k=(Value.slice rp ak.length rc).ownBlock) w2.heap.size Us.length 5000000000000 66 [Aa w.heap.size 0,Aa w1.heap.size 0] (.slice rp ak.length rc) tape.data.toList ak (Th1 Y cs Us) True (Y7 Y cs Us) (J1 Us.length) (J1 Us.length) (akR Us.length) (tape.data.toList.length+62*2 ^ Us.length) hS
  ((Z HRV).but (But.aC dY) (λk e=>by cases e) (λk _ e=>by cases e)) (Z HLP).lp.rg (Z HD) O
  ⟨by simp[Tl];omega,[],⟨az6,λc h=>(by cases h),λc h=>(by cases h)⟩,by
   by_cases e:tape.data.toList=[]
   ·exact Or.inr ⟨e,[],LsI.nil _ _ _,by simp[e]⟩
   ·exact Or.inl ⟨e,R⟩⟩
  (Or.inl rfl) (λk hk=>Or.inr hk.symm) O (an2 _) (aC1 func66 (by kernel_rfl) rfl)
  (λW m τ hBW hm JQ hlt aX=>by
   obtain⟨hL4,hM4⟩:=(Z HLG).after (Z HL) (Z HRV) dY hBW (an2 _);have hbW:Below w0.heap.size w0 W:=Wq.trans (hBW.below O (λk hk e=>by
    obtain e|e:=e
    ·omega
    ·have:=Z HRO k e.symm;omega))
   have rQ:Below w.heap.size w W:=kQ.trans (hbW.mono O);have kp:∀(k:Nat) (cur:Array Value) (t:TypeId) (x:Nat×Nat),w2.heap[k]?=some (.cells cur t x)->t≠130->W.heap[k]?=some (.cells cur t x):=λk cur t x I M=>by
    have Fe:=(an0.1 I).1;refine(hBW.block k O (λe=>?_)).trans ((dY.block k Fe R).trans I);obtain e|e:=e
    ·omega
    ·exact Ya (Z HRV) I M e
   exact FD W GT GC GP w.heap.size w1.heap.size lb BU m (some BS) (.slice rp ak.length rc) Y cs ps Us τ (Z HF) hUl (Z HLP).lp.nodup (Z HUC) ((Z Eu).below rQ (Z Eu).1) ((Z HRC).below rQ (Z HRC).1) (kp _ _ _ _ (Z HXF) ane) (kp _ _ _ _ (Z HXL) ane) hL4 hM4 JQ.m hlt aX)
 have HG3:=F dY;have akO:=F Wq
 go_wp2_with fail
 refine xK.mono ?_;rintro e w4 ⟨hE,TR⟩;obtain⟨hL4,hM4⟩:=(Z HLG).after (Z HL) (Z HRV) (Z HG3) TR (an2 _);have ahx:Below w0.heap.size w0 w4:=(Z akO).trans (TR.below O (λk hk e=>by
  obtain e|e:=e
  ·omega
  ·have:=Z HRO k e.symm;omega))
 have sD:Below w.heap.size w w4:=kQ.trans (ahx.mono O);have aiO:w4.heap[w1.heap.size]?=some (.cells #[Aa lb 0] 124 (0,0)):=by
  have Fe:=(an0.1 (Z HXL)).1;refine(TR.block _ O (λe=>?_)).trans (((Z HG3).block _ Fe R).trans (Z HXL));obtain e|e:=e
  ·omega
  ·exact Ya (Z HRV) (Z HXL) ane e
 have akZ:=(ahx.block _ hs0).trans xI;have UC:=F sD;have aik:=F ahx;obtain⟨rfl,rv',tp',m,τ,dR,hFI,aX,Ar,nD,rP⟩|⟨rfl,ny⟩:=hE
 ·obtain⟨fg,zN,yP⟩:=rP;have afe:Hid (∀f'',Closed Y (cZ ((jr Us τ).map fM)) f''->Om f'' Y cs ps (rJ (jr Us τ) cs.length)):=λf'' hf=>
   Zb (Z HF).qj (Z HF).hk (Z HF).hp0 (Z HF).hcs (Z HLP) (Z HUC) (Z HUA) nD Ar aX zN yP hf
  have agV:=hFI.Ey.cells.2.2.2.2;have ak8:=hFI.Ey.lt;have hlen:=JF (jr Us τ) cs.length;have hBM:=hFI.bs.m;have wu:Hid (∀W,Below w4.heap.size w4 W->Calls prog 63 #[Aa lb 0,.map (some m)] W λe w'=>∃v,e=.returned v/\kC w' v (jr Us τ)/\Ag W w'):=λW hW=>
   yj W lb BU m (some BS) (.slice rp ak.length rc) Us τ (hL4.kept (hW.block lb hL4.lt)) (hM4.kept (hW.block BU hM4.lt)) (Z HLP).lp.nodup O (λx hx=>(Z HF).key1 (Z HUC x hx)) (hBM.kept (hW.block m hBM.lt)) hFI.lt aX
  have agU:∀s∈jr Us τ,(s.2.2.1=61->s.2.2.2.1<Y.length/\s.2.2.2.2<Y.length)/\(s.2.2.1≠61->s.2.2.2.1<cs.length):=λs hs=>by
   obtain⟨g1,g2,_,_⟩:=Bz (Z HLP).lp.nodup hs;obtain⟨a,b,c⟩|⟨a,⟨b,_⟩,c⟩:=wP (Z HF).qj (Z HF).hk (Z HUC _ g1) g2
   ·exact⟨λ_=>⟨b,c⟩,λh=>absurd a h⟩
   ·exact⟨λh=>O,λ_=>b⟩
  have ac6:(jr Us τ).length<=1000:=ap3 (yt Us τ Us.length) O;have aex:=F agU;generalize jr Us τ=ss at wu afe aex ac6 hlen;have aax:Hid (∀W v,kC W v ss->Calls prog 62 #[.agg #[Ac GT 0 Y.length Y.length,Ac GC 0 cs.length cs.length,Ac GP 0 ps.length ps.length],v] W λe w'=>∃b H,e=.returned (.agg #[.map (some b),Ac H 0 cs.length cs.length])/\W.heap.size<=H/\JG W (cZ (ss.map fM)) Y.length b w'/\eP w' H (rJ ss cs.length)):=λW v hs=>
   wX GT GC GP Y.length cs.length ps.length v ss W (Z HF).h7 (Z HF).h4 hs ac6 (Z aex)
  have wK:Hid (∀W',Below w4.heap.size w4 W'->W'.cell? (J w.heap.size 0)=some (Ac GT 0 Y.length Y.length)/\W'.cell? (J w.heap.size 1)=some (Ac GC 0 cs.length cs.length)/\W'.cell? (J w.heap.size 2)=some (Ac GP 0 ps.length ps.length)/\W'.cell? (J w2.heap.size 4)=some (.map (some m))/\W'.cell? (J w1.heap.size 0)=some (Aa lb 0)):=λW' hW=>by
   have hx:=(hW.block w.heap.size (ap2 hs0 (Z aik).size)).trans akZ;have hy:=(hW.block w1.heap.size (an0.1 aiO).1).trans aiO;exact⟨by rw[cell_of hx];rfl,by rw[cell_of hx];rfl,by rw[cell_of hx];rfl,(hW.cell (p:=(J w2.heap.size 4)) ak8).trans agV,by rw[cell_of hy];rfl⟩
  have pR:=F hlen;have hI:I78 w4 (cZ (ss.map fM)) Y.length cs.length (rJ ss cs.length) none none w4:=⟨aq1 _ _,λ_ _ e=>(by cases e),λ_ e=>(by cases e),λ_ _ _ e=>(by cases e)⟩
  go_wp2_with fail
  refine Code.wp_mono (Q:=λe a W'=>e=.normal/\∃(v26:Value) (b H X:Nat),a={tmps:=#[.agg #[Ac GT 0 Y.length Y.length,Ac GC 0 cs.length cs.length,Ac GP 0 ps.length ps.length],.string tape,Aa w.heap.size 0,undef,.bool false,.string ⟨#[]⟩,Aa w1.heap.size 0,Aa w2.heap.size 0,Aa X 0,Aa lb 0,Aa lb 0,.agg #[Ac GT 0 Y.length Y.length,Ac GC 0 cs.length cs.length,Ac GP 0 ps.length ps.length],z2,Aa lb 0,.string tape,.func (.func 66) #[] #[Aa w.heap.size 0,Aa w1.heap.size 0],Aa w2.heap.size 0,Aa w2.heap.size 0,.bool true,.bool false,.agg #[Ac GT 0 Y.length Y.length,Ac GC 0 cs.length cs.length,Ac GP 0 ps.length ps.length],Aa lb 0,Aa w2.heap.size 0,Aa w2.heap.size 0,Aa w2.heap.size 4,.map (some m),v26,.agg #[.map (some b),Ac H 0 cs.length cs.length],undef,undef,undef,undef,undef,undef,undef],defers:=[]}/\SY w4 (cZ (ss.map fM)) Y.length cs.length b H X (rJ ss cs.length) W') ?_ ?_
  rotate_left
  ·refine aq8 (S:=λW'=>Below w4.heap.size w4 W') rfl ?_;simp only[ao5,ao1,ap0,Nat.reduceAdd,an7,an6,ao6,ao8,ao7];have Lj:Below w4.heap.size w4 w4.drew:=(aq1 _ _).drew;have hI:=hI.grow Lj;change wpAnyH prog .any _ _ _ _ _ _ w4.drew;generalize w4.drew=W at hI ⊢;have aA:=hI.below;refine tH 0 (.agg #[Ac GT 0 Y.length Y.length,Ac GC 0 cs.length cs.length,Ac GP 0 ps.length ps.length]) (λw' hS=>?_) aA ?_
   ·obtain⟨s1,s2,s3,s4,s5⟩:=Z wK _ hS;go_simp
   simp only[aF];refine tH 1 (Aa lb 0) (λw' hS=>?_) aA ?_
   ·obtain⟨s1,s2,s3,s4,s5⟩:=Z wK _ hS;go_simp
   simp only[aF];refine dF 2 (Aa w2.heap.size 0) aA ?_
   simp only[aF];refine dF 3 (Aa w2.heap.size 0) aA ?_
   simp only[aF];refine dF 4 (Aa w2.heap.size 4) aA ?_
   simp only[aF];refine tH 5 (.map (some m)) (λw' hS=>?_) aA ?_
   ·obtain⟨s1,s2,s3,s4,s5⟩:=Z wK _ hS;go_simp
   simp only[aF];refine a2 6 8 ?_ ?_
   ·refine oO (λK hK=>?_);have hsy:=Z wu W hI.below;go_simp;refine hsy.mono ?_;rintro e W2 ⟨v26,rfl,NM,hb⟩;have dD:=hI.grow hb;refine hK.out _ _ ⟨dD.below,?_⟩
    rename World=>W
    have hI:=dD;refine a2 7 8 ?_ ?_
    ·refine oO (λK hK=>?_);have oP:=Z aax W v26 NM;obtain⟨vp,vc,rfl,agc⟩:=id NM;go_simp;refine oP.mono ?_;rintro e W2 ⟨b,H,rfl,hH,hJ,mO⟩;have dD:=hI.seven hH hJ mO;refine hK.out _ _ ⟨dD.below,?_⟩
     rename World=>W
     have hI:=dD;refine oH 8 (λK hK=>?_);have dD:=hI.eight;go_simp;refine hK.out _ _ dD.below ?_;generalize W.alloc (.cells #[.map none,.slice none 0 0] 56)=W2 at dD ⊢;generalize W.heap.size=X at dD ⊢
     rename World=>W
     have hI:=dD;have cx:=hI.x X rfl;have cx0:W.cell? (J X 0)=some (.map none):=(by rw[cell_of cx.2];rfl);have cx1:W.cell? (J X 1)=some (.slice none 0 0):=(by rw[cell_of cx.2];rfl);have fx0:W.frozen? (J X 0)=false:=(by simp[World.frozen?,cx.2]);have fx1:W.frozen? (J X 1)=false:=(by simp[World.frozen?,cx.2]);refine oH 9 (λK hK=>?_);go_simp;refine hK.out _ _ hI.nine.j.below (ar2 (by kernel_rfl) ⟨rfl,_,b,H,X,rfl,hI.nine⟩ _)
    ·refine oO (λK hK=>?_);have dD:=hI.eight;have ai1:=NM.below (below_alloc1 W (.cells #[.map none,.slice none 0 0] 56));go_simp;refine hK.out _ _ ⟨dD.below,?_⟩;generalize W.alloc (.cells #[.map none,.slice none 0 0] 56)=W2 at dD ai1 ⊢;generalize W.heap.size=X at dD ⊢
     rename World=>W
     have hI:=dD;have NM:=ai1;refine oH 7 (λK hK=>?_);have oP:=Z aax W v26 NM;obtain⟨vp,vc,rfl,agc⟩:=id NM;go_simp;refine oP.mono ?_;rintro e W2 ⟨b,H,rfl,hH,hJ,mO⟩;have dD:=hI.seven hH hJ mO;refine hK.out _ _ dD.below ?_
     rename World=>W
     have hI:=dD;have cx:=hI.x X rfl;have cx0:W.cell? (J X 0)=some (.map none):=(by rw[cell_of cx.2];rfl);have cx1:W.cell? (J X 1)=some (.slice none 0 0):=(by rw[cell_of cx.2];rfl);have fx0:W.frozen? (J X 0)=false:=(by simp[World.frozen?,cx.2]);have fx1:W.frozen? (J X 1)=false:=(by simp[World.frozen?,cx.2]);refine oH 9 (λK hK=>?_);go_simp;refine hK.out _ _ hI.nine.j.below (ar2 (by kernel_rfl) ⟨rfl,_,b,H,X,rfl,hI.nine⟩ _)
   ·refine oO (λK hK=>?_);have dD:=hI.eight;go_simp;refine hK.out _ _ ⟨dD.below,?_⟩;generalize W.alloc (.cells #[.map none,.slice none 0 0] 56)=W2 at dD ⊢;generalize W.heap.size=X at dD ⊢
    rename World=>W
    have hI:=dD;refine oH 6 (λK hK=>?_);have hsy:=Z wu W hI.below;go_simp;refine hsy.mono ?_;rintro e W2 ⟨v26,rfl,NM,hb⟩;have dD:=hI.grow hb;refine hK.out _ _ dD.below ?_
    rename World=>W
    have hI:=dD;refine oH 7 (λK hK=>?_);have oP:=Z aax W v26 NM;obtain⟨vp,vc,rfl,agc⟩:=id NM;go_simp;refine oP.mono ?_;rintro e W2 ⟨b,H,rfl,hH,hJ,mO⟩;have dD:=hI.seven hH hJ mO;refine hK.out _ _ dD.below ?_
    rename World=>W
    have hI:=dD;have cx:=hI.x X rfl;have cx0:W.cell? (J X 0)=some (.map none):=(by rw[cell_of cx.2];rfl);have cx1:W.cell? (J X 1)=some (.slice none 0 0):=(by rw[cell_of cx.2];rfl);have fx0:W.frozen? (J X 0)=false:=(by simp[World.frozen?,cx.2]);have fx1:W.frozen? (J X 1)=false:=(by simp[World.frozen?,cx.2]);refine oH 9 (λK hK=>?_);go_simp;refine hK.out _ _ hI.nine.j.below (ar2 (by kernel_rfl) ⟨rfl,_,b,H,X,rfl,hI.nine⟩ _)
  ·rintro e a W ⟨rfl,v26,b,H,X,rfl,hSY⟩;dsimp only;obtain⟨s1,s2,s3,_,_⟩:=Z wK W hSY.j.below;have x0:W.cell? (J X 0)=some (.map (some b)):=(by rw[cell_of hSY.x];rfl);have x1:W.cell? (J X 1)=some (Ac H 0 cs.length cs.length):=(by rw[cell_of hSY.x];rfl);obtain⟨c0,UJ,Fb⟩:=hSY.j.m;have hbW:Below w.heap.size w W:=(Z UC).trans (hSY.j.below.mono (Z UC).size);have iy:=close_any GT GC GP cs.length ps.length b c0 _ Y W (Z HF).h7 ((Z Eu).below hbW (Z Eu).1) (Z HF).inv UJ Fb hSY.j.roots (Z HF).ht;unfold fv at iy;have hXb:=hSY.j.uz hSY.x;have kP:w.heap.size≠b:=(by have:=hSY.j.lo;have:=(Z aik).size;omega);have hlo:=hSY.j.lo;have hs4:=(Z aik).size;have HSY:=F hSY;have FV:=F hbW;obtain⟨ob,hob,hoc⟩:=UJ.obj;have hRH:Hid (∀w5,W.grownBy w5 (some b)->eP w5 H (rJ ss cs.length)):=λw5 hg=>by
    refine⟨ap2 (Z HSY).r.1 hg.size,λi hi=>?_⟩;have hc:=(Z HSY).r.2 i hi;refine hg.cell hc (λe=>?_);have e:H=b:=(by simpa using e);obtain⟨o',ho',Fj⟩:=aB3 hc;have ho':W.heap[H]?=some o':=ho';rw[e,hob]at ho';cases ho';cases ob<;>first|exact hoc _ _ _ rfl|cases Fj
   go_wp2_with fail
   refine iy.mono ?_;rintro e w5 ⟨⟨v5,rfl⟩,f',Md,⟨c1,hm5,_⟩,AO⟩;have t1:=AO.cell s1 (by simpa using kP);have t2:=AO.cell s2 (by simpa using kP);have t3:=AO.cell s3 (by simpa using kP);have y0:=AO.cell x0 (by simpa using hXb.symm);have y1:=AO.cell x1 (by simpa using hXb.symm);have uG:=xY GT GC GP Y.length cs.length ps.length b c1 H f' (rJ ss cs.length) w5 (Z HF).h7 (by rw[Z pR];exact(Z HF).h4) (λi hi=>(Md.roots i hi).1) hm5 (Z hRH w5 AO);unfold fv sv at uG;rw[Z pR]at uG;have AP:Below w.heap.size w w5:=(Z FV).grown AO (Z FV).size (λk e=>by cases e;omega);have Qh:=F AP;have HMD:=F (Z afe f' Md)
   go_wp2_with fail
   refine uG.mono ?_;rintro e w6 ⟨rfl,hb6⟩;have HB6:=F ((Z Qh).trans (hb6.mono (Z Qh).size))
   go_wp2_with fail
   refine aq0 (v:=.tuple #[.bool true,.string ⟨(wrt f' Y.length (rJ ss cs.length)).toArray⟩]) (by simp[results,results30,go_sem]) rfl ⟨Or.inr ⟨_,_,Z pR,Z HMD,rfl⟩,Z HB6⟩
 ·have adh:=Za (Z HF).qj (Z HF).hk (Z HF).hp0 (Z HLP) (Z HUC) ny;have HN:=F adh
  go_wp2_with fail
  refine aq0 (v:=.tuple #[.bool false,.string ⟨#[]⟩]) (by simp[results,results30,go_sem]) rfl ⟨Or.inl ⟨rfl,Z HN⟩,Z UC⟩
end
section
open Go.RowKit Go.Maps Go.WideMaps
open au (Key put fQ aB isAtom cnt bJ jD)
attribute [local go_sem] Oper.semAt_some
theorem FF.of{s:ByteArray}{Y:Ai}{cs:Ah}{ps:Ai}{m:Nat}(hs:s.size<=100)(hR:au.lG (pk s) (s.size+1) 0 0 [] [] []=.ok (s.size,Y,cs,ps,m))(h7:Y.length<=7)(h4:cs.length<=4)(hi:au.Inv Y)(Bd:au.kD Y cs)(qj:bJ Y.length cs.length ps)(hp0:0<ps.length)(hp:ps.length<=100):FF Y cs ps:=by
 have hz:=au.abU (pk:=pk s) (N:=s.size) (λa h=>dW h) (s.size+1) 0 0 [] [] [] O;rw[hR]at hz;obtain⟨_,z1,z2,z3⟩:=hz;have e1:cnt aB []=0:=rfl;have e2:cnt isAtom []=0:=rfl;have hk:jD cs ps:=z3 ⟨λq hq=>by(cases hq),λc h=>absurd h R⟩;refine⟨h7,EN Bd qj hp0,h4,hp0,hp,hi,qj,hk,λi pI=>?_,λx hx=>Bd x hx,O,O⟩;have aV:=hi.key i pI;obtain⟨_,_,h3,h4⟩|⟨_,M,h3⟩|⟨_,M,h3⟩:=aV<;>omega
theorem W9(w:World)(GT GC GP:Nat)(Y:Ai)(cs:Ah)(ps:Ai)(tape:ByteArray)(way:Int)(hw:way=0\/way=1)(hF:FF Y cs ps)(hd:Hl tape.data.toList)(h60:tape.size<=60)(kE:dS w GT Y)(AA:gZ w GC cs)(Qj:dS w GP ps) :
  Calls prog 19 #[fv GT GC GP Y.length cs.length ps.length,A way,.string tape] w λe w'=>Qi Y cs ps e/\Ag w w':=by
 have kQ:∀o,Below w.heap.size w (w.alloc o):=λo=>(aq1 _ w).alloc (an2 _) _;have H0:=F (λo=>G5 (w.alloc o) GT GC GP Y cs ps tape hF hd h60 (kE.below (kQ o) kE.1) (AA.below (kQ o) AA.1) (Qj.below (kQ o) Qj.1));have H1:=F (λo=>G8 (w.alloc o) GT GC GP Y cs ps tape hF hd h60 (kE.below (kQ o) kE.1) (AA.below (kQ o) AA.1) (Qj.below (kQ o) Qj.1));have hR:Hid (∀o e w',Qi Y cs ps e/\Below (w.alloc o).heap.size (w.alloc o) w'->∃(b:Bool) (m:ByteArray),e=.returned (.tuple #[.bool b,.string m])/\Qi Y cs ps (.returned (.tuple #[.bool b,.string m]))/\Ag w w'):=λo e w' ⟨h,hb⟩=>by
  have fF:Below w.heap.size w w':=(kQ o).trans (hb.mono R);obtain⟨rfl,_⟩|⟨f,hl,_,_,rfl⟩:=id h
  ·exact⟨_,_,rfl,h,fF⟩
  ·exact⟨_,_,rfl,h,fF⟩
 generalize Qi Y cs ps=DE at H0 H1 hR ⊢;unfold fv at H0 H1 ⊢;obtain rfl|rfl:=hw
 ·go_in
  go_wp2_with fail
  refine(Z H0 _).mono ?_;intro e w1 h;obtain⟨b,m,rfl,I,M⟩:=Z hR _ e w1 h;have Q1:=F I;have Q2:=F M
  go_wp2_with fail
  exact aq0 (v:=.tuple #[.bool b,.string m]) (by simp[results,results19,go_sem]) rfl ⟨Z Q1,Z Q2⟩
 ·go_in
  go_wp2_with fail
  refine(Z H1 _).mono ?_;intro e w1 h;obtain⟨b,m,rfl,I,M⟩:=Z hR _ e w1 h;have Q1:=F I;have Q2:=F M
  go_wp2_with fail
  exact aq0 (v:=.tuple #[.bool b,.string m]) (by simp[results,results19,go_sem]) rfl ⟨Z Q1,Z Q2⟩
theorem PK{t:ByteArray}(h:fU t=false):Hl t.data.toList/\t.size<=60:=by
 unfold fU at h;simp only[Bool.or_eq_false_iff,decide_eq_false_iff_not,List.any_eq_false]at h;refine⟨λc hc=>?_,O⟩;have:=h.2 c hc;unfold gI at this;simp at this;omega
theorem XL(w:World)(s tape:ByteArray)(way:Int)(hm:s.size<=maxLen)(hE:(chk s).1≠0) :
  Calls prog 12 #[.string s,A way,.string tape] w λe w'=>e=.returned (.tuple #[.bool false,.string ⟨#[]⟩,A (chk s).1])/\Ag w w':=by
 have HR:=F (λw=>yx w s hm);generalize chk s=c at HR hE;have hb:(c.1 != 0)=true:=by simpa using hE
 go_in
 go_wp2_with fail
 refine((Z HR) _).mono ?_;rintro e w1 ⟨⟨p0,n0,c0,p1,n1,c1,p2,n2,c2,rfl⟩,I⟩;have HH:=F I
 go_wp2_with fail
 exact aq0 (v:=.tuple #[.bool false,.string ⟨#[]⟩,A c.1]) (by simp[results,results12,go_sem]) rfl ⟨rfl,(Z HH).alloc (Z HH).size _⟩
theorem XK(w:World)(s tape:ByteArray)(way:Int)(hs:s.size<=100)(Y:Ai)(cs:Ah)(ps:Ai)(mm:Nat)(HR:au.lG (pk s) (s.size+1) 0 0 [] [] []=.ok (s.size,Y,cs,ps,mm))(hF:FF Y cs ps)(Bd:au.kD Y cs)(iL:cs.Nodup)(DT:Ending->Prop)
 (h5:¬(way=0\/way=1)->DT (.returned (.tuple #[.bool false,.string ⟨#[]⟩,A 5])))(h7:(way=0\/way=1)->fU tape=true->DT (.returned (.tuple #[.bool false,.string ⟨#[]⟩,A 7])))
 (ny:(way=0\/way=1)->fU tape=false->(¬∃f hl,hl.length=cs.length/\Om f Y cs ps hl)->DT (.returned (.tuple #[.bool false,.string ⟨#[]⟩,A 0])))
 (afc:(way=0\/way=1)->fU tape=false->∀f hl,hl.length=cs.length->Om f Y cs ps hl->DT (.returned (.tuple #[.bool true,.string ⟨(wrt f Y.length hl).toArray⟩,A 0]))) :
  Calls prog 12 #[.string s,A way,.string tape] w λe w'=>DT e/\Ag w w':=by
 have HO:=F (qR w s hs Y cs ps mm HR hF.h7 hF.h4 hF.inv Bd iL hF.qj hF.hp);have HDT:Hid (∀e,Qi Y cs ps e->(way=0\/way=1)->fU tape=false->∃(b:Bool) (m:ByteArray),e=.returned (.tuple #[.bool b,.string m])/\DT (.returned (.tuple #[.bool b,.string m,A 0]))):=λe h hw ht=>by
  obtain⟨rfl,h⟩|⟨f,hl,I,M,rfl⟩:=h
  ·exact⟨_,_,rfl,ny hw ht h⟩
  ·exact⟨_,_,rfl,afc hw ht f hl I M⟩
 have HFV:=F h5;have HSV:=F h7;have HTP:=F (λw=>VG w tape);have HDG:Hid (fU tape=false->Hl tape.data.toList/\tape.size<=60):=λh=>PK h;have HDE:Hid (∀W GT GC GP,(way=0\/way=1)->fU tape=false->dS W GT Y->gZ W GC cs->dS W GP ps->Calls prog 19 #[fv GT GC GP Y.length cs.length ps.length,A way,.string tape] W λe w'=>Qi Y cs ps e/\Ag W w'):=λW GT GC GP hw ht I M h3=>
  W9 W GT GC GP Y cs ps tape way hw hF (PK ht).1 (PK ht).2 I M h3
 generalize Qi Y cs ps=DE at HDT HDE;unfold fv at HO HDE;generalize fU tape=nt at HDT HSV HTP HDG HDE
 go_in
 go_wp2_with fail
 refine(Z HO).mono ?_;rintro e w1 ⟨GT,GC,GP,rfl,I,NW⟩;have M1:=F (vS NW.t);have M2:=F (Hw NW.c);have M3:=F (vS NW.p);have HH1:=F I;by_cases hw:way=0\/way=1
 ·have kP:¬(way≠0/\way≠1):=O
  have EZ:((way != 0)&&(way != 1))=false:=by obtain rfl|rfl:=hw<;>rfl
  obtain⟨w2,eu⟩:∃w2,w1.alloc (.cells #[Ac GT 0 Y.length Y.length,Ac GC 0 cs.length cs.length,Ac GP 0 ps.length ps.length] 46)=w2:=⟨_,rfl⟩;have fF:Below w1.heap.size w1 w2:=by rw[<-eu];exact(aq1 _ w1).alloc (an2 _) _
  have mM:w2.heap[w1.heap.size]?=some (.cells #[Ac GT 0 Y.length Y.length,Ac GC 0 cs.length cs.length,Ac GP 0 ps.length ps.length] 46 (0,0)):=by rw[<-eu];exact ap5 _ _
  have Lu:=F fF;have HX2:=F mM;have HW:=F hw;have afP:=F (Z HTP w2);cases nt
  ·have main:∀W,way=W->(W=0\/W=1)->True:=λ_ _ _=>trivial;obtain rfl|rfl:=hw
   ·go_wp2_with fail
    refine(Z afP).mono ?_;rintro e w3 ⟨rfl,h3⟩;have qh:=(h3.block _ (an0.1 (Z HX2)).1).trans (Z HX2);have q0:w3.cell? (J w1.heap.size 0)=some (Ac GT 0 Y.length Y.length):=(by rw[cell_of qh];rfl);have q1:w3.cell? (J w1.heap.size 1)=some (Ac GC 0 cs.length cs.length):=(by rw[cell_of qh];rfl);have q2:w3.cell? (J w1.heap.size 2)=some (Ac GP 0 ps.length ps.length):=(by rw[cell_of qh];rfl);have yQ:Below w1.heap.size w1 w3:=(Z Lu).trans (h3.mono (Z Lu).size);have hde:=Z HDE w3 GT GC GP (Z HW) (by trivial) ((Z M1).below yQ (Z M1).1) ((Z M2).below yQ (Z M2).1) ((Z M3).below yQ (Z M3).1);have Ak:=F ((Z HH1).trans (yQ.mono (Z HH1).size))
    go_wp2_with fail
    refine hde.mono ?_;intro e w4 h;obtain⟨b,m,rfl,hdt⟩:=Z HDT e h.1 (Z HW) (by trivial);have UC:=F ((Z Ak).trans (h.2.mono (Z Ak).size));have HQ:=F hdt
    go_wp2_with fail
    exact aq0 (v:=.tuple #[.bool b,.string m,A 0]) (by simp[results,results12,go_sem]) rfl ⟨Z HQ,Z UC⟩
   ·go_wp2_with fail
    refine(Z afP).mono ?_;rintro e w3 ⟨rfl,h3⟩;have qh:=(h3.block _ (an0.1 (Z HX2)).1).trans (Z HX2);have q0:w3.cell? (J w1.heap.size 0)=some (Ac GT 0 Y.length Y.length):=(by rw[cell_of qh];rfl);have q1:w3.cell? (J w1.heap.size 1)=some (Ac GC 0 cs.length cs.length):=(by rw[cell_of qh];rfl);have q2:w3.cell? (J w1.heap.size 2)=some (Ac GP 0 ps.length ps.length):=(by rw[cell_of qh];rfl);have yQ:Below w1.heap.size w1 w3:=(Z Lu).trans (h3.mono (Z Lu).size);have hde:=Z HDE w3 GT GC GP (Z HW) (by trivial) ((Z M1).below yQ (Z M1).1) ((Z M2).below yQ (Z M2).1) ((Z M3).below yQ (Z M3).1);have Ak:=F ((Z HH1).trans (yQ.mono (Z HH1).size))
    go_wp2_with fail
    refine hde.mono ?_;intro e w4 h;obtain⟨b,m,rfl,hdt⟩:=Z HDT e h.1 (Z HW) (by trivial);have UC:=F ((Z Ak).trans (h.2.mono (Z Ak).size));have HQ:=F hdt
    go_wp2_with fail
    exact aq0 (v:=.tuple #[.bool b,.string m,A 0]) (by simp[results,results12,go_sem]) rfl ⟨Z HQ,Z UC⟩
  ·obtain rfl|rfl:=hw
   ·go_wp2_with fail
    refine(Z afP).mono ?_;rintro e w3 ⟨rfl,h3⟩;have yQ:Below w1.heap.size w1 w3:=(Z Lu).trans (h3.mono (Z Lu).size);have Ak:=F ((Z HH1).trans (yQ.mono (Z HH1).size))
    go_wp2_with fail
    exact aq0 (v:=.tuple #[.bool false,.string ⟨#[]⟩,A 7]) (by simp[results,results12,go_sem]) rfl ⟨Z HSV (Z HW) (by trivial),Z Ak⟩
   ·go_wp2_with fail
    refine(Z afP).mono ?_;rintro e w3 ⟨rfl,h3⟩;have yQ:Below w1.heap.size w1 w3:=(Z Lu).trans (h3.mono (Z Lu).size);have Ak:=F ((Z HH1).trans (yQ.mono (Z HH1).size))
    go_wp2_with fail
    exact aq0 (v:=.tuple #[.bool false,.string ⟨#[]⟩,A 7]) (by simp[results,results12,go_sem]) rfl ⟨Z HSV (Z HW) (by trivial),Z Ak⟩
 ·have h0:¬way=0:=λe=>hw (Or.inl e);have I:¬way=1:=λe=>hw (Or.inr e);have kQ:(way != 0)=true:=by simpa using h0
  have iD:(way != 1)=true:=by simpa using I
  have HW:=F hw
  go_wp2_with fail
  exact aq0 (v:=.tuple #[.bool false,.string ⟨#[]⟩,A 5]) (by simp[results,results12,go_sem]) rfl ⟨Z HFV (Z HW),(Z HH1).alloc (Z HH1).size _⟩
end
section
open Go.RowKit Go.Maps Go.WideMaps
open au (Key put fQ aB isAtom cnt bJ jD)
def agt(s tape:ByteArray)(way:Int)(e:Ending):Prop:=
 ∃sat m errno,e=.returned (.tuple #[.bool sat,.string m,A errno])/\m.size<=maxLen/\PS (sV s) (uD s m) way (fU tape) sat m errno=true
theorem adW{n way:Int}{h:Bool×Int}{bad:Bool}(hw:¬(way=0\/way=1)):PS (n,0) h way bad false ⟨#[]⟩ 5=true:=by
 have hw':way<0\/1<way:=O
 have he:(⟨#[]⟩:ByteArray).size=0:=rfl;simp[PS,hw',he]
theorem aaV{n way:Int}{h:Bool×Int}{bad:Bool}(hw:way=0\/way=1)(hb:bad=true):PS (n,0) h way bad false ⟨#[]⟩ 7=true:=by
 have hw':¬(way<0\/1<way):=O
 have he:(⟨#[]⟩:ByteArray).size=0:=rfl;simp[PS,hw',he,hb]
theorem al7{way:Int}{h:Bool×Int}(hw:way=0\/way=1):PS (0,0) h way false false ⟨#[]⟩ 0=true:=by
 have hw':¬(way<0\/1<way):=O
 have he:(⟨#[]⟩:ByteArray).size=0:=rfl;simp[PS,hw',he]
theorem al6{n way:Int}{m:ByteArray}(hn:n≠0)(hw:way=0\/way=1):PS (n,0) (true,0) way false true m 0=true:=by
 have hw':¬(way<0\/1<way):=O
 simp[PS,hw',hn]
theorem Xc{n E way:Int}{h:Bool×Int}{bad:Bool}(hE:E≠0):PS (n,E) h way bad false ⟨#[]⟩ E=true:=by
 have he:(⟨#[]⟩:ByteArray).size=0:=rfl;simp[PS,hE,he]
theorem XM(w:World)(s tape:ByteArray)(way:Int)(hm:s.size<=maxLen) :
  Calls prog 12 #[.string s,A way,.string tape] w λe w'=>agt s tape way e/\Ag w w':=by
 by_cases h:s.size<=100/\(chk s).1=0
 ·obtain⟨Y,cs,ps,I,M,h3,h4,h5,h6,h7,h8,h9,YK,h11,h12⟩:=ji s h.1 h.2;have hF:=FF.of h.1 I M h3 h4 h5 YK h11 h12;have vC:sV s=(((Uh Y cs ps:Nat):Int),0):=by
   unfold sV;rw[ao4 h,h6];simp only;rw[all_eq s Y cs ps I h3 h4 h5]
  have xg:=Xi h3 YK hF.ht hF.hcs;refine XK w s tape way h.1 Y cs ps _ I hF h5 h9 (agt s tape way) (λhw=>⟨_,_,_,rfl,ap7 _,by rw[vC];exact adW hw⟩) (λhw ht=>⟨_,_,_,rfl,ap7 _,by rw[vC];exact aaV hw ht⟩) (λhw ht hn=>⟨_,_,_,rfl,ap7 _,?_⟩) (λhw ht f hl zM lH=>⟨_,_,_,rfl,?_,?_⟩)
  ·have:Uh Y cs ps=0:=aq4 λe=>hn (xg.1 e);rw[vC,this,ht];exact al7 hw
  ·show(wrt f Y.length hl).toArray.size<=maxLen
   have:=Ec f Y.length;unfold maxLen;simp[wrt,bits,this,zM];omega
  ·have hmt:uD s ⟨(wrt f Y.length hl).toArray⟩=(true,0):=by
    unfold uD;rw[ao4 h,h6];exact Y9 I M h4 h5 YK hF.ht hF.hcs zM lH
   have hn:=xg.2 ⟨f,hl,zM,lH⟩;rw[vC,hmt,ht];exact al6 O hw
 ·have hE:=yZ h;refine(XL w s tape way hm hE).mono ?_;rintro e w' ⟨rfl,hb⟩;refine⟨⟨_,_,_,rfl,ap7 _,?_⟩,hb⟩;unfold sV;rw[an8 h];exact Xc hE
end
section
open Go.RowKit
attribute [local go_sem] Oper.semAt_some
theorem OG(w:World)(n:Int)(s t:ByteArray)(hm:s.size<=maxLen)(ht:t.size<=maxLen) :
  Calls prog 22 #[.agg #[A 5,A n,.string s,.string t]] w λe w'=>e=.returned (.bool true)/\Ag w w':=by
 have H1:=F (λw=>XM w s t n hm);have H2:Hid (∀(W:World) (m:ByteArray) (sat:Bool) (errno:Int),m.size<=maxLen->PS (sV s) (uD s m) n (fU t) sat m errno=true->Calls prog 43 #[.string s,A n,.string t,.bool sat,.string m,A errno] W λe w'=>e=.returned (.bool true)/\Ag W w'):=λW m sat errno I M=>Qe W s t m n errno sat hm ht I M;obtain⟨w0,kW⟩:∃w0,w.alloc (.cells #[A 5,A n,.string s,.string t] 61)=w0:=⟨_,rfl⟩;have kQ:Below w.heap.size w w0:=by rw[<-kW];exact(aq1 _ w).alloc (an2 _) _
 have xI:w0.heap[w.heap.size]?=some (.cells #[A 5,A n,.string s,.string t] 61 (0,0)):=by rw[<-kW];exact ap5 _ _
 have q0:w0.cell? (J w.heap.size 0)=some (A 5):=by rw[cell_of xI];rfl
 have q1:w0.cell? (J w.heap.size 1)=some (A n):=by rw[cell_of xI];rfl
 have q2:w0.cell? (J w.heap.size 2)=some (.string s):=by rw[cell_of xI];rfl
 have q3:w0.cell? (J w.heap.size 3)=some (.string t):=by rw[cell_of xI];rfl
 have hH1:=Z H1 w0;have hs0:w.heap.size<w0.heap.size:=(an0.1 xI).1
 go_in
 go_wp2_with fail
 refine hH1.mono ?_;rintro e w1 ⟨⟨sat,m,errno,rfl,Ii,hd⟩,b1⟩;have HD:=F hd;have wK:Hid (∀W',Below w1.heap.size w1 W'->W'.cell? (J w.heap.size 1)=some (A n)/\W'.cell? (J w.heap.size 2)=some (.string s)/\W'.cell? (J w.heap.size 3)=some (.string t)):=λW' hW=>by
  have hb:=b1.trans (hW.mono b1.size);have hx:=(hb.block w.heap.size hs0).trans xI;exact⟨by rw[cell_of hx];rfl,by rw[cell_of hx];rfl,by rw[cell_of hx];rfl⟩
 have HB1:=F (kQ.trans (b1.mono O))
 go_wp2_with fail
 refine aq8 (S:=λW'=>Below w1.heap.size w1 W') rfl ?_;have aA:Below w1.heap.size w1 w1.drew:=(aq1 _ _).drew;simp only[ao5,ao1,ap0,Nat.reduceAdd,an7,an6,ao6,ao8,ao7];change wpAnyH prog .any _ _ _ _ _ _ w1.drew;refine dF 0 (Aa w.heap.size 2) aA ?_
 simp only[aF];refine tH 1 (.string s) (λw' hS=>?_) aA ?_
 ·obtain⟨s1,s2,s3⟩:=Z wK _ hS;go_simp
 simp only[aF];refine dF 2 (Aa w.heap.size 1) aA ?_
 simp only[aF];refine tH 3 (A n) (λw' hS=>?_) aA ?_
 ·obtain⟨s1,s2,s3⟩:=Z wK _ hS;go_simp
 simp only[aF];refine dF 4 (Aa w.heap.size 3) aA ?_
 simp only[aF];refine tH 5 (.string t) (λw' hS=>?_) aA ?_
 ·obtain⟨s1,s2,s3⟩:=Z wK _ hS;go_simp
 simp only[aF];refine dF 6 (.bool sat) aA ?_
 simp only[aF];refine dF 7 (.string m) aA ?_
 simp only[aF];refine dF 8 (A errno) aA ?_
 simp only[aF];refine oH 9 (λK hK=>?_);go_simp;refine(Dt _ _).mono ?_;rintro e w3 ⟨rfl,rfl⟩;replace aA:=aA;refine hK.out _ _ aA ?_;refine oH 10 (λK hK=>?_);go_simp;refine(Z H2 _ m sat errno Ii (Z HD)).mono ?_;rintro e w4 ⟨rfl,sD⟩;replace aA:=aA.trans (sD.mono aA.size);refine hK.out _ _ aA ?_;have XF:=F aA;refine oH 11 (λK hK=>?_);go_simp;refine hK.out _ _ (aA) (ar2 (by kernel_rfl) ?_ _)
 go_wp2_with fail
 exact aq0 (v:=.bool true) (by simp[results,results22,go_sem]) rfl ⟨rfl,(Z HB1).trans ((Z XF).mono (Z HB1).size)⟩
end
open Go.ChangeShapes Go.WideShapes Go.ChangeAt Go.RowKit
open Go.ChangeMaps (open_string shut_string)
theorem abe:XD 1 5:=by
 intro w k n s t I M hs ht;have e:k=1\/k=2\/k=3\/k=4\/k=5:=O
 obtain rfl|rfl|rfl|rfl|rfl:=e
 ·exact Rk w n s t hs
 ·exact Rh w n s t hs
 ·exact Ri w n s t hs ht
 ·exact Rj w n s t hs
 ·exact OG w n s t hs ht
theorem all_walk(w:World)(v:Value)(h:KZ w v) :
  Calls prog 5 #[v] w λe w'=>e=.returned (.bool true)/\Ag w w':=by
 have H:=F (abD 1 5 abe w v h)
 go_in
 go_wp2_with fail
 refine(Z H).mono ?_;rintro e w1 ⟨rfl,b1⟩
 go_wp2_with fail
 go_ret
 exact⟨rfl,b1⟩
theorem all_lifted(os:Os)(started:os.Started)(H:Type)(enc:TypeId×Value->H) :
  ReturnsInHanded {} checked os 5 .any (Rows.allSpec.pre6 enc prog f5 Rows.allRow.domain false) (Rows.allSpec.post enc prog f5 false true false false):=by
 refine returnsInHanded_of_change (C:=checked) akT started (by kernel_rfl) func5
  (ChangeSpec.witness6 (enc:=enc) (C:=checked) false ⟨#[],#[.slice none 0 0],[]⟩ 8 (by kernel_rfl) (by kernel_rfl) (by kernel_rfl) (by kernel_rfl)) ?_
 intro W base args ds gs before aiR hW am0 _;have aiS:∀(j:Nat) t v,f5.params[j]?=some t->args[j]?=some v->Value.okWide prog W .any base t v:=aiR;have hW':=hW;obtain⟨p,q,hA0,hV,rfl,hfz,iL⟩:=hW;have hA:DataW.TrodAll enc prog W 0 (λ_=>true) true f5.params.toList args.toList ds p:=hA0;rw[params5]at hA aiS;obtain⟨v0,vs0,d0,ds0,p0,q0,amD,rfl,rfl,h0,r0⟩:=trodAll_cons hA;obtain⟨rfl,rfl,rfl⟩:=trodAll_nil r0;obtain rfl:args=#[v0]:=by cases args;simp_all
 obtain⟨rfl,rfl⟩:=trodVars_none hV;obtain⟨a0,len0,akz,rfl⟩:=okWide_slice underlying36 (aiS 0 36 v0 rfl rfl);have k0:=h0;have lt0:∀x∈p0,x.block<W.heap.size:=by obtain⟨m,hm⟩:=k0;exact DataW.trod_lt m _ _ _ hm
 have w0:=open_script h0;refine(all_walk W _ w0).mono λe W' ⟨he,bel⟩=>?_;subst he;exact⟨_,rfl,_,_,_,[],_,[],hW',trodAll_mk1 (shut_bool underlying4 _),(trodAll_cons_mk (Below.trod acN (by kernel_rfl) (aC6 (by kernel_rfl)) k0 bel lt0) trodAll_mk0),rfl,bel.frame _,λh=>by cases h⟩
theorem all_holds:Rows.AllSaid:=
 OpenClaim.holds_of_wide 5 f5 rfl rfl rfl rfl rfl rfl rfl ⟨rfl,rfl,rfl,rfl,rfl⟩ rfl rfl rfl rfl rfl (by kernel_rfl) func5 (by kernel_rfl)
  (aC6 (by kernel_rfl)) (by unfold Func.isWrapper;first|(rw[ao4 (by decide +kernel)];kernel_rfl)|(rw[an8 (by decide +kernel)];exact⟨rfl,rfl⟩))
  (λos started H enc _=>all_lifted os started H enc)
end Go.Proofs.YthcppbmkacbbiabGreat
