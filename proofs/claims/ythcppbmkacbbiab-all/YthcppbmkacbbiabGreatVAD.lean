import Derived.Test.YthcppbmkacbbiabGreatVAC
set_option linter.unusedSimpArgs false
set_option maxHeartbeats 2000000
set_option maxRecDepth 100000
namespace Go.Proofs.YthcppbmkacbbiabGreat
open Go.Proofs.Tryz
section
open Go.RowKit Go.Maps Go.WideMaps
open au (Key put)
theorem KI(v:Option Addr)(n c:Nat)(w:World):Calls prog 75 #[.slice v n c] w λe w'=>
  e=.returned (.func (.func 130) #[] #[Aa w.heap.size 0])/\w'=w.alloc (.cells #[.slice v n c] 42):=by
 go_in
 go_wp2_with fail
 go_ret
 exact⟨rfl,rfl⟩
theorem KH(n:Nat)(hn:2<=n)(X G cap m0:Nat)(keys:Ai)(w:World)(UJ:m0<=w.heap.size)(hl:keys.length<=500)
 (hX:w.cell? (J X 0)=some (Ac G 0 keys.length cap))(hG:dS w G keys)(hv:∀x∈keys,∃l,keyOf prog 76 (bZ x)=some l) :
  tq Fence.wide n prog 130 #[Aa X 0] ((bI keys keys.length).map λp=>#[.int .i64 p.1,.int .i64 p.2]) (KA m0 X G) w:=by
 intro l Af Jx W hW hJ hJx hY h0;have Qp:W.cell? (J X 0)=some (Ac G 0 keys.length cap):=(hW.cell (p:=(J X 0)) (an4 w _ hX)).trans hX;have wG:X<W.heap.size:=an4 W _ Qp;have AL:G<W.heap.size:=ap2 hG.1 hW.size;have hGW:dS W G keys:=hG.below hW hG.1;have Ii:=λz=>fG (P:=prog) underlying64 .i64 z W;have Gh:=hW.size;refine au2 func130 rfl trivial ?_ rfl;simp only[ntmps130,ao5,ao1,ap0,Nat.reduceAdd,Nat.reduceSub,an7,an6,ao6,ap9,ao8,ao7]
 gi_wp2
 obtain⟨W1,dO⟩:∃W1,W.alloc (.map #[] 0)=W1:=⟨_,rfl⟩;have bG:W.grownBy W1 none:=by rw[<-dO];exact an1 _ _ none
 have hF1:uY W1 76 W.heap.size bZ ([]:Ai):=by rw[<-dO];exact zS W _ _
 have oI:W.heap.size<W1.heap.size:=by rw[<-dO];simp
 have EH:W1.heap[X]?=W.heap[X]?:=bG.block X wG R;have AV:W1.heap[G]?=W.heap[G]?:=bG.block G AL R;have Lm:Af 0 W1:=hJ 0 W W1 none h0 bG (λr e=>by cases e);have ahA:W1.cell? (J X 0)=some (Ac G 0 keys.length cap):=(an9 EH).trans Qp;rw[dO]
 gi_wp2
 gi_loopw [13] (λi wr=>∃k:Nat,k<=keys.length/\i=.int .i64 k/\Af (bI keys k).length wr/\uY wr 76 W.heap.size bZ (keys.take k)/\wr.heap[X]?=W.heap[X]?/\wr.heap[G]?=W.heap[G]?) (λi _=>keys.length-(intOf i).toNat)
 case atStart=>exact⟨0,ap7 _,rfl,Lm,hF1,EH,AV⟩
 case round=>
  obtain⟨k,hk,rfl,zQ,Ph,sJ,BO⟩:=hrel;by_cases hlt:k<keys.length
  ·have iF:(k:Int)<(keys.length:Int):=O;have EK:=(hGW.same BO).2 k hlt;have kT:keys.take (k+1)=keys.take k++[keys[k]]:=(by rw[aq3,an3 hlt];rfl);obtain⟨lt,nO⟩:=hv keys[k] (an5 hlt);have OY:=qW hlt;have gU:=OD (keys:=keys) hlt;have hlF:=Ph.lt;have EY:=Ph.walk;obtain⟨D,nn,h0n,aH,aX⟩:=id Ph;have Fg:=aX _ _ nO;have jO:=aH.tidy Ap;have Ih:nn<=500:=(by rw[ar1]at h0n;omega);have jQ:=F aX;have HF:=F Ph;have HN:=F h0n;cases hc:(keys.take k).contains keys[k]
   ·rw[hc]at Fg OY;have wI:Maps.has D lt=false:=Fg.1;have je:=F kT;have FU:=F OY;have HC:=F hc;have HK:=F nO;have aV:=nO;generalize keys[k]=key at EK aV je FU HC HK;obtain⟨tl,tf,tsd⟩:=key;simp only at EK;simp only[bZ]at aV;obtain⟨g0,g1,g2⟩:=EK
    gi_wp2_with (first
     |(gi_at_lookup;refine aw6 _ rfl _ _ 64 rfl 76 3 .i64 Ap underlying64 underlying3 (zeroE _) W.heap.size nn D rfl (aH.alloc _) _ lt rfl aV ?_;intro c0 gU EZ)
     |(gi_at_mapUpdate;refine wpListIn_mapUpdate_own _ rfl _ _ _ 64 rfl 76 3 Ap underlying64 _ W.heap.size nn D rfl (aH.alloc _) anj _ _ lt rfl rfl aV _ [] (aB2 underlying3 (aA0 O)) ?_;intro w5 uI lI))
    have hlen:(keys.take k).length=k:=(by rw[ar1];omega);have uZ:=Z FU;rw[an8 ane]at uZ;obtain⟨o,ho,hw⟩:=EY;have fK:wr.grownBy (wr.alloc (.cells #[.int .u8 tl,.int .i64 tf,.int .i64 tsd] 76)) none:=an1 _ _ none;have wF:X<wr.heap.size:=(by have I:=wG;rw[aq6 I]at sJ;exact(an0.1 sJ).1);have wH:G<wr.heap.size:=(by have I:=AL;rw[aq6 I]at BO;exact(an0.1 BO).1);refine⟨⟨k+1,O,by go_num,?_,?_,?_,?_⟩,by simp[intOf];omega⟩
    ·rw[uZ];exact hJ _ _ w5 (some W.heap.size) (hJ _ wr _ none zQ fK (λr e=>by cases e)) lI (λr e=>by cases e;exact⟨an2 _,o,(fK.block _ hlF R).trans ho,hw⟩)
    ·rw[Z je];exact Ea (λ_ _=>zH) Ap (Z HN) (Z jQ) jO (Z HK) (Z HC) (by rw[hlen];exact uI)
    ·exact((lI.block X (ap2 wF fK.size) anf).trans (fK.block X wF R)).trans sJ
    ·exact((lI.block G (ap2 wH fK.size) anf).trans (fK.block G wH R)).trans BO
   ·rw[hc]at Fg OY;have wI:Maps.has D lt=true:=Fg.1;obtain⟨hj,hje⟩:=gU hc;have Ew:=F (Fg.2 rfl);have je:=F kT;have FU:=F OY;have HC:=F hc;have aV:=nO;have lZ:=hY (bI keys k).length (by simpa using hj);rw[show((bI keys keys.length).map λp:Nat×Nat=>#[Value.int .i64 p.1,Value.int .i64 p.2])[(bI keys k).length]'(by simpa using hj)=#[Value.int .i64 ((keys.take k).idxOf keys[k]:Nat),Value.int .i64 k] by simp[hje]]at lZ;have xK:(keys.take k).idxOf keys[k]<=500:=(by have:=aw3 (l:=keys.take k) (a:=keys[k]);rw[ar1]at this;omega);generalize (keys.take k).idxOf keys[k]=fi at Ew lZ FU xK;generalize keys[k]=key at EK aV je FU HC;obtain⟨tl,tf,tsd⟩:=key;simp only at EK;simp only[bZ]at aV;obtain⟨g0,g1,g2⟩:=EK;have fK:wr.grownBy (wr.alloc (.cells #[.int .u8 tl,.int .i64 tf,.int .i64 tsd] 76)) none:=an1 _ _ none;obtain⟨fn,tmps,assign,body,hy,hR⟩:=lZ (wr.alloc (.cells #[.int .u8 tl,.int .i64 tf,.int .i64 tsd] 76)) (hJ _ wr _ none zQ fK (λr e=>by cases e));have wF:X<wr.heap.size:=(by have I:=wG;rw[aq6 I]at sJ;exact(an0.1 sJ).1);have wH:G<wr.heap.size:=by have I:=AL;rw[aq6 I]at BO;exact(an0.1 BO).1
    gi_wp2_with (gi_at_lookup;refine aw6 _ rfl _ _ 64 rfl 76 3 .i64 Ap underlying64 underlying3 (zeroE _) W.heap.size nn D rfl (aH.alloc _) _ lt rfl aV ?_;intro c0 gU EZ;have zO:c0=(fi:Int):=by {have h:=gU.symm.trans (Z Ew);simpa using h};subst zO;clear gU EZ)
    refine⟨λ_=>O,hR.mono ?_⟩;rintro e W3 (⟨rfl,xM,pG⟩|⟨rfl,qh⟩)
    ·have jF:W3.heap[X]?=W.heap[X]?:=pG.2.1.trans ((fK.block X wF R).trans sJ);have NY:W3.heap[G]?=W.heap[G]?:=pG.2.2.trans ((fK.block G wH R).trans BO);obtain⟨o,ho,hw⟩:=EY;have uQ:W3.heap[W.heap.size]?=wr.heap[W.heap.size]?:=(pG.1 _ o O ((fK.block _ hlF R).trans ho) (Or.inr hw)).trans ho.symm
     gi_wp2
     go_roundw
     case rel=>
      refine⟨k+1,O,by go_num,?_,?_,jF,NY⟩
      ·have uZ:bI keys (k+1)=bI keys k++[(fi,k)]:=Z FU;rw[uZ,ap4];exact xM
      ·rw[Z je];exact((Z HF).kept uQ).again (Z HC)
     case measure=>simp[intOf];omega
    ·clear hR hy
     gi_wp2
     (try simp only[Exit.inBlock,Exit.then])
     exact aq0 (results_none rfl _ _ _) rfl ⟨⟨_,rfl⟩,Or.inr qh⟩
  ·have gW:k=keys.length:=O;have Lr:=F gW;have iF:¬(k:Int)<(keys.length:Int):=O
   gi_wp2
   go_end0
   refine⟨⟨_,rfl⟩,Or.inl ?_⟩;rw[<-Z Lr];exact zQ
theorem KJ(v:Option Addr)(n c:Nat)(w:World):Calls prog 131 #[.slice v n c] w λe w'=>
  e=.returned (.func (.func 169) #[] #[Aa w.heap.size 0])/\w'=w.alloc (.cells #[.slice v n c] 43):=by
 go_in
 go_wp2_with fail
 go_ret
 exact⟨rfl,rfl⟩
theorem Xq(n:Nat)(hn:2<=n)(X G cap m0:Nat)(keys:Ah)(w:World)(UJ:m0<=w.heap.size)(hl:keys.length<=500)
 (hX:w.cell? (J X 0)=some (Ac G 0 keys.length cap))(hG:gZ w G keys)(hv:∀x∈keys,∃l,keyOf prog 79 (mZ x)=some l) :
  tq Fence.wide n prog 169 #[Aa X 0] ((bI keys keys.length).map λp=>#[.int .i64 p.1,.int .i64 p.2]) (KA m0 X G) w:=by
 intro l Af Jx W hW hJ hJx hY h0;have Qp:W.cell? (J X 0)=some (Ac G 0 keys.length cap):=(hW.cell (p:=(J X 0)) (an4 w _ hX)).trans hX;have wG:X<W.heap.size:=an4 W _ Qp;have AL:G<W.heap.size:=ap2 hG.1 hW.size;have hGW:gZ W G keys:=hG.below hW hG.1;have Ii:=λz=>fG (P:=prog) underlying66 .i64 z W;have Gh:=hW.size;refine au2 func169 rfl trivial ?_ rfl;simp only[ntmps169,ao5,ao1,ap0,Nat.reduceAdd,Nat.reduceSub,an7,an6,ao6,ap9,ao8,ao7]
 gi_wp2
 obtain⟨W1,dO⟩:∃W1,W.alloc (.map #[] 0)=W1:=⟨_,rfl⟩;have bG:W.grownBy W1 none:=by rw[<-dO];exact an1 _ _ none
 have hF1:uY W1 79 W.heap.size mZ ([]:Ah):=by rw[<-dO];exact zS W _ _
 have oI:W.heap.size<W1.heap.size:=by rw[<-dO];simp
 have EH:W1.heap[X]?=W.heap[X]?:=bG.block X wG R;have AV:W1.heap[G]?=W.heap[G]?:=bG.block G AL R;have Lm:Af 0 W1:=hJ 0 W W1 none h0 bG (λr e=>by cases e);have ahA:W1.cell? (J X 0)=some (Ac G 0 keys.length cap):=(an9 EH).trans Qp;rw[dO]
 gi_wp2
 gi_loopw [13] (λi wr=>∃k:Nat,k<=keys.length/\i=.int .i64 k/\Af (bI keys k).length wr/\uY wr 79 W.heap.size mZ (keys.take k)/\wr.heap[X]?=W.heap[X]?/\wr.heap[G]?=W.heap[G]?) (λi _=>keys.length-(intOf i).toNat)
 case atStart=>exact⟨0,ap7 _,rfl,Lm,hF1,EH,AV⟩
 case round=>
  obtain⟨k,hk,rfl,zQ,Ph,sJ,BO⟩:=hrel;by_cases hlt:k<keys.length
  ·have iF:(k:Int)<(keys.length:Int):=O;have EK:=(hGW.same BO).2 k hlt;have kT:keys.take (k+1)=keys.take k++[keys[k]]:=(by rw[aq3,an3 hlt];rfl);obtain⟨lt,nO⟩:=hv keys[k] (an5 hlt);have OY:=qW hlt;have gU:=OD (keys:=keys) hlt;have hlF:=Ph.lt;have EY:=Ph.walk;obtain⟨D,nn,h0n,aH,aX⟩:=id Ph;have Fg:=aX _ _ nO;have jO:=aH.tidy Aq;have Ih:nn<=500:=(by rw[ar1]at h0n;omega);have jQ:=F aX;have HF:=F Ph;have HN:=F h0n;cases hc:(keys.take k).contains keys[k]
   ·rw[hc]at Fg OY;have wI:Maps.has D lt=false:=Fg.1;have je:=F kT;have FU:=F OY;have HC:=F hc;have HK:=F nO;have aV:=nO;generalize keys[k]=key at EK aV je FU HC HK;obtain⟨tl,tf⟩:=key;simp only at EK;simp only[mZ]at aV;obtain⟨g0,g1⟩:=EK
    gi_wp2_with (first
     |(gi_at_lookup;refine aw6 _ rfl _ _ 66 rfl 79 3 .i64 Aq underlying66 underlying3 (zeroE _) W.heap.size nn D rfl (aH.alloc _) _ lt rfl aV ?_;intro c0 gU EZ)
     |(gi_at_mapUpdate;refine wpListIn_mapUpdate_own _ rfl _ _ _ 66 rfl 79 3 Aq underlying66 _ W.heap.size nn D rfl (aH.alloc _) anj _ _ lt rfl rfl aV _ [] (aB2 underlying3 (aA0 O)) ?_;intro w5 uI lI))
    have hlen:(keys.take k).length=k:=(by rw[ar1];omega);have uZ:=Z FU;rw[an8 ane]at uZ;obtain⟨o,ho,hw⟩:=EY;have fK:wr.grownBy (wr.alloc (.cells #[.int .u8 tl,.int .i64 tf] 79)) none:=an1 _ _ none;have wF:X<wr.heap.size:=(by have I:=wG;rw[aq6 I]at sJ;exact(an0.1 sJ).1);have wH:G<wr.heap.size:=(by have I:=AL;rw[aq6 I]at BO;exact(an0.1 BO).1);refine⟨⟨k+1,O,by go_num,?_,?_,?_,?_⟩,by simp[intOf];omega⟩
    ·rw[uZ];exact hJ _ _ w5 (some W.heap.size) (hJ _ wr _ none zQ fK (λr e=>by cases e)) lI (λr e=>by cases e;exact⟨an2 _,o,(fK.block _ hlF R).trans ho,hw⟩)
    ·rw[Z je];exact Ea (λ_ _=>OM) Aq (Z HN) (Z jQ) jO (Z HK) (Z HC) (by rw[hlen];exact uI)
    ·exact((lI.block X (ap2 wF fK.size) anf).trans (fK.block X wF R)).trans sJ
    ·exact((lI.block G (ap2 wH fK.size) anf).trans (fK.block G wH R)).trans BO
   ·rw[hc]at Fg OY;have wI:Maps.has D lt=true:=Fg.1;obtain⟨hj,hje⟩:=gU hc;have Ew:=F (Fg.2 rfl);have je:=F kT;have FU:=F OY;have HC:=F hc;have aV:=nO;have lZ:=hY (bI keys k).length (by simpa using hj);rw[show((bI keys keys.length).map λp:Nat×Nat=>#[Value.int .i64 p.1,Value.int .i64 p.2])[(bI keys k).length]'(by simpa using hj)=#[Value.int .i64 ((keys.take k).idxOf keys[k]:Nat),Value.int .i64 k] by simp[hje]]at lZ;have xK:(keys.take k).idxOf keys[k]<=500:=(by have:=aw3 (l:=keys.take k) (a:=keys[k]);rw[ar1]at this;omega);generalize (keys.take k).idxOf keys[k]=fi at Ew lZ FU xK;generalize keys[k]=key at EK aV je FU HC;obtain⟨tl,tf⟩:=key;simp only at EK;simp only[mZ]at aV;obtain⟨g0,g1⟩:=EK;have fK:wr.grownBy (wr.alloc (.cells #[.int .u8 tl,.int .i64 tf] 79)) none:=an1 _ _ none;obtain⟨fn,tmps,assign,body,hy,hR⟩:=lZ (wr.alloc (.cells #[.int .u8 tl,.int .i64 tf] 79)) (hJ _ wr _ none zQ fK (λr e=>by cases e));have wF:X<wr.heap.size:=(by have I:=wG;rw[aq6 I]at sJ;exact(an0.1 sJ).1);have wH:G<wr.heap.size:=by have I:=AL;rw[aq6 I]at BO;exact(an0.1 BO).1
    gi_wp2_with (gi_at_lookup;refine aw6 _ rfl _ _ 66 rfl 79 3 .i64 Aq underlying66 underlying3 (zeroE _) W.heap.size nn D rfl (aH.alloc _) _ lt rfl aV ?_;intro c0 gU EZ;have zO:c0=(fi:Int):=by {have h:=gU.symm.trans (Z Ew);simpa using h};subst zO;clear gU EZ)
    refine⟨λ_=>O,hR.mono ?_⟩;rintro e W3 (⟨rfl,xM,pG⟩|⟨rfl,qh⟩)
    ·have jF:W3.heap[X]?=W.heap[X]?:=pG.2.1.trans ((fK.block X wF R).trans sJ);have NY:W3.heap[G]?=W.heap[G]?:=pG.2.2.trans ((fK.block G wH R).trans BO);obtain⟨o,ho,hw⟩:=EY;have uQ:W3.heap[W.heap.size]?=wr.heap[W.heap.size]?:=(pG.1 _ o O ((fK.block _ hlF R).trans ho) (Or.inr hw)).trans ho.symm
     gi_wp2
     go_roundw
     case rel=>
      refine⟨k+1,O,by go_num,?_,?_,jF,NY⟩
      ·have uZ:bI keys (k+1)=bI keys k++[(fi,k)]:=Z FU;rw[uZ,ap4];exact xM
      ·rw[Z je];exact((Z HF).kept uQ).again (Z HC)
     case measure=>simp[intOf];omega
    ·clear hR hy
     gi_wp2
     (try simp only[Exit.inBlock,Exit.then])
     exact aq0 (results_none rfl _ _ _) rfl ⟨⟨_,rfl⟩,Or.inr qh⟩
  ·have gW:k=keys.length:=O;have Lr:=F gW;have iF:¬(k:Int)<(keys.length:Int):=O
   gi_wp2
   go_end0
   refine⟨⟨_,rfl⟩,Or.inl ?_⟩;rw[<-Z Lr];exact zQ
theorem Xu(v:Option Addr)(n c:Nat)(w:World):Calls prog 69 #[.slice v n c] w λe w'=>
  e=.returned (.func (.func 128) #[] #[Aa w.heap.size 0])/\w'=w.alloc (.cells #[.slice v n c] 39):=by
 go_in
 go_wp2_with fail
 go_ret
 exact⟨rfl,rfl⟩
theorem Xr(n:Nat)(hn:2<=n)(X G cap m0:Nat)(keys:List UInt8)(w:World)(UJ:m0<=w.heap.size)(hl:keys.length<=500)
 (hX:w.cell? (J X 0)=some (Ac G 0 keys.length cap))(hG:zn w G keys)(hv:∀x∈keys,∃l,keyOf prog 5 (kvB x)=some l) :
  tq Fence.wide n prog 128 #[Aa X 0] ((bI keys keys.length).map λp=>#[.int .i64 p.1,.int .i64 p.2]) (KA m0 X G) w:=by
 intro l Af Jx W hW hJ hJx hY h0;have Qp:W.cell? (J X 0)=some (Ac G 0 keys.length cap):=(hW.cell (p:=(J X 0)) (an4 w _ hX)).trans hX;have wG:X<W.heap.size:=an4 W _ Qp;have AL:G<W.heap.size:=ap2 hG.1 hW.size;have hGW:zn W G keys:=hG.below hW hG.1;have Ii:=λz=>fG (P:=prog) underlying222 .i64 z W;have Gh:=hW.size;refine au2 func128 rfl trivial ?_ rfl;simp only[ntmps128,ao5,ao1,ap0,Nat.reduceAdd,Nat.reduceSub,an7,an6,ao6,ap9,ao8,ao7]
 gi_wp2
 obtain⟨W1,dO⟩:∃W1,W.alloc (.map #[] 0)=W1:=⟨_,rfl⟩;have bG:W.grownBy W1 none:=by rw[<-dO];exact an1 _ _ none
 have hF1:uY W1 5 W.heap.size kvB ([]:List UInt8):=by rw[<-dO];exact zS W _ _
 have oI:W.heap.size<W1.heap.size:=by rw[<-dO];simp
 have EH:W1.heap[X]?=W.heap[X]?:=bG.block X wG R;have AV:W1.heap[G]?=W.heap[G]?:=bG.block G AL R;have Lm:Af 0 W1:=hJ 0 W W1 none h0 bG (λr e=>by cases e);have ahA:W1.cell? (J X 0)=some (Ac G 0 keys.length cap):=(an9 EH).trans Qp;rw[dO]
 gi_wp2
 gi_loopw [13] (λi wr=>∃k:Nat,k<=keys.length/\i=.int .i64 k/\Af (bI keys k).length wr/\uY wr 5 W.heap.size kvB (keys.take k)/\wr.heap[X]?=W.heap[X]?/\wr.heap[G]?=W.heap[G]?) (λi _=>keys.length-(intOf i).toNat)
 case atStart=>exact⟨0,ap7 _,rfl,Lm,hF1,EH,AV⟩
 case round=>
  obtain⟨k,hk,rfl,zQ,Ph,sJ,BO⟩:=hrel;by_cases hlt:k<keys.length
  ·have iF:(k:Int)<(keys.length:Int):=O;have EK:=(hGW.same BO).2 k hlt;have kT:keys.take (k+1)=keys.take k++[keys[k]]:=(by rw[aq3,an3 hlt];rfl);obtain⟨lt,nO⟩:=hv keys[k] (an5 hlt);have OY:=qW hlt;have gU:=OD (keys:=keys) hlt;have hlF:=Ph.lt;have EY:=Ph.walk;obtain⟨D,nn,h0n,aH,aX⟩:=id Ph;have Fg:=aX _ _ nO;have jO:=aH.tidy acL;have Ih:nn<=500:=(by rw[ar1]at h0n;omega);have jQ:=F aX;have HF:=F Ph;have HN:=F h0n;cases hc:(keys.take k).contains keys[k]
   ·rw[hc]at Fg OY;have wI:Maps.has D lt=false:=Fg.1;have je:=F kT;have FU:=F OY;have HC:=F hc;have HK:=F nO;have aV:=nO;generalize keys[k]=key at EK aV je FU HC HK;simp only[kvB]at aV
    gi_wp2_with (first
     |(gi_at_lookup;refine aw6 _ rfl _ _ 222 rfl 5 3 .i64 acL underlying222 underlying3 (zeroE _) W.heap.size nn D rfl aH _ lt rfl aV ?_;intro c0 gU EZ)
     |(gi_at_mapUpdate;refine wpListIn_mapUpdate_own _ rfl _ _ _ 222 rfl 5 3 acL underlying222 _ W.heap.size nn D rfl aH anj _ _ lt rfl rfl aV _ [] (aB2 underlying3 (aA0 O)) ?_;intro w5 uI lI))
    have hlen:(keys.take k).length=k:=(by rw[ar1];omega);have uZ:=Z FU;rw[an8 ane]at uZ;obtain⟨o,ho,hw⟩:=EY;have fK:wr.grownBy wr none:=⟨rfl,rfl,rfl,an2 _,λ_ _ _=>rfl⟩;have wF:X<wr.heap.size:=(by have I:=wG;rw[aq6 I]at sJ;exact(an0.1 sJ).1);have wH:G<wr.heap.size:=(by have I:=AL;rw[aq6 I]at BO;exact(an0.1 BO).1);refine⟨⟨k+1,O,by go_num,?_,?_,?_,?_⟩,by simp[intOf];omega⟩
    ·rw[uZ];exact hJ _ _ w5 (some W.heap.size) (hJ _ wr _ none zQ fK (λr e=>by cases e)) lI (λr e=>by cases e;exact⟨an2 _,o,(fK.block _ hlF R).trans ho,hw⟩)
    ·rw[Z je];exact Ea (λ_ _=>ae8) acL (Z HN) (Z jQ) jO (Z HK) (Z HC) (by rw[hlen];exact uI)
    ·exact((lI.block X (ap2 wF fK.size) anf).trans (fK.block X wF R)).trans sJ
    ·exact((lI.block G (ap2 wH fK.size) anf).trans (fK.block G wH R)).trans BO
   ·rw[hc]at Fg OY;have wI:Maps.has D lt=true:=Fg.1;obtain⟨hj,hje⟩:=gU hc;have Ew:=F (Fg.2 rfl);have je:=F kT;have FU:=F OY;have HC:=F hc;have aV:=nO;have lZ:=hY (bI keys k).length (by simpa using hj);rw[show((bI keys keys.length).map λp:Nat×Nat=>#[Value.int .i64 p.1,Value.int .i64 p.2])[(bI keys k).length]'(by simpa using hj)=#[Value.int .i64 ((keys.take k).idxOf keys[k]:Nat),Value.int .i64 k] by simp[hje]]at lZ;have xK:(keys.take k).idxOf keys[k]<=500:=(by have:=aw3 (l:=keys.take k) (a:=keys[k]);rw[ar1]at this;omega);generalize (keys.take k).idxOf keys[k]=fi at Ew lZ FU xK;generalize keys[k]=key at EK aV je FU HC;simp only[kvB]at aV;have fK:wr.grownBy wr none:=⟨rfl,rfl,rfl,an2 _,λ_ _ _=>rfl⟩;obtain⟨fn,tmps,assign,body,hy,hR⟩:=lZ wr zQ;have wF:X<wr.heap.size:=(by have I:=wG;rw[aq6 I]at sJ;exact(an0.1 sJ).1);have wH:G<wr.heap.size:=by have I:=AL;rw[aq6 I]at BO;exact(an0.1 BO).1
    gi_wp2_with (gi_at_lookup;refine aw6 _ rfl _ _ 222 rfl 5 3 .i64 acL underlying222 underlying3 (zeroE _) W.heap.size nn D rfl aH _ lt rfl aV ?_;intro c0 gU EZ;have zO:c0=(fi:Int):=by {have h:=gU.symm.trans (Z Ew);simpa using h};subst zO;clear gU EZ)
    refine⟨λ_=>O,hR.mono ?_⟩;rintro e W3 (⟨rfl,xM,pG⟩|⟨rfl,qh⟩)
    ·have jF:W3.heap[X]?=W.heap[X]?:=pG.2.1.trans ((fK.block X wF R).trans sJ);have NY:W3.heap[G]?=W.heap[G]?:=pG.2.2.trans ((fK.block G wH R).trans BO);obtain⟨o,ho,hw⟩:=EY;have uQ:W3.heap[W.heap.size]?=wr.heap[W.heap.size]?:=(pG.1 _ o O ((fK.block _ hlF R).trans ho) (Or.inr hw)).trans ho.symm
     gi_wp2
     go_roundw
     case rel=>
      refine⟨k+1,O,by go_num,?_,?_,jF,NY⟩
      ·have uZ:bI keys (k+1)=bI keys k++[(fi,k)]:=Z FU;rw[uZ,ap4];exact xM
      ·rw[Z je];exact((Z HF).kept uQ).again (Z HC)
     case measure=>simp[intOf];omega
    ·clear hR hy
     gi_wp2
     (try simp only[Exit.inBlock,Exit.then])
     exact aq0 (results_none rfl _ _ _) rfl ⟨⟨_,rfl⟩,Or.inr qh⟩
  ·have gW:k=keys.length:=O;have Lr:=F gW;have iF:¬(k:Int)<(keys.length:Int):=O
   gi_wp2
   go_end0
   refine⟨⟨_,rfl⟩,Or.inl ?_⟩;rw[<-Z Lr];exact zQ
end
section
open Go.RowKit Go.Maps Go.WideMaps
section
variable {α:Type} [BEq α]
def fi(keys:List α)(i:Nat):Nat:=match keys[i]? with|some x=>keys.idxOf x|none=>i
theorem Bh{keys:List α}{i:Nat}(hi:i<keys.length):fi keys i=keys.idxOf keys[i]:=by unfold fi;rw[an3 hi]
theorem DU[LawfulBEq α]{keys:List α}{k:Nat}{x:α}(h:x∈keys.take k):(keys.take k).idxOf x=keys.idxOf x:=by
 have e:=List.take_append_drop k keys;have M:(keys.take k++keys.drop k).idxOf x=(keys.take k).idxOf x:=by rw[aw0];simp[h]
 rw[e]at M;exact M.symm
theorem N9[LawfulBEq α](keys:List α)(i:Nat)(hi:i<keys.length):fi keys i<=i:=by
 rw[Bh hi];obtain h|h:=Nat.lt_or_ge i (keys.idxOf keys[i])
 ·have I:keys[i]∈keys.take (i+1):=by
   rw[List.mem_take_iff_getElem];exact⟨i,O,rfl⟩
  have M:=DU I;have h3:=ar0 I;rw[ar1]at h3;omega
 ·exact h
theorem TV[LawfulBEq α](keys:List α)(i:Nat)(hi:i<keys.length):fi keys (fi keys i)=fi keys i:=by
 have h:=N9 keys i hi;rw[Bh (i:=fi keys i) O];have M:keys.idxOf keys[i]<keys.length:=ar0 (an5 hi);have e:keys[fi keys i]'O=keys[i]:=by
  have h3:=ar8 M;simp only[Bh hi];exact h3
 rw[e,Bh hi]
theorem Gt[LawfulBEq α]{keys:List α}{i j:Nat}(hi:i<keys.length)(hj:j<keys.length):fi keys i=fi keys j↔keys[i]=keys[j]:=by
 rw[Bh hi,Bh hj];constructor
 ·intro h;have I:=ar8 (ar0 (an5 hi));have M:=ar8 (ar0 (an5 hj));rw[<-I,<-M];simp only[h]
 ·intro h;rw[h]
theorem agk[LawfulBEq α]{keys:List α}{k:Nat}(hk:k<keys.length):(keys.take k).contains keys[k]=true↔fi keys k<k:=by
 rw[Bh hk];constructor
 ·intro h;have hm:keys[k]∈keys.take k:=by simpa using h
  have h3:=ar0 hm;rw[DU hm,ar1]at h3;omega
 ·intro h;have M:keys.idxOf keys[k]<keys.length:=O
  have I:=ar8 M;have hm:keys[k]∈keys.take k:=by
   rw[List.mem_take_iff_getElem];exact⟨keys.idxOf keys[k],O,I⟩
  simpa using hm
theorem lq[LawfulBEq α](keys:List α):∀k,k<=keys.length->∀p,p∈bI keys k↔(p.2<k/\p.1=fi keys p.2/\p.1<p.2):=by
 intro k
 induction k with
 |zero=>intro _ p;simp[bI]
 |succ k ih=>
  intro hk p;have hlt:k<keys.length:=O
  rw[qW hlt];by_cases hc:(keys.take k).contains keys[k]=true
  ·rw[ao4 hc,aq7,ih O];have hm:keys[k]∈keys.take k:=(by simpa using hc);have hf:=(agk hlt).1 hc;constructor
   ·rintro(⟨I,M,h3⟩|h)
    ·exact⟨O,M,h3⟩
    ·simp only[ap8]at h;subst h;simp only;rw[DU hm,<-Bh hlt];exact⟨O,rfl,hf⟩
   ·rintro⟨I,M,h3⟩;by_cases e:p.2=k
    ·right;obtain⟨p1,p2⟩:=p;simp only at e M;subst e;simp only[ap8,aA7];rw[DU hm,<-Bh hlt];refine⟨M,?_⟩
     first|rfl|trivial
    ·left;exact⟨O,M,h3⟩
  ·rw[an8 hc,ih O];constructor
   ·rintro⟨I,M,h3⟩;exact⟨O,M,h3⟩
   ·rintro⟨I,M,h3⟩;by_cases e:p.2=k
    ·exfalso;rw[e]at M;exact hc ((agk hlt).2 O)
    ·exact⟨O,M,h3⟩
theorem Vl[LawfulBEq α](keys:List α):∀k,k<=keys.length->(bI keys k).Pairwise (λp q=>p.2<q.2):=by
 intro k
 induction k with
 |zero=>intro _;simp[bI]
 |succ k ih=>
  intro hk;rw[qW O];split
  ·refine List.pairwise_append.2 ⟨ih O,R,λa ha b hb=>?_⟩;simp only[ap8]at hb;subst hb;exact((lq keys k O a).1 ha).1
  ·exact ih O
theorem Dl[LawfulBEq α](keys:List α)(g:Nat->Nat->Prop)(hr:∀i,g i i)(hs:∀i j,g i j->g j i)(ht:∀i j k,g i j->g j k->g i k) :
  (∀p∈bI keys keys.length,g p.1 p.2)↔∀i j,i<keys.length->j<keys.length->keys[i]?=keys[j]?->g i j:=by
 constructor
 ·intro h;have I:∀i,i<keys.length->g (fi keys i) i:=λi hi=>by
   obtain hlt|hge:=Nat.lt_or_ge (fi keys i) i
   ·exact h (fi keys i,i) ((lq keys _ (an2 _) _).2 ⟨hi,rfl,hlt⟩)
   ·have:fi keys i=i:=(by have:=N9 keys i hi;omega);rw[this];exact hr i
  intro i j hi hj e;rw[an3 hi,an3 hj]at e;have e2:=(Gt hi hj).2 (at7 e);have a:=I i hi;have b:=I j hj;rw[<-e2]at b;exact ht _ _ _ (hs _ _ a) b
 ·intro h p hp;obtain⟨I,M,h3⟩:=(lq keys _ (an2 _) p).1 hp;refine h _ _ O I ?_;have h4:=Bh I;have h5:keys.idxOf keys[p.2]<keys.length:=ar0 (an5 I);rw[M,h4,an3 h5,an3 I,ar8 h5]
def fk(keys:List α)(k:Nat)(i:Nat):Nat:=if ∃p∈(bI keys keys.length).take k,p.2=i then fi keys i else i
theorem YM(keys:List α)(i:Nat):fk keys 0 i=i:=by unfold fk;simp
theorem YN[LawfulBEq α]{keys:List α}{k:Nat}(hk:k<(bI keys keys.length).length)(i:Nat) :
  fk keys (k+1) i=if i=((bI keys keys.length)[k]).2 then((bI keys keys.length)[k]).1 else fk keys k i:=by
 have hm:=(lq keys _ (an2 _) _).1 (an5 hk);have e:(bI keys keys.length).take (k+1)=(bI keys keys.length).take k++[(bI keys keys.length)[k]]:=by rw[aq3,an3 hk];rfl
 unfold fk;rw[e];by_cases h:i=((bI keys keys.length)[k]).2
 ·rw[ao4 h,ao4 ⟨_,aA1 _ (ap8.2 rfl),h.symm⟩,h,hm.2.1]
 ·rw[an8 h];by_cases M:∃p∈(bI keys keys.length).take k,p.2=i
  ·rw[ao4 M];obtain⟨p,hp,e⟩:=M;rw[ao4 ⟨p,as9 _ hp,e⟩]
  ·rw[an8 M,an8];rintro⟨p,hp,e⟩;obtain hp|hp:=aq7.1 hp
   ·exact M ⟨p,hp,e⟩
   ·rw[ap8.1 hp]at e;exact h e.symm
theorem TU[LawfulBEq α]{keys:List α}{k:Nat}(hk:k<(bI keys keys.length).length):fk keys k ((bI keys keys.length)[k]).2=((bI keys keys.length)[k]).2/\fk keys k ((bI keys keys.length)[k]).1=((bI keys keys.length)[k]).1:=by
 have hm:=(lq keys _ (an2 _) _).1 (an5 hk);have ak7:=av4.1 (Vl keys keys.length (an2 _));constructor
 ·unfold fk;rw[an8];rintro⟨p,hp,e⟩;rw[List.mem_take_iff_getElem]at hp;obtain⟨j,hj,rfl⟩:=hp;have:=ak7 j k O hk O;omega
 ·unfold fk;split
  ·rename_i h;obtain⟨p,hp,e⟩:=h;rw[hm.2.1];exact TV keys _ hm.1
  ·rfl
theorem adK[LawfulBEq α](keys:List α){i:Nat}(hi:i<keys.length):fk keys (bI keys keys.length).length i=fi keys i:=by
 unfold fk;rw[ar7];split
 ·rfl
 ·rename_i h;obtain hlt|hge:=Nat.lt_or_ge (fi keys i) i
  ·exact absurd ⟨(fi keys i,i),(lq keys _ (an2 _) _).2 ⟨hi,rfl,hlt⟩,rfl⟩ h
  ·have:=N9 keys i hi;omega
theorem Hz(keys:List α):∀k,(bI keys k).length<=k:=by
 intro k
 induction k with
 |zero=>simp[bI]
 |succ k ih=>
  rw[bI];split
  ·split
   ·simp;omega
   ·omega
  ·omega
end
end
section
open Go.RowKit Go.Maps Go.WideMaps
open au (Key put)
theorem Jc(BT:Nat)(Y:List Nat)(x:Nat)(w:World)(M:x<=1000)(hl:Y.length<=1000)(hM:aT w 3 BT kN Y) :
  Calls prog 72 #[.map (some BT),.int .i64 x] w λe w'=>
   e=.returned (.int .i64 (Y.idxOf x))/\aT w' 3 BT kN (put Y x)/\w.grownBy w' (some BT):=by
 obtain⟨l,aV⟩:=(⟨_,yH M⟩:∃l,keyOf prog 3 (kN x)=some l);obtain⟨D,aH,eH,aX,iM⟩:=hM;have kJ:=aX _ _ aV;have jO:=aH.tidy iO;have rM:keyOf prog 3 (.int .i64 x)=some l:=aV;have jQ:=F aX;have pq:=F iM;have xF:=F eH;have HK:=F aV;clear aX eH aV iM;cases hc:Y.contains x
 ·rw[hc]at kJ;have wI:Maps.has D l=false:=kJ.1;clear kJ;have HC:=F hc;clear hc
  go_in
  go_wp2_with (first
   |(at_lookup;refine ax9 _ rfl _ _ 148 rfl 3 3 .i64 iO underlying148 underlying3 (zeroE _) BT Y.length D rfl aH _ l rfl rM ?_;intro c0 gU EZ)
   |(at_len;refine wpList_len_own _ rfl _ 148 rfl 3 3 underlying148 _ BT Y.length D rfl aH ?_)
   |(at_mapUpdate;refine wpList_mapUpdate_own _ rfl _ _ _ 148 rfl 3 3 iO underlying148 _ BT Y.length D rfl aH anj _ _ l rfl rfl rM _ [] (aB2 underlying3 (aA0 (by have:=Z xF;omega))) ?_;intro w1 lU rO))
  go_ret
  have eH:=Z xF;have hc:=Z HC;have hn:¬x∈Y:=by simpa using hc
  refine⟨jM ?_,?_,rO⟩
  ·rw[eH,as3 hn]
  ·have hp:put Y x=Y++[x]:=(by unfold put;rw[hc];rfl);rw[hp];rw[eH]at lU;exact zF (λ_ _=>OL) iO eH (Z jQ) (Z pq) jO (Z HK) hc lU
 ·rw[hc]at kJ;have wI:Maps.has D l=true:=kJ.1;have Ew:=F (kJ.2 rfl);clear kJ;have HC:=F hc;clear hc
  go_in
  go_wp2_with (first
   |(at_lookup;refine ax9 _ rfl _ _ 148 rfl 3 3 .i64 iO underlying148 underlying3 (zeroE _) BT Y.length D rfl aH _ l rfl rM ?_;intro c0 gU EZ))
  go_ret
  have hc:=Z HC;refine⟨jM ?_,?_,as8 _ _⟩
  ·have h:=gU.symm.trans (Z Ew);simpa using h
  ·have hp:put Y x=Y:=(by unfold put;rw[hc];rfl);rw[hp];exact⟨D,aH,Z xF,Z jQ,Z pq⟩
end
section
open Go.RowKit Go.Maps Go.WideMaps
open au (Key put)
attribute [local go_sem] Oper.semAt_some
structure TGB(w:World)(b X:Nat)(keys:List UInt8)(k:Nat)(W:World):Prop where
 x:W.cell? (J X 0)=some (.map (some b))
 m:gY W b (fk keys k) keys.length k
 below:Below w.heap.size w W
 sz:w.heap.size+3<=W.heap.size
theorem LJ(G cap:Nat)(keys:List UInt8)(w:World)(hl:keys.length<=100)(hG:zn w G keys)(hv:∀x∈keys,∃l,keyOf prog 5 (kvB x)=some l) :
  Calls prog 31 #[Ac G 0 keys.length cap] w λe w'=>∃b,e=.returned (.map (some b))/\w.heap.size<=b/\Ag w w'/\gY w' b (fi keys) keys.length 100:=by
 refine(aq2 (n:=5)).1 ?_;have Ii:=λz=>fG (P:=prog) underlying53 .i64 z w;refine at6 func31 rfl trivial ?_ rfl;simp only[ntmps31,ao5,ao1,ap0,Nat.reduceAdd,Nat.reduceSub,an7,an6,ao6,ap9,ao8,ao7]
 gi_wp2
 refine⟨trivial,(aq2.2 (Xu (some (J G 0)) keys.length cap _)).mono ?_⟩;rintro e w2 ⟨rfl,rfl⟩
 gi_wp2
 obtain⟨w2,eu⟩:∃w2,((w.alloc (.map #[] 0)).alloc (.cells #[.map (some w.heap.size)] 53)).alloc (.cells #[Ac G 0 keys.length cap] 39)=w2:=⟨_,rfl⟩;have su:w2.heap.size=w.heap.size+3:=by rw[<-eu];simp
 have dh:w.grownBy w2 none:=by rw[<-eu];exact((an1 _ _ none).trans (an1 _ _ none)).trans (an1 _ _ none)
 have fF:Below w.heap.size w w2:=⟨dh.os,dh.tape,dh.output,dh.size,λj hj=>dh.block j hj R⟩;have mM:w2.cell? (J (w.heap.size+1) 0)=some (.map (some w.heap.size)):=by rw[<-eu];simp[go_sem]
 have pJ:w2.cell? (J (w.heap.size+1+1) 0)=some (Ac G 0 keys.length cap):=by rw[<-eu];simp[go_sem]
 have tC:gY w2 w.heap.size (fk keys 0) keys.length 0:=by
  have h0:gY (w.alloc (.map #[] 0)) w.heap.size (fk keys 0) keys.length 0:=⟨.map [],0,an2 _,aB6 w _ _ _,λi hi=>by rw[YM];exact⟨by simp;rfl,λh=>absurd rfl h⟩⟩;refine h0.kept ?_;rw[<-eu,ao3 _ _ _ anf,ao3 _ _ _ R]
 have hGl:=hG.1;have dK:=(Xr 4 O (w.heap.size+1+1) G cap w2.heap.size keys w2 (an2 _) O pJ (hG.below fF hGl) hv).all;rw[eu];have HS2:=F su;have aay:w.heap.size+3<=w2.heap.size:=O
 have ala:w2.heap.size<=w.heap.size+3:=O
 have hTG:TGB w w.heap.size (w.heap.size+1) keys 0 w2:=⟨mM,tC,fF,aay⟩;have aH:OwnFrom w2.heap.size (TGB w w.heap.size (w.heap.size+1) keys):=by
  intro k W W' row h hg hr;have bg:∀b,b<w2.heap.size->some b≠row:=λb hb e=>by have:=(hr b e.symm).1;omega
  exact⟨hg.cell h.x (bg _ (by show w.heap.size+1<w2.heap.size;omega)),h.m.kept (hg.block _ h.m.lt (bg _ O)),ownFrom_below (β:=Unit) (an2 _) O () W W' row h.below hg hr,ap3 h.sz hg.size⟩
 refine dZ rfl O rfl trivial (λ_ _=>by simp[go_sem]) dK KA.trans ?_ (aq1 _ _) ?_ (TGB w w.heap.size (w.heap.size+1) keys) aH hTG
  (λk a' W=>∃hk:k<(bI keys keys.length).length,a'={tmps:=#[Ac G 0 keys.length cap,undef,.map none,Aa (w.heap.size+1) 0,.int .i64 ((bI keys keys.length)[k]).1,.int .i64 ((bI keys keys.length)[k]).2,Ac G 0 keys.length cap,.int .i64 keys.length,.map (some w.heap.size),Ac G 0 keys.length cap,
     .func (.func 128) #[] #[Aa (w.heap.size+1+1) 0],.int .i64 ((bI keys keys.length)[k]).1,.int .i64 ((bI keys keys.length)[k]).2,undef,undef,undef,undef,undef],defers:=[]}) ?own ?assign ?body ?done
 ·intro W l o o' Yv ho hc EY;refine⟨λj x hj hx La=>(ap1 (λe=>?_)).trans hx,ap1 O,ap1 O⟩;subst e;rw[ho]at hx;cases hx;obtain h|h:=La
  ·rw[hc]at h;cases h
  ·rw[EY]at h;cases h
 ·intro k hk;simp
 case own=>
  rintro k a' ⟨⟩ W W' row h hg hr;exact h
 case assign=>
  intro l k hk W K hI hK;have iQ:k<(bI keys keys.length).length:=by simpa using hk
  have e1:((bI keys keys.length).map λp:Nat×Nat=>#[Value.int .i64 p.1,Value.int .i64 p.2])[k]'hk=#[.int .i64 ((bI keys keys.length)[k]).1,.int .i64 ((bI keys keys.length)[k]).2]:=R
  rw[e1];have oU:=hK _ W ((aB1 _).from _) ⟨λj o hj ho hc=>ho,rfl,rfl⟩ hI ⟨iQ,rfl⟩;generalize (bI keys keys.length)[k]=pr at oU ⊢
  gi_wp2
  exact oU
 case body=>
  rintro l k a' W hk Ij hI ⟨iQ,rfl⟩;have GX:=hI.x;have fZ:=(lq keys _ (an2 _) _).1 (an5 iQ);have NW:=TU iQ;have hfs:=YN iQ;have Fe:k<=100:=by have:=Hz keys keys.length;omega
  have hj:=Si W w.heap.size keys.length k (fk keys k) ((bI keys keys.length)[k]).1 ((bI keys keys.length)[k]).2 hI.m O fZ.1 O O O NW.2 NW.1;have hIb:=F hI;have HFS:=F hfs;generalize (bI keys keys.length)[k]=pr at hj HFS ⊢;obtain⟨x,y⟩:=pr;simp only at hj ⊢
  gi_wp2
  refine⟨trivial,aw1 l (aq2.2 (hj.mono ?_))⟩;rintro e w3 ⟨⟨v,rfl⟩,hg,hm⟩
  gi_wp2
  have hI:=Z hIb;have hs:∀j,j<W.heap.size->j≠w.heap.size->w3.heap[j]?=W.heap[j]?:=λj hj bg=>hg.block j hj (by simpa using bg);have Gh:=hI.below.size;have wG:w.heap.size+3<=W.heap.size:=hI.sz;refine⟨⟨hg.size,λj o hj ho _=>(hs j (an0.1 ho).1 O).trans ho⟩,⟨λj o hj ho _=>(hs j (an0.1 ho).1 O).trans ho,hs _ O O,hs G O O⟩,
   hg.cell hI.x R,hm.congr (λi _=>(Z HFS i).symm),hI.below.grown hg hI.below.size (λj e=>by cases e;exact an2 _),ap3 hI.sz hg.size⟩
 case done=>
  intro D W hD hI eU;have hx:=hI.x
  gi_wp2
  refine⟨R,.inl ⟨_,_,rfl,au4 eU,?_⟩⟩;refine⟨_,ay0 rfl _ _ _,?_⟩;have dD:=aH.putObj (.deferred none) hI hD eU rfl;refine⟨w.heap.size,rfl,an2 _,dD.below,?_⟩;obtain⟨D',nn,I,M,h3⟩:=dD.m;have hle:=Hz keys keys.length;rw[au3]at I h3;refine⟨D',nn,O,M,λi hi=>?_⟩;have h4:=h3 i hi;rw[adK keys hi]at h4;exact h4
end
theorem qE{aj:Fence}{n:Nat}{P:Program}{c:Code}{Q:Exit->Act->World->Prop}{a:Act}{w:World}(h:c.wpIn aj n P (λe a w=>e=.normal/\Q .normal a w) a w):c.wpIn aj n P Q a w:=
 wpIn_mono h (λe a w h=>by obtain⟨rfl,h⟩:=h;exact h)
theorem F5{P:Program}{ops:Array Oper}{Q:Exit->Act->World->Prop}{n id:Nat}{a:Act}{w:World}(S:World->Prop)(fuel:Nat)(listed:Array Bool)(hm:P.follows .mixedOrders=true)(hf:ops.size=fuel)(hl:Array.replicate ops.size false=listed)
 (h:wpAnyH P .any ops Q S fuel listed a w.drew):(Code.region id ops true).wpIn Fence.wide n P Q a w:=by
 subst hf;subst hl;exact wpIn_wide.2 (aq8 hm h)
theorem LU{P:Program}{ops:Array Oper}{Q:Exit->Act->World->Prop}{r n id:Nat}{a:Act}{w:World}(S:World->Prop)(fuel:Nat)(listed:Array Bool)(hm:P.follows .mixedOrders=true)(hf:ops.size=fuel)(hl:Array.replicate ops.size false=listed)
 (hd:(ops.all λo=>match o.op with|.defer _=>false|_=>true)=true)(hQ:¬LetsOut Q)(h:wpAnyH P .any ops Q S fuel listed a w.drew):(Code.region id ops true).wpIn (Fence.wide.inRound r) n P Q a w:=
 wpIn_region_draw λt=>by
  simp only[Region.schedule,hm,Bool.true_or,av8];subst hf;subst hl;refine Ns (λi o ho c hc=>?_) hQ _ _ _ (wpAny_sound ops.size t _ a _ (wpAny_of_held _ _ _ _ h));obtain⟨hlt,he⟩:=an0.1 ho;have:=(Array.all_eq_true.1 hd) i hlt;rw[he,hc]at this;cases this
end Go.Proofs.YthcppbmkacbbiabGreat
