import Derived.Test.YthcppbmkacbbiabGreatVBN
import Derived.Test.YthcppbmkacbbiabGreatVBO
set_option linter.unusedSimpArgs false
set_option maxHeartbeats 4000000
set_option maxRecDepth 100000
namespace Go.Proofs.YthcppbmkacbbiabGreat
open Go.Proofs.Tryz
open Go.RowKit Go.Maps Go.WideMaps
open au (Key put)
section
attribute [local go_sem] Oper.semAt_some
theorem I5{W:World}{base e size n:Nat}{v:Value}{xs:List Value}(h:W.ownsRow base e size v n xs):∃p cap,v=.slice p n cap:=by
 obtain⟨rfl,h0⟩|⟨g,cap,cur,rfl,_⟩:=h.2
 ·subst h0;exact⟨_,_,rfl⟩
 ·exact⟨_,_,rfl⟩
theorem Zw{W:World}{base:Nat}{v:Value}{C:Ah}(h:W.ownsRow base 79 2 v C.length (C.flatMap tK))(hn:v=.slice none 0 0↔C=[])(bg:C≠[]):∃G cap,v=Ac G 0 C.length cap/\gZ W G C:=by
 obtain⟨e,_⟩|⟨g,cap,cur,rfl,hb,fD,I,M,h3,h4⟩:=h.2
 ·exact absurd (hn.1 e) bg
 ·refine⟨g,cap,rfl,(an0.1 fD).1,λi hi=>?_⟩;have Gm:∀c,c<2->cur[i*2+c]?=(tK C[i])[c]?:=λc hc=>by
   have h5:(cur.toList.take (C.length*2))[i*2+c]?=(C.flatMap tK)[i*2+c]?:=(by rw[h4]);rw[av5,ao4 O]at h5;rw[show cur[i*2+c]?=cur.toList[i*2+c]? by simp,h5];exact flat_get (k:=2) (λ_=>rfl) ane C i hi c hc
  rw[cell_of fD,cell_of fD];exact⟨Gm 0 ane,Gm 1 ane⟩
theorem Zv{W:World}{base:Nat}{v:Value}{H:List Bool}(h:W.ownsRow base 4 1 v H.length (H.map Value.bool))(hn:v=.slice none 0 0↔H=[])(bg:H≠[]):∃G cap,v=Ac G 0 H.length cap/\eP W G H:=by
 obtain⟨e,_⟩|⟨g,cap,cur,rfl,hb,fD,I,M,h3,h4⟩:=h.2
 ·exact absurd (hn.1 e) bg
 ·refine⟨g,cap,rfl,(an0.1 fD).1,λi hi=>?_⟩;have h5:(cur.toList.take (H.length*1))[i]?=(H.map Value.bool)[i]?:=by rw[h4]
  rw[av5,ao4 O]at h5;rw[cell_of fD,show cur[i]?=cur.toList[i]? by simp,h5];simp[hi]
theorem aa7(GT GC GP np:Nat)(Y:Ai)(cs:Ah)(v:Value)(ss:List pV)(w:World)(h7:Y.length<=7)(hs:kC w v ss)(hl:ss.length<=100)(kE:dS w GT Y)(AA:gZ w GC cs)(hi:au.Inv Y)(ht:∀i (hi:i<Y.length),Y[i].2.1<Y.length/\Y[i].2.2<Y.length)
 (vC:∀x∈cs,(x.1=80\/x.1=81)/\x.2<Y.length)(wu:wU Y cs (ss.map fM)) :
  Calls prog 125 #[fv GT GC GP Y.length cs.length np,v] w λe w'=>∃bv f',e=.returned (.bool bv)/\Closed Y (cZ (ss.map fM)) f'/\(bv=true↔cb f' cs (ss.map fM))/\Ag w w':=by
 obtain⟨vp,vc,rfl,hvc,Lc⟩:=hs.cells;obtain⟨i0,gK,jR,ig,jy⟩:=au5 Yk;obtain⟨j0,Td,hy0,hy1,hy2⟩:=au5 Jw;have iq:∀s∈ss,(s.2.2.1=61->s.2.2.2.1<Y.length/\s.2.2.2.2<Y.length)/\(s.2.2.1≠61->(s.2.2.1=80\/s.2.2.1=81)/\s.2.2.2.1<cs.length):=λs hs=>by
  rcases wu (fM s) (ap6.2 ⟨s,hs,rfl⟩)with⟨a,b,c⟩|⟨a,b,c⟩
  ·exact⟨λ_=>⟨b,c⟩,λh=>absurd a h⟩
  ·have a:s.2.2.1=80\/s.2.2.1=81:=a;exact⟨λh=>O,λ_=>⟨a,b⟩⟩
 obtain⟨w0,kW⟩:∃w0,w.alloc (.cells #[Ac GT 0 Y.length Y.length,Ac GC 0 cs.length cs.length,Ac GP 0 np np] 46)=w0:=⟨_,rfl⟩;have Ql:w.grownBy w0 none:=by rw[<-kW];exact an1 _ _ none
 have kQ:Below w.heap.size w w0:=by rw[<-kW];exact(aq1 _ w).alloc (an2 _) _
 have amG:w.heap.size+1<=w0.heap.size:=by rw[<-kW];simp
 have xI:w0.heap[w.heap.size]?=some (.cells #[Ac GT 0 Y.length Y.length,Ac GC 0 cs.length cs.length,Ac GP 0 np np] 46 (0,0)):=by rw[<-kW];exact ap5 _ _
 have ajH:=Gf w0 (.slice vp ss.length vc) ss Y.length (hs.below kQ) O O (λs I M=>(iq s I).1 M);have HVS:=F Lc;have HOK:=F iq;have Eu:=F kE;have HRC:=F AA;have HI:=F hi;have HT:=F ht;have HCT:=F vC;clear Lc hs iq kE AA hi ht vC wu;unfold fv
 go_in
 go_wp2_with fail
 clear kW;refine ajH.mono ?_;rintro e w1 ⟨b,rfl,hJ⟩;have nN:=(hJ.below.block w.heap.size O).trans xI;have q0:w1.cell? (J w.heap.size 0)=some (Ac GT 0 Y.length Y.length):=by rw[cell_of nN];rfl
 have q1:w1.cell? (J w.heap.size 1)=some (Ac GC 0 cs.length cs.length):=by rw[cell_of nN];rfl
 have q2:w1.cell? (J w.heap.size 2)=some (Ac GP 0 np np):=by rw[cell_of nN];rfl
 have MB:Below w.heap.size w w1:=kQ.trans (hJ.below.mono O);have hgt:=(Z Eu).1;obtain⟨c0,UJ,Fb⟩:=hJ.m;have hlo:=hJ.lo;have iy:=close_any GT GC GP cs.length np b c0 _ Y w1 h7 ((Z Eu).below MB hgt) (Z HI) UJ Fb hJ.roots (Z HT);unfold fv at iy;have FV:=F MB;have HX1:=F nN;clear ajH hJ UJ Fb MB xI nN
 go_wp2_with fail
 refine iy.mono ?_;rintro e w2 ⟨⟨v2,rfl⟩,f',Md,⟨c1,Fb,_⟩,dh⟩;have kU:CI1 w b Y.length f' #[Ac GT 0 Y.length Y.length,Ac GC 0 cs.length cs.length,Ac GP 0 np np] (Gx f' cs (ss.take 0)) (IB (ss.take 0)) (.slice none 0 0) (.slice none 0 0) w2:=by
  refine⟨⟨c1,Fb⟩,O,(dh.block _ (an0.1 (Z HX1)).1 anf).trans (Z HX1),aw9 _ _ _ _,aw9 _ _ _ _,by simp[Gx],by simp[IB],(Z FV).grown dh (Z FV).size (λk e=>by cases e;omega)⟩
 have afR:=F Md;clear iy Md Fb dh q0 q1 q2
 go_wp2_with fail
 go_loopw [6,7,18] (λv6 v7 i wr=>∃k:Nat,k<=ss.length/\i=.int .i64 k/\CI1 w b Y.length f' #[Ac GT 0 Y.length Y.length,Ac GC 0 cs.length cs.length,Ac GP 0 np np] (Gx f' cs (ss.take k)) (IB (ss.take k)) v6 v7 wr/\Hid (∀s∈ss.take k,s.2.2.1=61->s.2.1=false->f' s.2.2.2.1≠f' s.2.2.2.2)) (λ_ _ i _=>ss.length-(intOf i).toNat)
 case atStart=>exact⟨0,ap7 _,rfl,kU,λs hs=>by simp at hs⟩
 case round=>
  obtain⟨k,hk,rfl,hI,wB⟩:=hrel;clear kU;have ahr:=afC f' cs (ss.take k);have GV:=afB f' cs (ss.take k);have hlH:(IB (ss.take k)).length<=(ss.take k).length:=O
  have HLL:=F GV;clear GV;have htl:(ss.take k).length<=100:=ap3 (List.length_take_le' _ _) hl;by_cases hlt:k<ss.length
  ·obtain⟨p6,Xh,rfl⟩:=I5 hI.rc;obtain⟨p7,aed,rfl⟩:=I5 hI.rh;have iF:(k:Int)<(ss.length:Int):=O;have bg:ss≠[]:=(by intro e;rw[e]at hlt;simp at hlt);obtain⟨g,off,rfl,D5,hcs⟩:=Z HVS bg;obtain⟨d0,d1,d2,d3,d4⟩:=hcs wr hI.below k hlt;have iq:=Z HOK ss[k] (an5 hlt);have htC:=aec (f':=f') (cs:=cs) hlt;have htH:=aeb hlt;have kT:ss.take (k+1)=ss.take k++[ss[k]]:=(by rw[aq3,an3 hlt];rfl);have fZ:=an5 hlt;have HTC:=F htC;have HTH:=F htH;have je:=F kT;have XG:=F fZ;have HIW:=F hI;clear htC htH kT hcs fZ;generalize ss[k]=s at d0 d1 d2 d3 d4 iq HTC HTH je XG;obtain⟨sx,si,sc,s1,s2⟩:=s;simp only at d0 d1 d2 d3 d4 iq HTC HTH je XG;obtain⟨W2,Il⟩:∃W2,(wr.alloc (.cells #[.int .i64 sx,.bool si,.int .u8 sc,.int .i64 s1,.int .i64 s2] 210)).alloc (.cells #[.int .u8 sc,.int .i64 s1,.int .i64 s2] 82)=W2:=⟨_,rfl⟩;have hgW:wr.grownBy W2 none:=(by rw[<-Il];exact(an1 _ _ none).trans (an1 _ _ none));have dD:=hI.grow hgW;have Gh:wr.heap.size+2<=W2.heap.size:=(by rw[<-Il];simp);have WI:W2.heap[wr.heap.size]?=some (.cells #[.int .i64 sx,.bool si,.int .u8 sc,.int .i64 s1,.int .i64 s2] 210 (0,0)):=(by rw[<-Il,ao3 _ _ _ R,ap5]);have Pm:W2.heap[wr.heap.size+1]?=some (.cells #[.int .u8 sc,.int .i64 s1,.int .i64 s2] 82 (0,0)):=by
    rw[<-Il];have:=ap5 (wr.alloc (.cells #[.int .i64 sx,.bool si,.int .u8 sc,.int .i64 s1,.int .i64 s2] 210)) (.cells #[.int .u8 sc,.int .i64 s1,.int .i64 s2] 82);simpa using this
   have hwl:w.heap.size<wr.heap.size:=(an0.1 hI.x0).1;clear hI;by_cases hc:sc=61
   ·subst hc;rw[ao4 rfl,av7]at HTC HTH;obtain⟨o1,o2⟩:=iq.1 rfl;obtain⟨cc,hmc⟩:=dD.j;have e9:W2.cell? (J wr.heap.size 1)=some (.bool si):=(by rw[cell_of WI];rfl);have f1:W2.cell? (J (wr.heap.size+1) 0)=some (.int .u8 61):=(by rw[cell_of Pm];rfl);have f2:W2.cell? (J (wr.heap.size+1) 1)=some (.int .i64 s1):=(by rw[cell_of Pm];rfl);have f3:W2.cell? (J (wr.heap.size+1) 2)=some (.int .i64 s2):=(by rw[cell_of Pm];rfl);have BF:=QV W2 b Y.length cc f' s1 s2 hmc o1 o2 O;cases si
    ·have HI2:=F dD;by_cases he:f' s1=f' s2
     ·rw[ay5 he]at BF;have HE:=F he;clear he dD hmc WI Pm hgW
      go_wp2_with fail
      refine BF.mono ?_;rintro e w3 ⟨rfl,rfl⟩
      go_wp2_with fail
      refine aq0 (v:=.bool false) (by simp[results,results125,go_sem]) rfl ⟨false,f',rfl,Z afR,⟨λh=>(by cases h),λh=>?_⟩,(Z HI2).below⟩;exact absurd (Z HE) ((aea.1 h).1 _ (Z XG) rfl rfl)
     ·rw[ax4 he]at BF;have HE:=F he;clear he dD hmc WI Pm hgW
      go_wp2_with fail
      refine BF.mono ?_;rintro e w3 ⟨rfl,rfl⟩
      go_wp2_with fail
      refine⟨⟨k+1,hlt,by go_num,?_,?_⟩,by simp[intOf];omega⟩
      ·rw[Z HTC,Z HTH];exact Z HI2
      ·intro s hs I M;rw[Z je]at hs;obtain hs|hs:=aq7.1 hs
       ·exact Z wB s hs I M
       ·rw[ap8.1 hs];exact Z HE
    ·have HI2:=F dD;clear dD hmc BF WI Pm hgW
     go_wp2_with fail
     refine⟨⟨k+1,hlt,by go_num,?_,?_⟩,by simp[intOf];omega⟩
     ·rw[Z HTC,Z HTH];exact Z HI2
     ·intro s hs I M;rw[Z je]at hs;obtain hs|hs:=aq7.1 hs
      ·exact Z wB s hs I M
      ·rw[ap8.1 hs]at M;cases M
   ·rw[an8 hc]at HTC HTH;obtain⟨h8,oI⟩:=iq.2 hc;have alb:(s1:Int)<(cs.length:Int):=O;have VX:=(Z HCT _ (an5 oI)).2;have hgc:=(Z HRC).1;have ahh:=((Z HRC).2 s1 oI).2;rw[aU oI]at HTC;generalize cs[s1].2=of at VX ahh HTC;have hGC:Hid (∀W,Below w.heap.size w W->W.cell? ⟨GC,s1*2+1,none⟩=some (.int .i64 of)):=λW hW=>(hW.cell (p:=⟨GC,s1*2+1,none⟩) hgc).trans ahh;have e9:W2.cell? (J wr.heap.size 1)=some (.bool si):=(by rw[cell_of WI];rfl);have f1:W2.cell? (J (wr.heap.size+1) 0)=some (.int .u8 sc):=(by rw[cell_of Pm];rfl);have ahJ:Hid (∀W,W2.grownBy W none->Calls prog 73 #[.map (some b),.int .i64 of] W λe w'=>e=.returned (.int .i64 (f' of))/\w'=W):=λW hg=>by
     obtain⟨cc,hmc⟩:=dD.j;exact yB W b Y.length cc f' of (hmc.kept (hg.block b hmc.lt R)) VX O
    generalize f' of=fo at ahJ HTC;have HI2:=F dD;have HB9:=F WI;have afT:=F Pm;have amZ:(sc != 61)=true:=(by simpa using hc);clear dD WI Pm hgW ahh
    go_wp2_with fail
    have hgD:W2.grownBy W2.drew none:=⟨rfl,rfl,rfl,an2 _,λj hj _=>rfl⟩;have hIX:=(Z HI2);have Yp:wr.heap.size+1<W2.heap.size:=(an0.1 (Z afT)).1;have hfl:w.heap.size<W2.heap.size:=(an0.1 hIX.x0).1;have wK:Hid (∀W',W'.heap[wr.heap.size+1]?=W2.heap[wr.heap.size+1]?/\W'.heap[w.heap.size]?=W2.heap[w.heap.size]?/\Ag w W'->W'.cell? (J (wr.heap.size+1) 0)=some (.int .u8 sc)/\W'.cell? (J (wr.heap.size+1) 1)=some (.int .i64 s1)/\W'.cell? (J w.heap.size 1)=some (Ac GC 0 cs.length cs.length)/\W'.cell? ⟨GC,s1*2+1,none⟩=some (.int .i64 of)):=λW' ⟨I,M,h3⟩=>by
     refine⟨?_,?_,?_,Z hGC W' h3⟩
     ·rw[cell_of (I.trans (Z afT))];rfl
     ·rw[cell_of (I.trans (Z afT))];rfl
     ·rw[cell_of (M.trans hIX.x0)];rfl
    have NT:Hid (∀W3 W4,W2.grownBy W3 none->W3.grownBy W4 (Value.slice p6 (Gx f' cs (ss.take k)).length Xh).ownBlock->W4.heap[wr.heap.size+1]?=W2.heap[wr.heap.size+1]?/\W4.heap[w.heap.size]?=W2.heap[w.heap.size]?/\W4.heap[wr.heap.size]?=W2.heap[wr.heap.size]?/\Ag w W4):=λW3 W4 dY mP=>by
     have hb:=uo hIX.rc;have kp:∀(j:Nat) (cur:Array Value) (t:TypeId) (x:Nat×Nat),W2.heap[j]?=some (.cells cur t x)->t≠79->W4.heap[j]?=W2.heap[j]?:=λj cur t x I M=>by
      have uN:=(an0.1 I).1;refine(mP.block j (ap2 uN dY.size) (λe=>?_)).trans (dY.block j uN R);obtain⟨_,G9,nS⟩:=hb j e.symm;rw[I]at nS;cases nS;exact M rfl
     refine⟨kp _ _ _ _ (Z afT) ane,kp _ _ _ _ hIX.x0 ane,kp _ _ _ _ (Z HB9) ane,?_⟩;have iR:=hIX.below.grown dY hIX.below.size (λk e=>by cases e);exact iR.grown mP iR.size (λk e=>(hb k e).1)
    have aff:=hIX.below;clear hIX;have aA:W2.drew.heap[wr.heap.size+1]?=W2.heap[wr.heap.size+1]?/\W2.drew.heap[w.heap.size]?=W2.heap[w.heap.size]?/\Ag w W2.drew:=⟨rfl,rfl,aff.drew⟩;refine aq8 (S:=λW'=>W'.heap[wr.heap.size+1]?=W2.heap[wr.heap.size+1]?/\W'.heap[w.heap.size]?=W2.heap[w.heap.size]?/\Ag w W') rfl ?_;simp only[ao5,ao1,ap0,Nat.reduceAdd,an7,an6,ao6,ao8,ao7];change wpAnyH prog .any _ _ _ _ _ _ W2.drew;refine dF 0 (.slice p6 (Gx f' cs (ss.take k)).length Xh) aA ?_
    simp only[aF];refine dF 1 (Aa (wr.heap.size+1) 0) aA ?_
    simp only[aF];refine tH 2 (.int .u8 sc) (λw' hS=>?_) aA ?_
    ·obtain⟨s1',s2',s3',s4'⟩:=Z wK _ hS;go_simp
    simp only[aF];refine dF 3 (.map (some b)) aA ?_
    simp only[aF];refine dF 4 (Aa w.heap.size 1) aA ?_
    simp only[aF];refine tH 5 (Ac GC 0 cs.length cs.length) (λw' hS=>?_) aA ?_
    ·obtain⟨s1',s2',s3',s4'⟩:=Z wK _ hS;go_simp
    simp only[aF];refine dF 6 (Aa (wr.heap.size+1) 1) aA ?_
    simp only[aF];refine tH 7 (.int .i64 s1) (λw' hS=>?_) aA ?_
    ·obtain⟨s1',s2',s3',s4'⟩:=Z wK _ hS;go_simp
    simp only[aF];refine dF 8 (.pointer (some ⟨GC,s1*2,none⟩)) aA ?_
    simp only[aF];refine dF 9 (.pointer (some ⟨GC,s1*2+1,none⟩)) aA ?_
    simp only[aF];refine tH 10 (.int .i64 of) (λw' hS=>?_) aA ?_
    ·obtain⟨s1',s2',s3',s4'⟩:=Z wK _ hS;go_simp
    simp only[aF];refine oH 11 (λK hK=>?_);go_simp;refine(Z ahJ _ hgD).mono ?_;rintro e w3 ⟨rfl,rfl⟩;replace aA:=aA;refine hK.out _ _ aA ?_;clear hK K;refine dF 12 (.agg #[.int .u8 sc,.int .i64 fo]) aA ?_
    simp only[aF];have jd:W2.grownBy (W2.drew.alloc (.cells #[.int .u8 sc,.int .i64 fo] 79)) none:=hgD.trans (an1 _ _ none);refine oH 13 (λK hK=>?_);go_simp;replace aA:=And.intro (jd.block _ Yp R) (And.intro (jd.block _ hfl R) (aff.grown jd aff.size (λk e=>by cases e)));refine hK.out _ _ aA ?_;clear hK K;refine oH 14 (λK hK=>?_);refine lK (.tmp 27) (.tmp 40) 43 rfl w.heap.size 79 i0 _ 2 16 underlying43 gK jR ig jy rfl ane (.slice p6 (Gx f' cs (ss.take k)).length Xh) (Gx f' cs (ss.take k)).length ((Gx f' cs (ss.take k)).flatMap tK) rfl (by exact aw7 (by exact(Z HI2).rc) _) (J W2.heap.size 0) 1 1 (tK (sc,fo)) rfl rfl (Ry _ _ _ _ _ rfl) (acs _) anj O (by simp[World.drew];omega) ?_;intro v' w3 fA dY;obtain⟨g',qB,Sr⟩:=gG fA (aw4 _);subst Sr;obtain⟨k1,k2,k3,k4⟩:=Z NT _ _ jd dY;replace aA:=And.intro k1 (And.intro k2 k4);refine hK.out _ _ aA ?_;clear hK K;have MI:=((Z HI2).grow jd).amc (x:=(sc,fo)) dY fA R;have e9':w3.cell? (J wr.heap.size 1)=some (.bool si):=(an9 k3).trans e9;have HI3:=F MI;clear MI k1 k2 k3 k4 fA dY NT;refine oH 15 (λK hK=>?_);go_simp;refine hK.out _ _ (aA) (ar2 (by kernel_rfl) ?_ _);clear hK K;clear aA wK ahJ jd hgD
    go_wp2_with (at_builtin;refine av6 _ rfl _ _ 54 rfl w.heap.size 4 j0 (.bool false) 1 1 underlying54 Td hy0 hy1 hy2 rfl ane (.slice p7 (IB (ss.take k)).length aed) (IB (ss.take k)).length ((IB (ss.take k)).map Value.bool) rfl ((Z HI3).rh.alloc _) (J w3.heap.size 0) 1 1 [.bool si] rfl rfl (Dx _ _ _ _ rfl) (ae0 _) anj O (by have:=(Z HI3).below.size;simp;omega) ?_;intro v2 w4 lT mP af6 afo;obtain⟨g2,xO,BD⟩:=gG lT (aw4 _);subst BD)
    have YG:=((Z HI3).grow (an1 _ _ none)).appH (x:=si) mP lT R;refine⟨⟨k+1,hlt,by go_num,?_,?_⟩,by simp[intOf];omega⟩
    ·rw[Z HTC,Z HTH];exact YG
    ·intro s hs I M;rw[Z je]at hs;obtain hs|hs:=aq7.1 hs
     ·exact Z wB s hs I M
     ·rw[ap8.1 hs]at I;exact absurd I hc
  ·have gW:k=ss.length:=O;have iF:¬(k:Int)<(ss.length:Int):=O;have VR:ss.take k=ss:=(by rw[gW,ar7]);rw[VR]at hI wB HLL ahr;clear gW VR;have mQ:Hid (∀bv,(bv=true↔∀p∈bI (Gx f' cs ss) (Gx f' cs ss).length,(IB ss).getD p.1 false=(IB ss).getD p.2 false)->(bv=true↔cb f' cs (ss.map fM))):=λbv h=>by
    rw[h,aea];exact⟨λh=>⟨Z wB,h⟩,λh=>h.2⟩
   have GV:=Z HLL;have hfo:∀x∈Gx f' cs ss,∃l,keyOf prog 79 (mZ x)=some l:=λx hx=>by
    obtain⟨s,hs,rfl⟩:=ap6.1 hx;obtain⟨hs,jP⟩:=as6.1 hs;have jP:s.2.2.1≠61:=(by simpa using jP);obtain⟨h8,I⟩:=(Z HOK s hs).2 jP;have M:=(Z HCT _ (an5 I)).2;have h3:=((Z afR).roots _ M).1;exact afa _ ang (by simp only;rw[aU I];omega)
   by_cases hC:Gx f' cs ss=[]
   ·have hH:IB ss=[]:=aq9 (by rw[GV,hC];rfl);have e6:=hI.nc.2 hC;have e7:=hI.nh.2 hH;subst e6;subst e7;have HB:=F hI.below;have HC0:=F hC;have hag:=abf wr;clear hI ahr hfo GV HLL hC hH
    go_wp2_with fail
    refine hag.mono ?_;rintro e w3 ⟨rfl,iR⟩;have Ak:=F iR;clear iR hag
    go_wp2_with fail
    refine aq0 (v:=.bool true) (by simp[results,results125,go_sem]) rfl ⟨true,f',rfl,Z afR,?_,(Z HB).trans ((Z Ak).mono (Z HB).size)⟩;exact Z mQ true ⟨λ_ p hp=>(by rw[Z HC0]at hp;simp[bI]at hp),λ_=>rfl⟩
   ·have hH:IB ss≠[]:=λe=>hC (aq9 (by rw[<-GV,e];rfl));obtain⟨G6,Xh,rfl,NQ⟩:=Zw hI.rc hI.nc hC;obtain⟨G7,aed,rfl,Yo⟩:=Zv hI.rh hI.nh hH;have hag:=Ol G6 Xh G7 aed (Gx f' cs ss) (IB ss) wr O GV NQ hfo Yo;have HB:=F hI.below;clear hI ahr hfo GV HLL hC hH NQ Yo
    go_wp2_with fail
    refine hag.mono ?_;rintro e w3 ⟨rfl,iR⟩;have Ak:=F iR;clear iR hag
    go_wp2_with fail
    refine aq0 (v:=.bool (decide (∀p∈bI (Gx f' cs ss) (Gx f' cs ss).length,(IB ss).getD p.1 false=(IB ss).getD p.2 false))) (by simp[results,results125,go_sem]) rfl ⟨_,f',rfl,Z afR,Z mQ _ R,(Z HB).trans ((Z Ak).mono (Z HB).size)⟩
end
open Sat (View Rule og dN)
attribute [local go_sem] Oper.semAt_some
theorem Ht(L:List pV):(GK L).length=L.length*5:=by
 unfold GK
 induction L with
 |nil=>rfl
 |cons a L ih=>rw[ax3,ap4,ih];simp[PI];omega
theorem XY(L:List pV):∀u∈GK L,u.oneCell'=true:=by
 intro u hu;obtain⟨s,_,h⟩:=aw5.1 hu;exact aeY s u h
theorem aeK(L h2:List pV):GK (L++h2)=GK L++GK h2:=by simp[GK]
theorem kC.part{w:World}{v:Value}{ss:List pV}(h:kC w v ss)(bg:ss≠[]):∃g off cap,v=Ac g off ss.length cap/\ss.length<=cap/\g<w.heap.size/\
  ∀W,Below w.heap.size w W->∀a m,a+m<=ss.length->∀j u,(GK ((ss.drop a).take m))[j]?=some u->W.cell? ((⟨g,off+a*5,none⟩:Addr).add j)=some u:=by
 obtain⟨p,cap,I,M,h3⟩:=h;obtain⟨g,off,cur,x,q1,q2,q3⟩:=h3 bg;subst q1;have D5:=(an0.1 q2).1;refine⟨g,off,cap,I,M,D5,λW hW a m ham j u hj=>?_⟩;have hlen:((ss.drop a).take m).length=m:=anf
 have uN:j<m*5:=by
  have:=(List.getElem?_eq_some_iff.1 hj).1;rw[Ht,hlen]at this;exact this
 have hi:j/5<((ss.drop a).take m).length:=by rw[hlen];omega
 have hf:=flat_get (f:=PI) (k:=5) (λ_=>rfl) ane ((ss.drop a).take m) (j/5) hi (j%5) (Nat.mod_lt _ ane);have e1:j/5*5+j%5=j:=O
 rw[e1]at hf;have hj2:(PI ((ss.drop a).take m)[j/5])[j%5]?=some u:=hf.symm.trans hj;have e2:((ss.drop a).take m)[j/5]=ss[a+j/5]'O:=R
 rw[e2]at hj2;have hq:=q3 (a+j/5) O (j%5) (Nat.mod_lt _ ane);have e3:off+(a+j/5)*5+j%5=off+a*5+j:=O
 rw[e3]at hq;have hb:=(hW.block g D5).trans q2;have e4:(⟨g,off+a*5,none⟩:Addr).add j=⟨g,off+a*5+j,none⟩:=by simp[Addr.add]
 rw[e4,cell_of hb];exact hq.trans hj2
structure OI(w:World)(fo:Array Value)(W:World):Prop where
 x0:W.heap[w.heap.size]?=some (.cells fo 46 (0,0))
 below:Below w.heap.size w W
theorem OI.next{w:World}{fo:Array Value}{W W':World}(h:OI w fo W)(hb:Below W.heap.size W W'):OI w fo W':=
 ⟨(hb.block _ (an0.1 h.x0).1).trans h.x0,h.below.trans (hb.mono h.below.size)⟩
theorem QU{Y:Ai}{cs:Ah}{S ss:List pV}(h:wU Y cs (ss.map fM))(hs:S.Sublist ss):wU Y cs (S.map fM):=λl hl=>by
 obtain⟨s,I,rfl⟩:=ap6.1 hl;exact h _ (ap6.2 ⟨s,hs.subset I,rfl⟩)
def NoB(Y:Ai)(cs:Ah)(S:List pV):Prop:=∃f',Closed Y (cZ (S.map fM)) f'/\¬cb f' cs (S.map fM)
theorem LV(GT GC GP np:Nat)(Y:Ai)(cs:Ah)(v:Value)(ss:List pV)(w:World)(h7:Y.length<=7)(hs:kC w v ss)(hl:ss.length<=100)(kE:dS w GT Y)(AA:gZ w GC cs)(hi:au.Inv Y)(ht:∀i (hi:i<Y.length),Y[i].2.1<Y.length/\Y[i].2.2<Y.length)
 (vC:∀x∈cs,(x.1=80\/x.1=81)/\x.2<Y.length)(wu:wU Y cs (ss.map fM)) :
  Calls prog 67 #[fv GT GC GP Y.length cs.length np,v] w λe w'=>∃v' r,e=.returned v'/\bQ w' v' r/\Ag w w'/\
   ((r=[]/\∃f',Closed Y (cZ (ss.map fM)) f'/\cb f' cs (ss.map fM))\/∃S,S.Sublist ss/\r=S.map Vy/\NoB Y cs S):=by
 obtain⟨i0,gK,jR,ig,jy⟩:=au5 Yj;have hgt:=kE.1;have hgc:=AA.1;have HCB:Hid (∀W v S,kC W v S->S.Sublist ss->Below w.heap.size w W->Calls prog 125 #[fv GT GC GP Y.length cs.length np,v] W λe w'=>∃bv f',e=.returned (.bool bv)/\Closed Y (cZ (S.map fM)) f'/\(bv=true↔cb f' cs (S.map fM))/\Ag W w'):=λW v S I M h3=>
  aa7 GT GC GP np Y cs v S W h7 I (ap3 M.length_le hl) (kE.below h3 hgt) (AA.below h3 hgc) hi ht vC (QU wu M)
 clear kE AA hi ht vC wu;unfold fv at HCB ⊢;obtain⟨vp,vc,rfl,_⟩:=id hs;obtain⟨w0,kW⟩:∃w0,w.alloc (.cells #[Ac GT 0 Y.length Y.length,Ac GC 0 cs.length cs.length,Ac GP 0 np np] 46)=w0:=⟨_,rfl⟩;have kQ:Below w.heap.size w w0:=by rw[<-kW];exact(aq1 _ w).alloc (an2 _) _
 have kU:OI w #[Ac GT 0 Y.length Y.length,Ac GC 0 cs.length cs.length,Ac GP 0 np np] w0:=⟨by rw[<-kW];exact ap5 _ _,kQ⟩;have yP:=Z HCB w0 _ ss (hs.below kQ) (List.Sublist.refl _) kQ;have q0:w0.cell? (J w.heap.size 0)=some (Ac GT 0 Y.length Y.length):=by rw[cell_of kU.x0];rfl
 have q1:w0.cell? (J w.heap.size 1)=some (Ac GC 0 cs.length cs.length):=by rw[cell_of kU.x0];rfl
 have q2:w0.cell? (J w.heap.size 2)=some (Ac GP 0 np np):=by rw[cell_of kU.x0];rfl
 go_in
 go_wp2_with fail
 clear kW;refine yP.mono ?_;rintro e w1 ⟨bv,f',rfl,Md,UM,iD⟩;have JX:=kU.next iD
 clear yP kU kQ q0 q1 q2;cases bv
 ·have ny:NoB Y cs ss:=⟨f',Md,λh=>by have:=UM.2 h;cases this⟩;have oI:kC w1 (.slice vp ss.length vc) ss:=hs.below JX.below;have HI1:=F JX;have MW:=F oI;have HNO:=F ny;clear Md UM iD JX oI ny
  go_wp2_with fail
  go_loopw [1,5] (λv a wr=>∃(k:Nat) (S:List pV),k<=S.length/\a=A ((k:Int)-1)/\kC wr v S/\S.Sublist ss/\NoB Y cs S/\OI w #[Ac GT 0 Y.length Y.length,Ac GC 0 cs.length cs.length,Ac GP 0 np np] wr) (λ_ a _=>(intOf a+1).toNat)
  case atStart=>exact⟨ss.length,ss,an2 _,rfl,Z MW,List.Sublist.refl _,Z HNO,Z HI1⟩
  case round=>
   obtain⟨k,S,hk,rfl,NM,Ar,GU,hI⟩:=hrel;have hSl:=Ar.length_le;obtain h0|h0:=av1 k
   ·subst h0;have e00:(((0:Nat):Int)-1) = -1:=rfl;rw[e00];clear e00;obtain⟨wo,hwo⟩:∃wo,wo=wr:=⟨_,rfl⟩;subst hwo;obtain⟨p1,aky,rfl,_,hcs⟩:=NM.cells;have Hg:=F hcs;have HI:=F hI;have HNB:=F GU;clear hcs NM hI GU
    go_wp2_with fail
    go_loopw [7,36] (λv7 i wq=>∃j:Nat,j<=S.length/\i=A j/\wq.ownsRow wo.heap.size 207 2 v7 j (vcs ((S.take j).map Vy))/\Hid (v7=.slice none 0 0↔j=0)/\Ag wo wq) (λ_ i _=>S.length-(intOf i).toNat)
    case atStart=>exact⟨0,ap7 _,rfl,aw9 _ _ _ _,by unfold Hid;simp,aq1 _ _⟩
    case round=>
     obtain⟨j,hj,rfl,aS,fC,hbq⟩:=hrel;by_cases uN:j<S.length
     ·obtain⟨p7,aed,rfl⟩:=uf aS;have iF:(j:Int)<(S.length:Int):=O;obtain⟨g,off,rfl,D5,hc⟩:=Z Hg (by intro e;rw[e]at uN;simp at uN);obtain⟨d0,d1,d2,d3,d4⟩:=hc wr hbq j uN;have kT:vcs ((S.take (j+1)).map Vy)=vcs ((S.take j).map Vy)++Oa (Vy S[j]):=by
       rw[aq3,an3 uN,au0];exact Qx _ _
      have je:=F kT;have jo:=F aS;have HBQ:=F hbq;have hsq:=hbq.size;clear kT hc aS hbq;generalize S[j]=s at d0 d1 d2 d3 d4 je;obtain⟨sx,si,sc,s1,s2⟩:=s;simp only[Vy]at d0 d1 d2 d3 d4 je;obtain⟨WB,hWB⟩:∃WB,wr.alloc (.cells #[A sx,.bool si,Ae sc,A s1,A s2] 210)=WB:=⟨_,rfl⟩;have vg:wr.grownBy WB none:=(by rw[<-hWB];exact an1 _ _ none);have e0:WB.cell? (J wr.heap.size 0)=some (A sx):=(by rw[<-hWB];simp[go_sem]);have e1:WB.cell? (J wr.heap.size 1)=some (.bool si):=(by rw[<-hWB];simp[go_sem]);have Yl:=Qw (sx,si) WB;unfold vV at Yl;simp only at Yl
      go_wp2_with fail
      clear hWB;refine Yl.mono ?_;rintro e w5 ⟨rfl,AO⟩;have afi:wr.grownBy w5 none:=vg.trans AO;have SC:=(Z jo).kept afi (Classical.em _);have AP:=(Z HBQ).grown afi (Z HBQ).size (λk e=>by cases e);have hs5:=afi.size;have Qh:=F AP;clear Yl AO vg afi AP e0 e1
      go_wp2_with (at_builtin;refine av6 _ rfl _ _ 130 rfl wo.heap.size 207 i0 _ 2 16 underlying130 gK jR ig jy rfl ane (.slice p7 j aed) j (vcs ((S.take j).map Vy)) rfl (SC.alloc _) (J w5.heap.size 0) 1 1 (Oa (sx,!si)) rfl rfl (Dv _ _ _ _ _ rfl) (aeX _) anj O anf ?_;intro v' w6 fA UK Yr am5;obtain⟨g',qB,Sr⟩:=gG fA (aw4 _);subst Sr)
      have fK:w5.grownBy (w5.alloc (.cells #[A sx,.bool (!si)] 207)) none:=an1 _ _ none;have ajZ:=(Z Qh).grown fK (Z Qh).size (λk e=>by cases e)
      go_roundw
      case rel=>
       refine⟨j+1,uN,by go_num,?_,?_,?_⟩
       ·rw[Z je];exact fA
       ·unfold Hid;simp
       ·exact ajZ.grown UK ajZ.size (λk e=>(SC.lt k e).1)
      case measure=>simp[intOf];omega
     ·have NU:j=S.length:=O;have iF:¬(j:Int)<(S.length:Int):=O;rw[NU,ar7]at aS;have hr:bQ wr u7 (S.map Vy):=by
       refine sK (base:=wo.heap.size) ?_ ?_
       ·rw[au3];exact aS
       ·rw[Z fC,NU,List.map_eq_nil_iff];exact List.length_eq_zero_iff
      have HR:=F hr;have HBQ:=F hbq;clear aS hr hbq NU fC
      go_wp2_with fail
      refine aq0 (v:=u7) (by simp[results,results67,go_sem]) rfl ?_;have O6:=(Z HI).below.trans ((Z HBQ).mono (Z HI).below.size);exact⟨u7,rfl,S.map Vy,Z HR,O6,Or.inr ⟨S,Ar,rfl,Z HNB⟩⟩
   ·obtain⟨at_,rfl⟩:∃a,k=a+1:=⟨k-1,O⟩;have eat:(((at_+1:Nat):Int)-1)=(at_:Int):=O;rw[eat];clear eat;have bg:S≠[]:=(by intro e;rw[e]at hk;simp at hk);obtain⟨g,off,cap,rfl,hcap,D5,af5⟩:=NM.part bg;have ags:=F af5;have HSV:=F NM;have HNB:=F GU;have HI:=F hI;have hge:(at_:Int)≥0:=O;have nN:(at_:Int)<=(cap:Int):=O;have mM:(at_:Int)+1<=(S.length:Int):=O;have qh:0<=(at_:Int)+1:=O;have hw5:IntKind.i64.wrap ((at_:Int)+1)=(at_:Int)+1:=xZ O O;obtain⟨ad2,had⟩:∃ad2:Addr,(if cap=at_+1 then some ((J g off):Addr)else some ⟨g,off+(at_+1)*5,none⟩)=some ad2:=by
     by_cases e:cap=at_+1
     ·exact⟨_,by rw[ao4 e]⟩
     ·exact⟨_,by rw[an8 e]⟩
    have ag5:Hid (∀W,Below wr.heap.size wr W->∀j u,(GK (S.drop (at_+1)))[j]?=some u->W.cell? (ad2.add j)=some u):=λW hW j u hj=>by
     have hlen:=Ht (S.drop (at_+1));by_cases e:cap=at_+1
     ·exfalso;have I:=(List.getElem?_eq_some_iff.1 hj).1;rw[hlen,List.length_drop]at I;omega
     ·rw[an8 e]at had;cases had;have:=Z ags W hW (at_+1) (S.length-(at_+1)) O j u;rw[aq5 R]at this;exact this hj
    have ag6:Hid (∀W,Below wr.heap.size wr W->∀j u,(GK (S.take at_))[j]?=some u->W.cell? (((J g off):Addr).add j)=some u):=λW hW j u hj=>by
     have:=Z ags W hW 0 at_ O j u;rw[List.drop_zero,aB4,Nat.add_zero]at this;exact this hj
    have HAD:=F had;clear af5 NM GU hI had
    go_wp2_with fail
    refine aq8 (S:=λ_=>True) rfl ?_;have aA:True:=trivial;simp only[ao5,ao1,ap0,Nat.reduceAdd,an7,an6,ao6,ao8,ao7];change wpAnyH prog .any _ _ _ _ _ _ wr.drew;refine dF 0 (Ac g off S.length cap) aA ?_
    simp only[aF];refine dF 1 (A at_) aA ?_
    simp only[aF];refine dF 2 (Ac g off at_ cap) aA ?_
    simp only[aF];refine dF 3 (Ac g off S.length cap) aA ?_
    simp only[aF];refine dF 4 (A at_) aA ?_
    simp only[aF];refine dF 5 (A ((at_:Int)+1)) aA ?_
    simp only[aF];refine tH 6 (.slice (some ad2) (S.length-(at_+1)) (cap-(at_+1))) (λw' hS=>?_) aA ?_
    ·go_simp;rw[Z HAD]
    simp only[aF];obtain⟨WA,hWA⟩:∃WA,wr.drew.alloc (.cells #[Ac g off at_ cap,.slice (some ad2) (S.length-(at_+1)) (cap-(at_+1))] 133)=WA:=⟨_,rfl⟩;have jd:wr.grownBy WA none:=(by rw[<-hWA];exact(⟨rfl,rfl,rfl,an2 _,λj hj _=>rfl⟩:wr.grownBy wr.drew none).trans (an1 _ _ none));have hbA:Below wr.heap.size wr WA:=(aq1 _ wr).grown jd (an2 _) (λk e=>by cases e);have hcA:WA.heap[wr.heap.size]?=some (.cells #[Ac g off at_ cap,.slice (some ad2) (S.length-(at_+1)) (cap-(at_+1))] 133 (0,0)):=(by rw[<-hWA];exact ap5 wr.drew _);have Gm:=Xe WA wr.heap.size at_ cap (S.length-(at_+1)) (cap-(at_+1)) (J g off) ad2 (GK (S.take at_)) (GK (S.drop (at_+1))) hcA O O (by rw[Ht,ar1];congr 1;omega) (by rw[Ht,List.length_drop]) (Z ag6 WA hbA) (Z ag5 WA hbA) (XY _) (XY _);refine oH 7 (λK hK=>?_);go_simp;replace aA:=trivial;refine hK.out _ _ aA ?_;clear hK K;subst hWA;refine oH 8 (λK hK=>?_);go_simp;refine(Gm).mono ?_;rintro e w3 ⟨v6,rfl,DW,hb6⟩;replace aA:=trivial;refine hK.out _ _ aA ?_;clear hK K;obtain⟨p6,Xh,rfl⟩:=uf DW;have hlS:(S.take at_++S.drop (at_+1)).length=at_+(S.length-(at_+1)):=anf;have hs6:kC w3 (.slice p6 (at_+(S.length-(at_+1))) Xh) (S.take at_++S.drop (at_+1)):=by
     rw[<-hlS,<-aeK]at DW;have:=FY DW;rw[hlS]at this;exact this
    have af0:(S.take at_++S.drop (at_+1)).Sublist S:=by
     have I:(S.drop (at_+1)).Sublist (S.drop at_):=by
      rw[<-List.drop_drop];exact List.drop_sublist _ _
     have M:=(List.Sublist.refl (S.take at_)).append I
     rwa [List.take_append_drop]at M
    have iR:Below wr.heap.size wr w3:=hbA.trans (hb6.mono hbA.size);have MI:=(Z HI).next iR
    have afk:=Z HCB w3 _ _ hs6 (af0.trans Ar) MI.below;have q0:w3.cell? (J w.heap.size 0)=some (Ac GT 0 Y.length Y.length):=(by rw[cell_of MI.x0];rfl);have q1:w3.cell? (J w.heap.size 1)=some (Ac GC 0 cs.length cs.length):=(by rw[cell_of MI.x0];rfl);have q2:w3.cell? (J w.heap.size 2)=some (Ac GP 0 np np):=(by rw[cell_of MI.x0];rfl);have HS6:=F hs6;have HI3:=F MI;have Ak:=F iR;clear hs6 MI iR DW hb6 Gm hcA hbA jd;refine oH 9 (λK hK=>?_);go_simp;refine hK.out _ _ (trivial) (ar2 (by kernel_rfl) ?_ _);clear hK K;clear aA;generalize Ih:at_+(S.length-(at_+1))=nn at HS6 afk hlS;have HNN:=F Ih;clear Ih
    go_wp2_with fail
    refine afk.mono ?_;rintro e w4 ⟨bv,f6,rfl,ado,aht,sD⟩;have YG:=(Z HI3).next sD
    have hs4:=(Z HS6).below sD;have agT:=(Z HSV).below ((Z Ak).trans (sD.mono (Z Ak).size));have HI4:=F YG;have XF:=F hs4;have amg:=F agT;have hwm:IntKind.i64.wrap ((at_:Int)-1)=(at_:Int)-1:=(by simp[IntKind.wrap,IntKind.bits,IntKind.signed];omega);cases bv
    ·have ajg:NoB Y cs (S.take at_++S.drop (at_+1)):=⟨f6,ado,λh=>by have:=aht.2 h;cases this⟩;have ami:=F ajg;clear ado aht sD YG hs4 agT ajg afk q0 q1 q2
     go_wp2_with fail
     refine⟨⟨at_,_,by rw[hlS,<-Z HNN];omega,rfl,Z XF,af0.trans Ar,Z ami,Z HI4⟩,by simp[intOf]⟩
    ·clear ado aht sD YG hs4 agT afk q0 q1 q2
     go_wp2_with fail
     refine⟨⟨at_,S,O,rfl,Z amg,Ar,Z HNB,Z HI4⟩,by simp[intOf]⟩
 ·have HI1:=F JX;have HCL:=F Md;have HBV:=F UM;clear Md UM iD JX
  go_wp2_with fail
  refine aq0 (v:=.slice none 0 0) (by simp[results,results67,go_sem]) rfl ⟨_,[],rfl,Or.inl ⟨rfl,rfl⟩,(Z HI1).below,Or.inl ⟨rfl,f',Z HCL,(Z HBV).1 (by trivial)⟩⟩
end Go.Proofs.YthcppbmkacbbiabGreat
