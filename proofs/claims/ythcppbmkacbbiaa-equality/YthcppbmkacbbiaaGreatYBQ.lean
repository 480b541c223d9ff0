import Derived.Test.YthcppbmkacbbiaaGreatYBP
set_option linter.unusedSimpArgs false
set_option maxHeartbeats 4000000
set_option maxRecDepth 100000
namespace Go.Proofs.YthcppbmkacbbiaaGreat
open Go.Proofs.Tryz
open Go.RowKit Go.Maps Go.WideMaps
open aB (Key put)
section
attribute [local go_sem] Oper.semAt_some
theorem yg{W:World}{base e size n:Nat}{v:Value}{xs:List Value}(h:W.ownsRow base e size v n xs):∃p cap,v=.slice p n cap:=by
 rcases h.2 with⟨rfl,h0⟩|⟨g,cap,cur,rfl,_⟩
 ·subst h0;exact⟨_,_,rfl⟩
 ·exact⟨_,_,rfl⟩
theorem KH{W:World}{base:Nat}{v:Value}{C:List (Int×Nat)}(h:W.ownsRow base 90 2 v C.length (C.flatMap lX))(hn:v=.slice none 0 0↔C=[])(hne:C≠[]):∃G cap,v=.slice (some ⟨G,0,none⟩) C.length cap/\eP W G C:=by
 rcases h.2 with⟨e,_⟩|⟨g,cap,cur,rfl,hb,hgb,h1,h2,h3,h4⟩
 ·exact absurd (hn.1 e) hne
 ·refine⟨g,cap,rfl,(ac0.1 hgb).1,λi hi=>?_⟩;have hcc:∀c,c<2->cur[i*2+c]?=(lX C[i])[c]?:=λc hc=>by
   have h5:(cur.toList.take (C.length*2))[i*2+c]?=(C.flatMap lX)[i*2+c]?:=(by rw[h4]);rw[am2,ae2 (by omega)]at h5;rw[show cur[i*2+c]?=cur.toList[i*2+c]? by simp,h5];exact flat_get (k:=2) (λ_=>rfl) (by decide) C i hi c hc
  rw[cell_of hgb,cell_of hgb];exact⟨hcc 0 (by decide),hcc 1 (by decide)⟩
theorem KG{W:World}{base:Nat}{v:Value}{H:List Bool}(h:W.ownsRow base 4 1 v H.length (H.map Value.bool))(hn:v=.slice none 0 0↔H=[])(hne:H≠[]):∃G cap,v=.slice (some ⟨G,0,none⟩) H.length cap/\dw W G H:=by
 rcases h.2 with⟨e,_⟩|⟨g,cap,cur,rfl,hb,hgb,h1,h2,h3,h4⟩
 ·exact absurd (hn.1 e) hne
 ·refine⟨g,cap,rfl,(ac0.1 hgb).1,λi hi=>?_⟩;have h5:(cur.toList.take (H.length*1))[i]?=(H.map Value.bool)[i]?:=by rw[h4]
  rw[am2,ae2 (by omega)]at h5;rw[cell_of hgb,show cur[i]?=cur.toList[i]? by simp,h5];simp[hi]
theorem Nw(GT GC GP np:Nat)(ts:List Key)(cs:List (Int×Nat))(v:Value)(ss:List jL)(w:World)(h7:ts.length<=7)(hs:gy w v ss)(hl:ss.length<=100)(hrt:cO w GT ts)(hrc:eP w GC cs)(hi:aB.Inv ts)(ht:∀i (hi:i<ts.length),ts[i].2.1<ts.length/\ts[i].2.2<ts.length)
 (hct:∀x∈cs,(x.1=80\/x.1=81)/\x.2<ts.length)(nU:og ts cs (ss.map dF)) :
  Calls prog 146 #[fv GT GC GP ts.length cs.length np,v] w λe w'=>∃bv f',e=.returned (.bool bv)/\Closed ts (aY (ss.map dF)) f'/\(bv=true↔cb f' cs (ss.map dF))/\Below w.heap.size w w':=by
 obtain⟨vp,vc,rfl,hvc,hvs⟩:=hs.cells;obtain⟨i0,hin,hz0,hz1,hz2⟩:=ak1 JD;obtain⟨j0,hjn,hy0,hy1,hy2⟩:=ak1 JC;have hok:∀s∈ss,(s.2.2.1=61->s.2.2.2.1<ts.length/\s.2.2.2.2<ts.length)/\(s.2.2.1≠61->(s.2.2.1=80\/s.2.2.1=81)/\s.2.2.2.1<cs.length):=λs hs=>by
  rcases nU (dF s) (ae8.2 ⟨s,hs,rfl⟩)with⟨a,b,c⟩|⟨a,b,c⟩
  ·exact⟨λ_=>⟨b,c⟩,λh=>absurd a h⟩
  ·have a:s.2.2.1=80\/s.2.2.1=81:=a;exact⟨λh=>by omega,λ_=>⟨a,b⟩⟩
 obtain⟨w0,hw0⟩:∃w0,w.alloc (.cells #[.slice (some ⟨GT,0,none⟩) ts.length ts.length,.slice (some ⟨GC,0,none⟩) cs.length cs.length,.slice (some ⟨GP,0,none⟩) np np] 54)=w0:=⟨_,rfl⟩;have hg0:w.grownBy w0 none:=by rw[<-hw0];exact ac1 _ _ none
 have hb0:Below w.heap.size w w0:=by rw[<-hw0];exact(af5 _ w).alloc (ac2 _) _
 have hz0':w.heap.size+1<=w0.heap.size:=by rw[<-hw0];simp
 have hx0:w0.heap[w.heap.size]?=some (.cells #[.slice (some ⟨GT,0,none⟩) ts.length ts.length,.slice (some ⟨GC,0,none⟩) cs.length cs.length,.slice (some ⟨GP,0,none⟩) np np] 54 (0,0)):=by rw[<-hw0];exact ad7 _ _
 have YC:=wF w0 (.slice vp ss.length vc) ss ts.length (hs.below hb0) (by omega) (by omega) (λs h1 h2=>(hok s h1).1 h2);have HVS:=aj hvs;have HOK:=aj hok;have HRT:=aj hrt;have HRC:=aj hrc;have HI:=aj hi;have HT:=aj ht;have HCT:=aj hct;clear hvs hs hok hrt hrc hi ht hct nU;unfold fv
 go_enter func146,ntmps146
 go_wp2_with fail
 clear hw0;refine YC.mono ?_;rintro e w1 ⟨b,rfl,hJ⟩;have hx1:=(hJ.below.block w.heap.size (by omega)).trans hx0;have q0:w1.cell? ⟨w.heap.size,0,none⟩=some (.slice (some ⟨GT,0,none⟩) ts.length ts.length):=by rw[cell_of hx1];rfl
 have q1:w1.cell? ⟨w.heap.size,1,none⟩=some (.slice (some ⟨GC,0,none⟩) cs.length cs.length):=by rw[cell_of hx1];rfl
 have q2:w1.cell? ⟨w.heap.size,2,none⟩=some (.slice (some ⟨GP,0,none⟩) np np):=by rw[cell_of hx1];rfl
 have yQ:Below w.heap.size w w1:=hb0.trans (hJ.below.mono (by omega));have hgt:=(ah HRT).1;obtain⟨c0,hm0,hm1⟩:=hJ.m;have hlo:=hJ.lo;have hcl:=close_any GT GC GP cs.length np b c0 _ ts w1 h7 ((ah HRT).below yQ hgt) (ah HI) hm0 hm1 hJ.roots (ah HT);unfold fv at hcl;have HBW:=aj yQ;have HX1:=aj hx1;clear YC hJ hm0 hm1 yQ hx0 hx1
 go_wp2_with fail
 refine hcl.mono ?_;rintro e w2 ⟨⟨v2,rfl⟩,f',yP,⟨c1,hm1,_⟩,hg2⟩;have hI0:RN w b ts.length f' #[.slice (some ⟨GT,0,none⟩) ts.length ts.length,.slice (some ⟨GC,0,none⟩) cs.length cs.length,.slice (some ⟨GP,0,none⟩) np np] (wM f' cs (ss.take 0)) (xO (ss.take 0)) (.slice none 0 0) (.slice none 0 0) w2:=by
  refine⟨⟨c1,hm1⟩,by omega,(hg2.block _ (ac0.1 (ah HX1)).1 (by simp;omega)).trans (ah HX1),al9 _ _ _ _,al9 _ _ _ _,by simp[wM],by simp[xO],(ah HBW).grown hg2 (ah HBW).size (λk e=>by cases e;omega)⟩
 have UD:=aj yP;clear hcl yP hm1 hg2 q0 q1 q2
 go_wp2_with fail
 go_loopw [6,7,18] (λv6 v7 i wr=>∃k:Nat,k<=ss.length/\i=.int .i64 k/\RN w b ts.length f' #[.slice (some ⟨GT,0,none⟩) ts.length ts.length,.slice (some ⟨GC,0,none⟩) cs.length cs.length,.slice (some ⟨GP,0,none⟩) np np] (wM f' cs (ss.take k)) (xO (ss.take k)) v6 v7 wr/\Hid (∀s∈ss.take k,s.2.2.1=61->s.2.1=false->f' s.2.2.2.1≠f' s.2.2.2.2)) (λ_ _ i _=>ss.length-(intOf i).toNat)
 case atStart=>exact⟨0,ag3 _,rfl,hI0,λs hs=>by simp at hs⟩
 case round=>
  obtain⟨k,hk,rfl,hI,hpre⟩:=hrel;clear hI0;have VW:=Ul f' cs (ss.take k);have hll:=Uk f' cs (ss.take k);have hlH:(xO (ss.take k)).length<=(ss.take k).length:=by omega
  have HLL:=aj hll;clear hll;have htl:(ss.take k).length<=100:=ae4 (List.length_take_le' _ _) hl;by_cases hlt:k<ss.length
  ·obtain⟨p6,cap6,rfl⟩:=yg hI.rc;obtain⟨p7,QZ,rfl⟩:=yg hI.rh;have hbd:(k:Int)<(ss.length:Int):=(by omega);have hne:ss≠[]:=(by intro e;rw[e]at hlt;simp at hlt);obtain⟨g,off,rfl,hgl,hcs⟩:=ah HVS hne;obtain⟨d0,d1,d2,d3,d4⟩:=hcs wr hI.below k hlt;have hok:=ah HOK ss[k] (ac4 hlt);have htC:=QY (f':=f') (cs:=cs) hlt;have htH:=QX hlt;have htk:ss.take (k+1)=ss.take k++[ss[k]]:=(by rw[ag5,ac3 hlt];rfl);have hmem:=ac4 hlt;have HTC:=aj htC;have HTH:=aj htH;have fH:=aj htk;have I8:=aj hmem;have HIW:=aj hI;clear htC htH htk hcs hmem;generalize ss[k]=s at d0 d1 d2 d3 d4 hok HTC HTH fH I8;obtain⟨sx,si,sc,s1,s2⟩:=s;simp only at d0 d1 d2 d3 d4 hok HTC HTH fH I8;obtain⟨W2,hW2⟩:∃W2,(wr.alloc (.cells #[.int .i64 sx,.bool si,.int .u8 sc,.int .i64 s1,.int .i64 s2] 224)).alloc (.cells #[.int .u8 sc,.int .i64 s1,.int .i64 s2] 93)=W2:=⟨_,rfl⟩;have hgW:wr.grownBy W2 none:=(by rw[<-hW2];exact(ac1 _ _ none).trans (ac1 _ _ none));have hI2:=hI.grow hgW;have hsW:wr.heap.size+2<=W2.heap.size:=(by rw[<-hW2];simp);have hB9:W2.heap[wr.heap.size]?=some (.cells #[.int .i64 sx,.bool si,.int .u8 sc,.int .i64 s1,.int .i64 s2] 224 (0,0)):=(by rw[<-hW2,ad4 _ _ _ (by simp),ad7]);have yX:W2.heap[wr.heap.size+1]?=some (.cells #[.int .u8 sc,.int .i64 s1,.int .i64 s2] 93 (0,0)):=by
    rw[<-hW2];have:=ad7 (wr.alloc (.cells #[.int .i64 sx,.bool si,.int .u8 sc,.int .i64 s1,.int .i64 s2] 224)) (.cells #[.int .u8 sc,.int .i64 s1,.int .i64 s2] 93);simpa using this
   have hwl:w.heap.size<wr.heap.size:=(ac0.1 hI.x0).1;clear hI;by_cases hc:sc=61
   ·subst hc;rw[ae2 rfl,ak5]at HTC HTH;obtain⟨o1,o2⟩:=hok.1 rfl;obtain⟨cc,hmc⟩:=hI2.j;have e9:W2.cell? ⟨wr.heap.size,1,none⟩=some (.bool si):=(by rw[cell_of hB9];rfl);have f1:W2.cell? ⟨wr.heap.size+1,0,none⟩=some (.int .u8 61):=(by rw[cell_of yX];rfl);have f2:W2.cell? ⟨wr.heap.size+1,1,none⟩=some (.int .i64 s1):=(by rw[cell_of yX];rfl);have f3:W2.cell? ⟨wr.heap.size+1,2,none⟩=some (.int .i64 s2):=(by rw[cell_of yX];rfl);have hsm:=Ee W2 b ts.length cc f' s1 s2 hmc o1 o2 (by omega);cases si
    ·have HI2:=aj hI2;by_cases he:f' s1=f' s2
     ·rw[ap3 he]at hsm;have HE:=aj he;clear he hI2 hmc hB9 yX hgW
      go_wp2_with fail
      refine hsm.mono ?_;rintro e w3 ⟨rfl,rfl⟩
      go_wp2_with fail
      refine af2 (v:=.bool false) (by simp[results,results146,go_sem]) rfl ⟨false,f',rfl,ah UD,⟨λh=>(by cases h),λh=>?_⟩,(ah HI2).below⟩;exact absurd (ah HE) ((QW.1 h).1 _ (ah I8) rfl rfl)
     ·rw[an7 he]at hsm;have HE:=aj he;clear he hI2 hmc hB9 yX hgW
      go_wp2_with fail
      refine hsm.mono ?_;rintro e w3 ⟨rfl,rfl⟩
      go_wp2_with fail
      refine⟨⟨k+1,hlt,by go_num,?_,?_⟩,by simp[intOf];omega⟩
      ·rw[ah HTC,ah HTH];exact ah HI2
      ·intro s hs h1 h2;rw[ah fH]at hs;rcases af7.1 hs with hs|hs
       ·exact ah hpre s hs h1 h2
       ·rw[ae5.1 hs];exact ah HE
    ·have HI2:=aj hI2;clear hI2 hmc hsm hB9 yX hgW
     go_wp2_with fail
     refine⟨⟨k+1,hlt,by go_num,?_,?_⟩,by simp[intOf];omega⟩
     ·rw[ah HTC,ah HTH];exact ah HI2
     ·intro s hs h1 h2;rw[ah fH]at hs;rcases af7.1 hs with hs|hs
      ·exact ah hpre s hs h1 h2
      ·rw[ae5.1 hs]at h2;cases h2
   ·rw[ad6 hc]at HTC HTH;obtain⟨h8,hs1⟩:=hok.2 hc;have aag:(s1:Int)<(cs.length:Int):=(by omega);have hof:=(ah HCT _ (ac4 hs1)).2;have hgc:=(ah HRC).1;have VO:=((ah HRC).2 s1 hs1).2;rw[aG hs1]at HTC;generalize cs[s1].2=of at hof VO HTC;have hGC:Hid (∀W,Below w.heap.size w W->W.cell? ⟨GC,s1*2+1,none⟩=some (.int .i64 of)):=λW hW=>(hW.cell (p:=⟨GC,s1*2+1,none⟩) hgc).trans VO;have e9:W2.cell? ⟨wr.heap.size,1,none⟩=some (.bool si):=(by rw[cell_of hB9];rfl);have f1:W2.cell? ⟨wr.heap.size+1,0,none⟩=some (.int .u8 sc):=(by rw[cell_of yX];rfl);have Wq:Hid (∀W,W2.grownBy W none->Calls prog 82 #[.map (some b),.int .i64 of] W λe w'=>e=.returned (.int .i64 (f' of))/\w'=W):=λW hg=>by
     obtain⟨cc,hmc⟩:=hI2.j;exact pU W b ts.length cc f' of (hmc.kept (hg.block b hmc.lt (by simp))) hof (by omega)
    generalize f' of=fo at Wq HTC;have HI2:=aj hI2;have HB9:=aj hB9;have UE:=aj yX;have acz:(sc != 61)=true:=(by simpa using hc);clear hI2 hB9 yX hgW VO
    go_wp2_with fail
    have hgD:W2.grownBy W2.drew none:=⟨rfl,rfl,rfl,ac2 _,λj hj _=>rfl⟩;have hIX:=(ah HI2);have hpl:wr.heap.size+1<W2.heap.size:=(ac0.1 (ah UE)).1;have hfl:w.heap.size<W2.heap.size:=(ac0.1 hIX.x0).1;have hSt:Hid (∀W',W'.heap[wr.heap.size+1]?=W2.heap[wr.heap.size+1]?/\W'.heap[w.heap.size]?=W2.heap[w.heap.size]?/\Below w.heap.size w W'->W'.cell? ⟨wr.heap.size+1,0,none⟩=some (.int .u8 sc)/\W'.cell? ⟨wr.heap.size+1,1,none⟩=some (.int .i64 s1)/\W'.cell? ⟨w.heap.size,1,none⟩=some (.slice (some ⟨GC,0,none⟩) cs.length cs.length)/\W'.cell? ⟨GC,s1*2+1,none⟩=some (.int .i64 of)):=λW' ⟨h1,h2,h3⟩=>by
     refine⟨?_,?_,?_,ah hGC W' h3⟩
     ·rw[cell_of (h1.trans (ah UE))];rfl
     ·rw[cell_of (h1.trans (ah UE))];rfl
     ·rw[cell_of (h2.trans hIX.x0)];rfl
    have hkeep:Hid (∀W3 W4,W2.grownBy W3 none->W3.grownBy W4 (Value.slice p6 (wM f' cs (ss.take k)).length cap6).ownBlock->W4.heap[wr.heap.size+1]?=W2.heap[wr.heap.size+1]?/\W4.heap[w.heap.size]?=W2.heap[w.heap.size]?/\W4.heap[wr.heap.size]?=W2.heap[wr.heap.size]?/\Below w.heap.size w W4):=λW3 W4 hg3 hg4=>by
     have hb:=mO hIX.rc;have kp:∀(j:Nat) (cur:Array Value) (t:TypeId) (x:Nat×Nat),W2.heap[j]?=some (.cells cur t x)->t≠90->W4.heap[j]?=W2.heap[j]?:=λj cur t x h1 h2=>by
      have hjl:=(ac0.1 h1).1;refine(hg4.block j (ac8 hjl hg3.size) (λe=>?_)).trans (hg3.block j hjl (by simp));obtain⟨_,cur',hcur⟩:=hb j e.symm;rw[h1]at hcur;cases hcur;exact h2 rfl
     refine⟨kp _ _ _ _ (ah UE) (by decide),kp _ _ _ _ hIX.x0 (by decide),kp _ _ _ _ (ah HB9) (by decide),?_⟩;have hb3:=hIX.below.grown hg3 hIX.below.size (λk e=>by cases e);exact hb3.grown hg4 hb3.size (λk e=>(hb k e).1)
    have hlow:=hIX.below;clear hIX;have hS0:W2.drew.heap[wr.heap.size+1]?=W2.heap[wr.heap.size+1]?/\W2.drew.heap[w.heap.size]?=W2.heap[w.heap.size]?/\Below w.heap.size w W2.drew:=⟨rfl,rfl,hlow.drew⟩;refine ag0 (S:=λW'=>W'.heap[wr.heap.size+1]?=W2.heap[wr.heap.size+1]?/\W'.heap[w.heap.size]?=W2.heap[w.heap.size]?/\Below w.heap.size w W') rfl ?_;simp only[ad3,ac9,ae1,Nat.reduceAdd,ac7,ac6,ad5,ad9,ad8];change wpAnyH prog .any _ _ _ _ _ _ W2.drew;refine tH 0 (.slice p6 (wM f' cs (ss.take k)).length cap6) (λw' hS=>?_) hS0 ?_
    ·go_simp
    simp only[aC];refine tH 1 (.pointer (some ⟨wr.heap.size+1,0,none⟩)) (λw' hS=>?_) hS0 ?_
    ·go_simp
    simp only[aC];refine tH 2 (.int .u8 sc) (λw' hS=>?_) hS0 ?_
    ·obtain⟨s1',s2',s3',s4'⟩:=ah hSt _ hS;go_simp
    simp only[aC];refine tH 3 (.map (some b)) (λw' hS=>?_) hS0 ?_
    ·go_simp
    simp only[aC];refine tH 4 (.pointer (some ⟨w.heap.size,1,none⟩)) (λw' hS=>?_) hS0 ?_
    ·go_simp
    simp only[aC];refine tH 5 (.slice (some ⟨GC,0,none⟩) cs.length cs.length) (λw' hS=>?_) hS0 ?_
    ·obtain⟨s1',s2',s3',s4'⟩:=ah hSt _ hS;go_simp
    simp only[aC];refine tH 6 (.pointer (some ⟨wr.heap.size+1,1,none⟩)) (λw' hS=>?_) hS0 ?_
    ·go_simp
    simp only[aC];refine tH 7 (.int .i64 s1) (λw' hS=>?_) hS0 ?_
    ·obtain⟨s1',s2',s3',s4'⟩:=ah hSt _ hS;go_simp
    simp only[aC];refine tH 8 (.pointer (some ⟨GC,s1*2,none⟩)) (λw' hS=>?_) hS0 ?_
    ·go_simp
    simp only[aC];refine tH 9 (.pointer (some ⟨GC,s1*2+1,none⟩)) (λw' hS=>?_) hS0 ?_
    ·go_simp
    simp only[aC];refine tH 10 (.int .i64 of) (λw' hS=>?_) hS0 ?_
    ·obtain⟨s1',s2',s3',s4'⟩:=ah hSt _ hS;go_simp
    simp only[aC];refine oH 11 (λK hK=>?_);go_simp;refine(ah Wq _ hgD).mono ?_;rintro e w3 ⟨rfl,rfl⟩;replace hS0:=hS0;refine hK.out _ _ hS0 ?_;clear hK K;refine tH 12 (.agg #[.int .u8 sc,.int .i64 fo]) (λw' hS=>?_) hS0 ?_
    ·go_simp
    simp only[aC];have hgA:W2.grownBy (W2.drew.alloc (.cells #[.int .u8 sc,.int .i64 fo] 90)) none:=hgD.trans (ac1 _ _ none);refine oH 13 (λK hK=>?_);go_simp;replace hS0:=And.intro (hgA.block _ hpl (by simp)) (And.intro (hgA.block _ hfl (by simp)) (hlow.grown hgA hlow.size (λk e=>by cases e)));refine hK.out _ _ hS0 ?_;clear hK K;refine oH 14 (λK hK=>?_);refine lC (.tmp 27) (.tmp 40) 51 rfl w.heap.size 90 i0 _ 2 16 underlying51 hin hz0 hz1 hz2 rfl (by decide) (.slice p6 (wM f' cs (ss.take k)).length cap6) (wM f' cs (ss.take k)).length ((wM f' cs (ss.take k)).flatMap lX) rfl (by exact ap2 (by exact(ah HI2).rc) _) ⟨W2.heap.size,0,none⟩ 1 1 (lX (sc,fo)) rfl rfl (Ez _ _ _ _ _ rfl) (OD _) (by unfold maxLen;omega) (by omega) (by simp[World.drew];omega) ?_;intro v' w3 hown' hg3;obtain⟨g',cap',hv'⟩:=dM hown' (ak4 _);subst hv';obtain⟨k1,k2,k3,k4⟩:=ah hkeep _ _ hgA hg3;replace hS0:=And.intro k1 (And.intro k2 k4);refine hK.out _ _ hS0 ?_;clear hK K;have hI3:=((ah HI2).grow hgA).abo (x:=(sc,fo)) hg3 hown' (by simp);have e9':w3.cell? ⟨wr.heap.size,1,none⟩=some (.bool si):=(ae0 k3).trans e9;have HI3:=aj hI3;clear hI3 k1 k2 k3 k4 hown' hg3 hkeep;refine oH 15 (λK hK=>?_);go_simp;refine hK.out _ _ (hS0) (af4 (by kernel_rfl) ?_ _);clear hK K;clear hS0 hSt Wq hgA hgD
    go_wp2_with (at_builtin;refine al1 _ rfl _ _ 103 rfl w.heap.size 4 j0 (.bool false) 1 1 underlying103 hjn hy0 hy1 hy2 rfl (by decide) (.slice p7 (xO (ss.take k)).length QZ) (xO (ss.take k)).length ((xO (ss.take k)).map Value.bool) rfl ((ah HI3).rh.alloc _) ⟨w3.heap.size,0,none⟩ 1 1 [.bool si] rfl rfl (EC _ _ _ _ rfl) (XI _) (by unfold maxLen;omega) (by omega) (by have:=(ah HI3).below.size;simp;omega) ?_;intro v2 w4 hown2 hg4 UQ TM;obtain⟨g2,cap2,hv2⟩:=dM hown2 (ak4 _);subst hv2)
    have hI4:=((ah HI3).grow (ac1 _ _ none)).appH (x:=si) hg4 hown2 (by simp);refine⟨⟨k+1,hlt,by go_num,?_,?_⟩,by simp[intOf];omega⟩
    ·rw[ah HTC,ah HTH];exact hI4
    ·intro s hs h1 h2;rw[ah fH]at hs;rcases af7.1 hs with hs|hs
     ·exact ah hpre s hs h1 h2
     ·rw[ae5.1 hs]at h1;exact absurd h1 hc
  ·have hkk:k=ss.length:=(by omega);have hbd:¬(k:Int)<(ss.length:Int):=(by omega);have hts:ss.take k=ss:=(by rw[hkk,ai1]);rw[hts]at hI hpre HLL VW;clear hkk hts;have hfin:Hid (∀bv,(bv=true↔∀p∈bg (wM f' cs ss) (wM f' cs ss).length,(xO ss).getD p.1 false=(xO ss).getD p.2 false)->(bv=true↔cb f' cs (ss.map dF))):=λbv h=>by
    rw[h,QW];exact⟨λh=>⟨ah hpre,h⟩,λh=>h.2⟩
   have hll:=ah HLL;have hfo:∀x∈wM f' cs ss,∃l,keyOf prog 90 (jg x)=some l:=λx hx=>by
    obtain⟨s,hs,rfl⟩:=ae8.1 hx;obtain⟨hs,h61⟩:=ah3.1 hs;have h61:s.2.2.1≠61:=(by simpa using h61);obtain⟨h8,h1⟩:=(ah HOK s hs).2 h61;have h2:=(ah HCT _ (ac4 h1)).2;have h3:=((ah UD).roots _ h2).1;exact Tt _ (by simp only;omega) (by simp only;rw[aG h1];omega)
   by_cases hC:wM f' cs ss=[]
   ·have hH:xO ss=[]:=ag9 (by rw[hll,hC];rfl);have e6:=hI.nc.2 hC;have e7:=hI.nh.2 hH;subst e6;subst e7;have HB:=aj hI.below;have HC0:=aj hC;have hag:=NH wr;clear hI VW hfo hll HLL hC hH
    go_wp2_with fail
    refine hag.mono ?_;rintro e w3 ⟨rfl,hb3⟩;have HB3:=aj hb3;clear hb3 hag
    go_wp2_with fail
    refine af2 (v:=.bool true) (by simp[results,results146,go_sem]) rfl ⟨true,f',rfl,ah UD,?_,(ah HB).trans ((ah HB3).mono (ah HB).size)⟩;exact ah hfin true ⟨λ_ p hp=>(by rw[ah HC0]at hp;simp[bg]at hp),λ_=>rfl⟩
   ·have hH:xO ss≠[]:=λe=>hC (ag9 (by rw[<-hll,e];rfl));obtain⟨G6,cap6,rfl,hr6⟩:=KH hI.rc hI.nc hC;obtain⟨G7,QZ,rfl,hr7⟩:=KG hI.rh hI.nh hH;have hag:=Bv G6 cap6 G7 QZ (wM f' cs ss) (xO ss) wr (by omega) hll hr6 hfo hr7;have HB:=aj hI.below;clear hI VW hfo hll HLL hC hH hr6 hr7
    go_wp2_with fail
    refine hag.mono ?_;rintro e w3 ⟨rfl,hb3⟩;have HB3:=aj hb3;clear hb3 hag
    go_wp2_with fail
    refine af2 (v:=.bool (decide (∀p∈bg (wM f' cs ss) (wM f' cs ss).length,(xO ss).getD p.1 false=(xO ss).getD p.2 false))) (by simp[results,results146,go_sem]) rfl ⟨_,f',rfl,ah UD,ah hfin _ (by simp),(ah HB).trans ((ah HB3).mono (ah HB).size)⟩
end
open Sat (View Rule jw bI)
attribute [local go_sem] Oper.semAt_some
theorem xu(L:List jL):(wR L).length=L.length*5:=by
 unfold wR
 induction L with
 |nil=>rfl
 |cons a L ih=>rw[ap5,ae9,ih];simp[Df];omega
theorem Jf(L:List jL):∀u∈wR L,u.oneCell'=true:=by
 intro u hu;obtain⟨s,_,h⟩:=ak7.1 hu;exact Tc s u h
theorem SC(L M:List jL):wR (L++M)=wR L++wR M:=by simp[wR]
theorem gy.part{w:World}{v:Value}{ss:List jL}(h:gy w v ss)(hne:ss≠[]):∃g off cap,v=.slice (some ⟨g,off,none⟩) ss.length cap/\ss.length<=cap/\g<w.heap.size/\
  ∀W,Below w.heap.size w W->∀a m,a+m<=ss.length->∀j u,(wR ((ss.drop a).take m))[j]?=some u->W.cell? ((⟨g,off+a*5,none⟩:Addr).add j)=some u:=by
 obtain⟨p,cap,h1,h2,h3⟩:=h;obtain⟨g,off,cur,x,q1,q2,q3⟩:=h3 hne;subst q1;have hgl:=(ac0.1 q2).1;refine⟨g,off,cap,h1,h2,hgl,λW hW a m ham j u hj=>?_⟩;have hlen:((ss.drop a).take m).length=m:=by simp;omega
 have hjl:j<m*5:=by
  have:=(List.getElem?_eq_some_iff.1 hj).1;rw[xu,hlen]at this;exact this
 have hi:j/5<((ss.drop a).take m).length:=by rw[hlen];omega
 have hf:=flat_get (f:=Df) (k:=5) (λ_=>rfl) (by decide) ((ss.drop a).take m) (j/5) hi (j%5) (Nat.mod_lt _ (by decide));have e1:j/5*5+j%5=j:=by omega
 rw[e1]at hf;have hj2:(Df ((ss.drop a).take m)[j/5])[j%5]?=some u:=hf.symm.trans hj;have e2:((ss.drop a).take m)[j/5]=ss[a+j/5]'(by omega):=by simp
 rw[e2]at hj2;have hq:=q3 (a+j/5) (by omega) (j%5) (Nat.mod_lt _ (by decide));have e3:off+(a+j/5)*5+j%5=off+a*5+j:=by omega
 rw[e3]at hq;have hb:=(hW.block g hgl).trans q2;have e4:(⟨g,off+a*5,none⟩:Addr).add j=⟨g,off+a*5+j,none⟩:=by simp[Addr.add]
 rw[e4,cell_of hb];exact hq.trans hj2
structure OI(w:World)(fo:Array Value)(W:World):Prop where
 x0:W.heap[w.heap.size]?=some (.cells fo 54 (0,0))
 below:Below w.heap.size w W
theorem OI.next{w:World}{fo:Array Value}{W W':World}(h:OI w fo W)(hb:Below W.heap.size W W'):OI w fo W':=
 ⟨(hb.block _ (ac0.1 h.x0).1).trans h.x0,h.below.trans (hb.mono h.below.size)⟩
theorem Ed{ts:List Key}{cs:List (Int×Nat)}{S ss:List jL}(h:og ts cs (ss.map dF))(hs:S.Sublist ss):og ts cs (S.map dF):=λl hl=>by
 obtain⟨s,h1,rfl⟩:=ae8.1 hl;exact h _ (ae8.2 ⟨s,hs.subset h1,rfl⟩)
def ZP(ts:List Key)(cs:List (Int×Nat))(S:List jL):Prop:=∃f',Closed ts (aY (S.map dF)) f'/\¬cb f' cs (S.map dF)
theorem zX(GT GC GP np:Nat)(ts:List Key)(cs:List (Int×Nat))(v:Value)(ss:List jL)(w:World)(h7:ts.length<=7)(hs:gy w v ss)(hl:ss.length<=100)(hrt:cO w GT ts)(hrc:eP w GC cs)(hi:aB.Inv ts)(ht:∀i (hi:i<ts.length),ts[i].2.1<ts.length/\ts[i].2.2<ts.length)
 (hct:∀x∈cs,(x.1=80\/x.1=81)/\x.2<ts.length)(nU:og ts cs (ss.map dF)) :
  Calls prog 95 #[fv GT GC GP ts.length cs.length np,v] w λe w'=>∃v' r,e=.returned v'/\aQ w' v' r/\Below w.heap.size w w'/\
   ((r=[]/\∃f',Closed ts (aY (ss.map dF)) f'/\cb f' cs (ss.map dF))\/∃S,S.Sublist ss/\r=S.map GN/\ZP ts cs S):=by
 obtain⟨i0,hin,hz0,hz1,hz2⟩:=ak1 JB;have hgt:=hrt.1;have hgc:=hrc.1;have HCB:Hid (∀W v S,gy W v S->S.Sublist ss->Below w.heap.size w W->Calls prog 146 #[fv GT GC GP ts.length cs.length np,v] W λe w'=>∃bv f',e=.returned (.bool bv)/\Closed ts (aY (S.map dF)) f'/\(bv=true↔cb f' cs (S.map dF))/\Below W.heap.size W w'):=λW v S h1 h2 h3=>
  Nw GT GC GP np ts cs v S W h7 h1 (ae4 h2.length_le hl) (hrt.below h3 hgt) (hrc.below h3 hgc) hi ht hct (Ed nU h2)
 clear hrt hrc hi ht hct nU;unfold fv at HCB ⊢;obtain⟨vp,vc,rfl,_⟩:=id hs;obtain⟨w0,hw0⟩:∃w0,w.alloc (.cells #[.slice (some ⟨GT,0,none⟩) ts.length ts.length,.slice (some ⟨GC,0,none⟩) cs.length cs.length,.slice (some ⟨GP,0,none⟩) np np] 54)=w0:=⟨_,rfl⟩;have hb0:Below w.heap.size w w0:=by rw[<-hw0];exact(af5 _ w).alloc (ac2 _) _
 have hI0:OI w #[.slice (some ⟨GT,0,none⟩) ts.length ts.length,.slice (some ⟨GC,0,none⟩) cs.length cs.length,.slice (some ⟨GP,0,none⟩) np np] w0:=⟨by rw[<-hw0];exact ad7 _ _,hb0⟩;have hcb:=ah HCB w0 _ ss (hs.below hb0) (List.Sublist.refl _) hb0;have q0:w0.cell? ⟨w.heap.size,0,none⟩=some (.slice (some ⟨GT,0,none⟩) ts.length ts.length):=by rw[cell_of hI0.x0];rfl
 have q1:w0.cell? ⟨w.heap.size,1,none⟩=some (.slice (some ⟨GC,0,none⟩) cs.length cs.length):=by rw[cell_of hI0.x0];rfl
 have q2:w0.cell? ⟨w.heap.size,2,none⟩=some (.slice (some ⟨GP,0,none⟩) np np):=by rw[cell_of hI0.x0];rfl
 go_enter func95,ntmps95
 go_wp2_with fail
 clear hw0;refine hcb.mono ?_;rintro e w1 ⟨bv,f',rfl,yP,hbv,hb1⟩;have hI1:=hI0.next hb1
 clear hcb hI0 hb0 q0 q1 q2;cases bv
 ·have hno:ZP ts cs ss:=⟨f',yP,λh=>by have:=hbv.2 h;cases this⟩;have hs1:gy w1 (.slice vp ss.length vc) ss:=hs.below hI1.below;have HI1:=aj hI1;have HS1:=aj hs1;have HNO:=aj hno;clear yP hbv hb1 hI1 hs1 hno
  go_wp2_with fail
  go_loopw [1,5] (λv a wr=>∃(k:Nat) (S:List jL),k<=S.length/\a=.int .i64 ((k:Int)-1)/\gy wr v S/\S.Sublist ss/\ZP ts cs S/\OI w #[.slice (some ⟨GT,0,none⟩) ts.length ts.length,.slice (some ⟨GC,0,none⟩) cs.length cs.length,.slice (some ⟨GP,0,none⟩) np np] wr) (λ_ a _=>(intOf a+1).toNat)
  case atStart=>exact⟨ss.length,ss,ac2 _,rfl,ah HS1,List.Sublist.refl _,ah HNO,ah HI1⟩
  case round=>
   obtain⟨k,S,hk,rfl,hsv,hsub,hnb,hI⟩:=hrel;have hSl:=hsub.length_le;rcases ak6 k with h0|h0
   ·subst h0;have e00:(((0:Nat):Int)-1) = -1:=rfl;rw[e00];clear e00;obtain⟨wo,hwo⟩:∃wo,wo=wr:=⟨_,rfl⟩;subst hwo;obtain⟨p1,cap1,rfl,_,hcs⟩:=hsv.cells;have HCS:=aj hcs;have HI:=aj hI;have HNB:=aj hnb;clear hcs hsv hI hnb
    go_wp2_with fail
    go_loopw [7,36] (λv7 i wq=>∃j:Nat,j<=S.length/\i=.int .i64 j/\wq.ownsRow wo.heap.size 214 2 v7 j (vcs ((S.take j).map GN))/\Hid (v7=.slice none 0 0↔j=0)/\Below wo.heap.size wo wq) (λ_ i _=>S.length-(intOf i).toNat)
    case atStart=>exact⟨0,ag3 _,rfl,al9 _ _ _ _,by unfold Hid;simp,af5 _ _⟩
    case round=>
     obtain⟨j,hj,rfl,hrow,hnil,hbq⟩:=hrel;by_cases hjl:j<S.length
     ·obtain⟨p7,QZ,rfl⟩:=mg hrow;have hbd:(j:Int)<(S.length:Int):=(by omega);obtain⟨g,off,rfl,hgl,hc⟩:=ah HCS (by intro e;rw[e]at hjl;simp at hjl);obtain⟨d0,d1,d2,d3,d4⟩:=hc wr hbq j hjl;have htk:vcs ((S.take (j+1)).map GN)=vcs ((S.take j).map GN)++Bd (GN S[j]):=by
       rw[ag5,ac3 hjl,ak0];exact DV _ _
      have fH:=aj htk;have fK:=aj hrow;have HBQ:=aj hbq;have hsq:=hbq.size;clear htk hc hrow hbq;generalize S[j]=s at d0 d1 d2 d3 d4 fH;obtain⟨sx,si,sc,s1,s2⟩:=s;simp only[GN]at d0 d1 d2 d3 d4 fH;obtain⟨WB,hWB⟩:∃WB,wr.alloc (.cells #[.int .i64 sx,.bool si,.int .u8 sc,.int .i64 s1,.int .i64 s2] 224)=WB:=⟨_,rfl⟩;have hgB:wr.grownBy WB none:=(by rw[<-hWB];exact ac1 _ _ none);have e0:WB.cell? ⟨wr.heap.size,0,none⟩=some (.int .i64 sx):=(by rw[<-hWB];simp[go_sem]);have e1:WB.cell? ⟨wr.heap.size,1,none⟩=some (.bool si):=(by rw[<-hWB];simp[go_sem]);have hvn:=DU (sx,si) WB;unfold vV at hvn;simp only at hvn
      go_wp2_with fail
      clear hWB;refine hvn.mono ?_;rintro e w5 ⟨rfl,hg5⟩;have hg15:wr.grownBy w5 none:=hgB.trans hg5;have ET:=(ah fK).kept hg15 (Classical.em _);have hb5:=(ah HBQ).grown hg15 (ah HBQ).size (λk e=>by cases e);have hs5:=hg15.size;have HB5:=aj hb5;clear hvn hg5 hgB hg15 hb5 e0 e1
      go_wp2_with (at_builtin;refine al1 _ rfl _ _ 161 rfl wo.heap.size 214 i0 _ 2 16 underlying161 hin hz0 hz1 hz2 rfl (by decide) (.slice p7 j QZ) j (vcs ((S.take j).map GN)) rfl (ET.alloc _) ⟨w5.heap.size,0,none⟩ 1 1 (Bd (sx,!si)) rfl rfl (tq _ _ _ _ _ rfl) (S9 _) (by unfold maxLen;omega) (by omega) (by simp;omega) ?_;intro v' w6 hown' hg6 JE acA;obtain⟨g',cap',hv'⟩:=dM hown' (ak4 _);subst hv')
      have hga:w5.grownBy (w5.alloc (.cells #[.int .i64 sx,.bool (!si)] 214)) none:=ac1 _ _ none;have YS:=(ah HB5).grown hga (ah HB5).size (λk e=>by cases e)
      go_roundw
      case rel=>
       refine⟨j+1,hjl,by go_num,?_,?_,?_⟩
       ·rw[ah fH];exact hown'
       ·unfold Hid;simp
       ·exact YS.grown hg6 YS.size (λk e=>(ET.lt k e).1)
      case measure=>simp[intOf];omega
     ·have hjj:j=S.length:=(by omega);have hbd:¬(j:Int)<(S.length:Int):=(by omega);rw[hjj,ai1]at hrow;have hr:aQ wr u7 (S.map GN):=by
       refine lD (base:=wo.heap.size) ?_ ?_
       ·rw[aj7];exact hrow
       ·rw[ah hnil,hjj,List.map_eq_nil_iff];exact List.length_eq_zero_iff
      have HR:=aj hr;have HBQ:=aj hbq;clear hrow hr hbq hjj hnil
      go_wp2_with fail
      refine af2 (v:=u7) (by simp[results,results95,go_sem]) rfl ?_;have hbF:=(ah HI).below.trans ((ah HBQ).mono (ah HI).below.size);exact⟨u7,rfl,S.map GN,ah HR,hbF,Or.inr ⟨S,hsub,rfl,ah HNB⟩⟩
   ·obtain⟨at_,rfl⟩:∃a,k=a+1:=⟨k-1,by omega⟩;have eat:(((at_+1:Nat):Int)-1)=(at_:Int):=(by omega);rw[eat];clear eat;have hne:S≠[]:=(by intro e;rw[e]at hk;simp at hk);obtain⟨g,off,cap,rfl,hcap,hgl,hpart⟩:=hsv.part hne;have Va:=aj hpart;have HSV:=aj hsv;have HNB:=aj hnb;have HI:=aj hI;have hge:(at_:Int)≥0:=(by omega);have hx1:(at_:Int)<=(cap:Int):=(by omega);have hx2:(at_:Int)+1<=(S.length:Int):=(by omega);have hx3:0<=(at_:Int)+1:=(by omega);have hw5:IntKind.i64.wrap ((at_:Int)+1)=(at_:Int)+1:=DN (by omega) (by omega);obtain⟨ad2,had⟩:∃ad2:Addr,(if cap=at_+1 then some (⟨g,off,none⟩:Addr)else some ⟨g,off+(at_+1)*5,none⟩)=some ad2:=by
     by_cases e:cap=at_+1
     ·exact⟨_,by rw[ae2 e]⟩
     ·exact⟨_,by rw[ad6 e]⟩
    have VL:Hid (∀W,Below wr.heap.size wr W->∀j u,(wR (S.drop (at_+1)))[j]?=some u->W.cell? (ad2.add j)=some u):=λW hW j u hj=>by
     have hlen:=xu (S.drop (at_+1));by_cases e:cap=at_+1
     ·exfalso;have h1:=(List.getElem?_eq_some_iff.1 hj).1;rw[hlen,List.length_drop]at h1;omega
     ·rw[ad6 e]at had;cases had;have:=ah Va W hW (at_+1) (S.length-(at_+1)) (by omega) j u;rw[ah2 (by simp)]at this;exact this hj
    have hnews1:Hid (∀W,Below wr.heap.size wr W->∀j u,(wR (S.take at_))[j]?=some u->W.cell? ((⟨g,off,none⟩:Addr).add j)=some u):=λW hW j u hj=>by
     have:=ah Va W hW 0 at_ (by omega) j u;rw[List.drop_zero,ap4,Nat.add_zero]at this;exact this hj
    have HAD:=aj had;clear hpart hsv hnb hI had
    go_wp2_with fail
    refine ag0 (S:=λ_=>True) rfl ?_;have hS0:True:=trivial;simp only[ad3,ac9,ae1,Nat.reduceAdd,ac7,ac6,ad5,ad9,ad8];change wpAnyH prog .any _ _ _ _ _ _ wr.drew;refine tH 0 (.slice (some ⟨g,off,none⟩) S.length cap) (λw' hS=>?_) hS0 ?_
    ·go_simp
    simp only[aC];refine tH 1 (.int .i64 at_) (λw' hS=>?_) hS0 ?_
    ·go_simp
    simp only[aC];refine tH 2 (.slice (some ⟨g,off,none⟩) at_ cap) (λw' hS=>?_) hS0 ?_
    ·go_simp
    simp only[aC];refine tH 3 (.slice (some ⟨g,off,none⟩) S.length cap) (λw' hS=>?_) hS0 ?_
    ·go_simp
    simp only[aC];refine tH 4 (.int .i64 at_) (λw' hS=>?_) hS0 ?_
    ·go_simp
    simp only[aC];refine tH 5 (.int .i64 ((at_:Int)+1)) (λw' hS=>?_) hS0 ?_
    ·go_simp
    simp only[aC];refine tH 6 (.slice (some ad2) (S.length-(at_+1)) (cap-(at_+1))) (λw' hS=>?_) hS0 ?_
    ·go_simp;rw[ah HAD]
    simp only[aC];obtain⟨WA,hWA⟩:∃WA,wr.drew.alloc (.cells #[.slice (some ⟨g,off,none⟩) at_ cap,.slice (some ad2) (S.length-(at_+1)) (cap-(at_+1))] 165)=WA:=⟨_,rfl⟩;have hgA:wr.grownBy WA none:=(by rw[<-hWA];exact(⟨rfl,rfl,rfl,ac2 _,λj hj _=>rfl⟩:wr.grownBy wr.drew none).trans (ac1 _ _ none));have hbA:Below wr.heap.size wr WA:=(af5 _ wr).grown hgA (ac2 _) (λk e=>by cases e);have hcA:WA.heap[wr.heap.size]?=some (.cells #[.slice (some ⟨g,off,none⟩) at_ cap,.slice (some ad2) (S.length-(at_+1)) (cap-(at_+1))] 165 (0,0)):=(by rw[<-hWA];exact ad7 wr.drew _);have hcc:=IL WA wr.heap.size at_ cap (S.length-(at_+1)) (cap-(at_+1)) ⟨g,off,none⟩ ad2 (wR (S.take at_)) (wR (S.drop (at_+1))) hcA (by omega) (by omega) (by rw[xu,ai6];congr 1;omega) (by rw[xu,List.length_drop]) (ah hnews1 WA hbA) (ah VL WA hbA) (Jf _) (Jf _);refine oH 7 (λK hK=>?_);go_simp;replace hS0:=trivial;refine hK.out _ _ hS0 ?_;clear hK K;subst hWA;refine oH 8 (λK hK=>?_);go_simp;refine(hcc).mono ?_;rintro e w3 ⟨v6,rfl,tZ,hb6⟩;replace hS0:=trivial;refine hK.out _ _ hS0 ?_;clear hK K;obtain⟨p6,cap6,rfl⟩:=mg tZ;have hlS:(S.take at_++S.drop (at_+1)).length=at_+(S.length-(at_+1)):=(by simp;omega);have hs6:gy w3 (.slice p6 (at_+(S.length-(at_+1))) cap6) (S.take at_++S.drop (at_+1)):=by
     rw[<-hlS,<-SC]at tZ;have:=vW tZ;rw[hlS]at this;exact this
    have UO:(S.take at_++S.drop (at_+1)).Sublist S:=by
     have h1:(S.drop (at_+1)).Sublist (S.drop at_):=by
      rw[<-List.drop_drop];exact List.drop_sublist _ _
     have h2:=(List.Sublist.refl (S.take at_)).append h1
     rwa [List.take_append_drop]at h2
    have hb3:Below wr.heap.size wr w3:=hbA.trans (hb6.mono hbA.size);have hI3:=(ah HI).next hb3
    have hcb3:=ah HCB w3 _ _ hs6 (UO.trans hsub) hI3.below;have q0:w3.cell? ⟨w.heap.size,0,none⟩=some (.slice (some ⟨GT,0,none⟩) ts.length ts.length):=(by rw[cell_of hI3.x0];rfl);have q1:w3.cell? ⟨w.heap.size,1,none⟩=some (.slice (some ⟨GC,0,none⟩) cs.length cs.length):=(by rw[cell_of hI3.x0];rfl);have q2:w3.cell? ⟨w.heap.size,2,none⟩=some (.slice (some ⟨GP,0,none⟩) np np):=(by rw[cell_of hI3.x0];rfl);have HS6:=aj hs6;have HI3:=aj hI3;have HB3:=aj hb3;clear hs6 hI3 hb3 tZ hb6 hcc hcA hbA hgA;refine oH 9 (λK hK=>?_);go_simp;refine hK.out _ _ (trivial) (af4 (by kernel_rfl) ?_ _);clear hK K;clear hS0;generalize hnn:at_+(S.length-(at_+1))=nn at HS6 hcb3 hlS;have HNN:=aj hnn;clear hnn
    go_wp2_with fail
    refine hcb3.mono ?_;rintro e w4 ⟨bv,f6,rfl,PV,VX,hb4⟩;have hI4:=(ah HI3).next hb4
    have hs4:=(ah HS6).below hb4;have VD:=(ah HSV).below ((ah HB3).trans (hb4.mono (ah HB3).size));have HI4:=aj hI4;have HS4:=aj hs4;have abt:=aj VD;have hwm:IntKind.i64.wrap ((at_:Int)-1)=(at_:Int)-1:=(by simp[IntKind.wrap,IntKind.bits,IntKind.signed];omega);cases bv
    ·have Ye:ZP ts cs (S.take at_++S.drop (at_+1)):=⟨f6,PV,λh=>by have:=VX.2 h;cases this⟩;have abu:=aj Ye;clear PV VX hb4 hI4 hs4 VD Ye hcb3 q0 q1 q2
     go_wp2_with fail
     refine⟨⟨at_,_,by rw[hlS,<-ah HNN];omega,rfl,ah HS4,UO.trans hsub,ah abu,ah HI4⟩,by simp[intOf]⟩
    ·clear PV VX hb4 hI4 hs4 VD hcb3 q0 q1 q2
     go_wp2_with fail
     refine⟨⟨at_,S,by omega,rfl,ah abt,hsub,ah HNB,ah HI4⟩,by simp[intOf]⟩
 ·have HI1:=aj hI1;have HCL:=aj yP;have HBV:=aj hbv;clear yP hbv hb1 hI1
  go_wp2_with fail
  refine af2 (v:=.slice none 0 0) (by simp[results,results95,go_sem]) rfl ⟨_,[],rfl,Or.inl ⟨rfl,rfl⟩,(ah HI1).below,Or.inl ⟨rfl,f',ah HCL,(ah HBV).1 (by trivial)⟩⟩
end Go.Proofs.YthcppbmkacbbiaaGreat
