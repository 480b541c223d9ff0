import Derived.Test.YthcppbmkacbbiabGreatWBO
set_option linter.unusedSimpArgs false
set_option maxHeartbeats 4000000
set_option maxRecDepth 100000
namespace Go.Proofs.YthcppbmkacbbiabGreat
open Go.Proofs.Tryz
open Go.RowKit Go.Maps Go.WideMaps
open aB (Key put)
attribute [local go_sem] Oper.semAt_some
theorem yw{W:World}{base e size n:Nat}{v:Value}{xs:List Value}(h:W.ownsRow base e size v n xs):∃p cap,v=.slice p n cap:=by
 rcases h.2 with⟨rfl,h0⟩|⟨g,cap,cur,rfl,_⟩
 ·subst h0;exact⟨_,_,rfl⟩
 ·exact⟨_,_,rfl⟩
theorem Le{W:World}{base:Nat}{v:Value}{C:List (Int×Nat)}(h:W.ownsRow base 79 2 v C.length (C.flatMap lH))(hn:v=.slice none 0 0↔C=[])(hne:C≠[]):∃G cap,v=.slice (some ⟨G,0,none⟩) C.length cap/\eF W G C:=by
 rcases h.2 with⟨e,_⟩|⟨g,cap,cur,rfl,hb,hgb,h1,h2,h3,h4⟩
 ·exact absurd (hn.1 e) hne
 ·refine⟨g,cap,rfl,(ad3.1 hgb).1,λi hi=>?_⟩;have hcc:∀c,c<2->cur[i*2+c]?=(lH C[i])[c]?:=λc hc=>by
   have h5:(cur.toList.take (C.length*2))[i*2+c]?=(C.flatMap lH)[i*2+c]?:=(by rw[h4]);rw[an2,af6 (by omega)]at h5;rw[show cur[i*2+c]?=cur.toList[i*2+c]? by simp,h5];exact flat_get (k:=2) (λ_=>rfl) (by decide) C i hi c hc
  rw[cell_of hgb,cell_of hgb];exact⟨hcc 0 (by decide),hcc 1 (by decide)⟩
theorem Ld{W:World}{base:Nat}{v:Value}{H:List Bool}(h:W.ownsRow base 4 1 v H.length (H.map Value.bool))(hn:v=.slice none 0 0↔H=[])(hne:H≠[]):∃G cap,v=.slice (some ⟨G,0,none⟩) H.length cap/\bY W G H:=by
 rcases h.2 with⟨e,_⟩|⟨g,cap,cur,rfl,hb,hgb,h1,h2,h3,h4⟩
 ·exact absurd (hn.1 e) hne
 ·refine⟨g,cap,rfl,(ad3.1 hgb).1,λi hi=>?_⟩;have h5:(cur.toList.take (H.length*1))[i]?=(H.map Value.bool)[i]?:=by rw[h4]
  rw[an2,af6 (by omega)]at h5;rw[cell_of hgb,show cur[i]?=cur.toList[i]? by simp,h5];simp[hi]
theorem NW(GT GC GP np:Nat)(ts:List Key)(cs:List (Int×Nat))(v:Value)(ss:List jH)(w:World)(h7:ts.length<=7)(hs:fV w v ss)(hl:ss.length<=100)(hrt:bQ w GT ts)(hrc:eF w GC cs)(hi:aB.Inv ts)(ht:∀i (hi:i<ts.length),ts[i].2.1<ts.length/\ts[i].2.2<ts.length)
 (hct:∀x∈cs,(x.1=80\/x.1=81)/\x.2<ts.length)(nD:nN ts cs (ss.map dD)) :
  Calls prog 125 #[fv GT GC GP ts.length cs.length np,v] w λe w'=>∃bv f',e=.returned (.bool bv)/\Closed ts (aX (ss.map dD)) f'/\(bv=true↔cb f' cs (ss.map dD))/\Below w.heap.size w w':=by
 obtain⟨vp,vc,rfl,hvc,hvs⟩:=hs.cells;obtain⟨i0,hin,hz0,hz1,hz2⟩:=ak7 J6;obtain⟨j0,hjn,hy0,hy1,hy2⟩:=ak7 Fv;have hok:∀s∈ss,(s.2.2.1=61->s.2.2.2.1<ts.length/\s.2.2.2.2<ts.length)/\(s.2.2.1≠61->(s.2.2.1=80\/s.2.2.1=81)/\s.2.2.2.1<cs.length):=λs hs=>by
  rcases nD (dD s) (af9.2 ⟨s,hs,rfl⟩)with⟨a,b,c⟩|⟨a,b,c⟩
  ·exact⟨λ_=>⟨b,c⟩,λh=>absurd a h⟩
  ·have a:s.2.2.1=80\/s.2.2.1=81:=a;exact⟨λh=>by omega,λ_=>⟨a,b⟩⟩
 obtain⟨w0,hw0⟩:∃w0,w.alloc (.cells #[.slice (some ⟨GT,0,none⟩) ts.length ts.length,.slice (some ⟨GC,0,none⟩) cs.length cs.length,.slice (some ⟨GP,0,none⟩) np np] 46)=w0:=⟨_,rfl⟩;have hg0:w.grownBy w0 none:=by rw[<-hw0];exact ad4 _ _ none
 have hb0:Below w.heap.size w w0:=by rw[<-hw0];exact(ag6 _ w).alloc (ad5 _) _
 have hz0':w.heap.size+1<=w0.heap.size:=by rw[<-hw0];simp
 have hx0:w0.heap[w.heap.size]?=some (.cells #[.slice (some ⟨GT,0,none⟩) ts.length ts.length,.slice (some ⟨GC,0,none⟩) cs.length cs.length,.slice (some ⟨GP,0,none⟩) np np] 46 (0,0)):=by rw[<-hw0];exact ae9 _ _
 have Zd:=wG w0 (.slice vp ss.length vc) ss ts.length (hs.below hb0) (by omega) (by omega) (λs h1 h2=>(hok s h1).1 h2);have HVS:=aj hvs;have HOK:=aj hok;have HRT:=aj hrt;have HRC:=aj hrc;have HI:=aj hi;have HT:=aj ht;have HCT:=aj hct;clear hvs hs hok hrt hrc hi ht hct nD;unfold fv
 go_enter func125,ntmps125
 go_wp2_with fail
 clear hw0;refine Zd.mono ?_;rintro e w1 ⟨b,rfl,hJ⟩;have hx1:=(hJ.below.block w.heap.size (by omega)).trans hx0;have q0:w1.cell? ⟨w.heap.size,0,none⟩=some (.slice (some ⟨GT,0,none⟩) ts.length ts.length):=by rw[cell_of hx1];rfl
 have q1:w1.cell? ⟨w.heap.size,1,none⟩=some (.slice (some ⟨GC,0,none⟩) cs.length cs.length):=by rw[cell_of hx1];rfl
 have q2:w1.cell? ⟨w.heap.size,2,none⟩=some (.slice (some ⟨GP,0,none⟩) np np):=by rw[cell_of hx1];rfl
 have yY:Below w.heap.size w w1:=hb0.trans (hJ.below.mono (by omega));have hgt:=(ah HRT).1;obtain⟨c0,hm0,hm1⟩:=hJ.m;have hlo:=hJ.lo;have hcl:=close_any GT GC GP cs.length np b c0 _ ts w1 h7 ((ah HRT).below yY hgt) (ah HI) hm0 hm1 hJ.roots (ah HT);unfold fv at hcl;have HBW:=aj yY;have HX1:=aj hx1;clear Zd hJ hm0 hm1 yY hx0 hx1
 go_wp2_with fail
 refine hcl.mono ?_;rintro e w2 ⟨⟨v2,rfl⟩,f',yX,⟨c1,hm1,_⟩,hg2⟩;have hI0:SN w b ts.length f' #[.slice (some ⟨GT,0,none⟩) ts.length ts.length,.slice (some ⟨GC,0,none⟩) cs.length cs.length,.slice (some ⟨GP,0,none⟩) np np] (wM f' cs (ss.take 0)) (xO (ss.take 0)) (.slice none 0 0) (.slice none 0 0) w2:=by
  refine⟨⟨c1,hm1⟩,by omega,(hg2.block _ (ad3.1 (ah HX1)).1 (by simp;omega)).trans (ah HX1),am9 _ _ _ _,am9 _ _ _ _,by simp[wM],by simp[xO],(ah HBW).grown hg2 (ah HBW).size (λk e=>by cases e;omega)⟩
 have Vl:=aj yX;clear hcl yX hm1 hg2 q0 q1 q2
 go_wp2_with fail
 go_loopw [6,7,18] (λv6 v7 i wr=>∃k:Nat,k<=ss.length/\i=.int .i64 k/\SN w b ts.length f' #[.slice (some ⟨GT,0,none⟩) ts.length ts.length,.slice (some ⟨GC,0,none⟩) cs.length cs.length,.slice (some ⟨GP,0,none⟩) np np] (wM f' cs (ss.take k)) (xO (ss.take k)) v6 v7 wr/\Hid (∀s∈ss.take k,s.2.2.1=61->s.2.1=false->f' s.2.2.2.1≠f' s.2.2.2.2)) (λ_ _ i _=>ss.length-(intOf i).toNat)
 case atStart=>exact⟨0,ah2 _,rfl,hI0,λs hs=>by simp at hs⟩
 case round=>
  obtain⟨k,hk,rfl,hI,hpre⟩:=hrel;clear hI0;have Xc:=U5 f' cs (ss.take k);have hll:=U4 f' cs (ss.take k);have hlH:(xO (ss.take k)).length<=(ss.take k).length:=by omega
  have HLL:=aj hll;clear hll;have htl:(ss.take k).length<=100:=af7 (List.length_take_le' _ _) hl;by_cases hlt:k<ss.length
  ·obtain⟨p6,cap6,rfl⟩:=yw hI.rc;obtain⟨p7,RI,rfl⟩:=yw hI.rh;have hbd:(k:Int)<(ss.length:Int):=(by omega);have hne:ss≠[]:=(by intro e;rw[e]at hlt;simp at hlt);obtain⟨g,off,rfl,hgl,hcs⟩:=ah HVS hne;obtain⟨d0,d1,d2,d3,d4⟩:=hcs wr hI.below k hlt;have hok:=ah HOK ss[k] (ad8 hlt);have htC:=RD (f':=f') (cs:=cs) hlt;have htH:=Rz hlt;have htk:ss.take (k+1)=ss.take k++[ss[k]]:=(by rw[ah1,ad6 hlt];rfl);have hmem:=ad8 hlt;have HTC:=aj htC;have HTH:=aj htH;have eG:=aj htk;have Jy:=aj hmem;have HIW:=aj hI;clear htC htH htk hcs hmem;generalize ss[k]=s at d0 d1 d2 d3 d4 hok HTC HTH eG Jy;obtain⟨sx,si,sc,s1,s2⟩:=s;simp only at d0 d1 d2 d3 d4 hok HTC HTH eG Jy;obtain⟨W2,hW2⟩:∃W2,(wr.alloc (.cells #[.int .i64 sx,.bool si,.int .u8 sc,.int .i64 s1,.int .i64 s2] 210)).alloc (.cells #[.int .u8 sc,.int .i64 s1,.int .i64 s2] 82)=W2:=⟨_,rfl⟩;have hgW:wr.grownBy W2 none:=(by rw[<-hW2];exact(ad4 _ _ none).trans (ad4 _ _ none));have hI2:=hI.grow hgW;have hsW:wr.heap.size+2<=W2.heap.size:=(by rw[<-hW2];simp);have hB9:W2.heap[wr.heap.size]?=some (.cells #[.int .i64 sx,.bool si,.int .u8 sc,.int .i64 s1,.int .i64 s2] 210 (0,0)):=(by rw[<-hW2,ae3 _ _ _ (by simp),ae9]);have y9:W2.heap[wr.heap.size+1]?=some (.cells #[.int .u8 sc,.int .i64 s1,.int .i64 s2] 82 (0,0)):=by
    rw[<-hW2];have:=ae9 (wr.alloc (.cells #[.int .i64 sx,.bool si,.int .u8 sc,.int .i64 s1,.int .i64 s2] 210)) (.cells #[.int .u8 sc,.int .i64 s1,.int .i64 s2] 82);simpa using this
   have hwl:w.heap.size<wr.heap.size:=(ad3.1 hI.x0).1;clear hI;by_cases hc:sc=61
   ·subst hc;rw[af6 rfl,ak9]at HTC HTH;obtain⟨o1,o2⟩:=hok.1 rfl;obtain⟨cc,hmc⟩:=hI2.j;have e9:W2.cell? ⟨wr.heap.size,1,none⟩=some (.bool si):=(by rw[cell_of hB9];rfl);have f1:W2.cell? ⟨wr.heap.size+1,0,none⟩=some (.int .u8 61):=(by rw[cell_of y9];rfl);have f2:W2.cell? ⟨wr.heap.size+1,1,none⟩=some (.int .i64 s1):=(by rw[cell_of y9];rfl);have f3:W2.cell? ⟨wr.heap.size+1,2,none⟩=some (.int .i64 s2):=(by rw[cell_of y9];rfl);have hsm:=ED W2 b ts.length cc f' s1 s2 hmc o1 o2 (by omega);cases si
    ·have HI2:=aj hI2;by_cases he:f' s1=f' s2
     ·rw[aq5 he]at hsm;have HE:=aj he;clear he hI2 hmc hB9 y9 hgW
      go_wp2_with fail
      refine hsm.mono ?_;rintro e w3 ⟨rfl,rfl⟩
      go_wp2_with fail
      refine ag3 (v:=.bool false) (by simp[results,results125,go_sem]) rfl ⟨false,f',rfl,ah Vl,⟨λh=>(by cases h),λh=>?_⟩,(ah HI2).below⟩;exact absurd (ah HE) ((Ry.1 h).1 _ (ah Jy) rfl rfl)
     ·rw[ao5 he]at hsm;have HE:=aj he;clear he hI2 hmc hB9 y9 hgW
      go_wp2_with fail
      refine hsm.mono ?_;rintro e w3 ⟨rfl,rfl⟩
      go_wp2_with fail
      refine⟨⟨k+1,hlt,by go_num,?_,?_⟩,by simp[intOf];omega⟩
      ·rw[ah HTC,ah HTH];exact ah HI2
      ·intro s hs h1 h2;rw[ah eG]at hs;rcases ag9.1 hs with hs|hs
       ·exact ah hpre s hs h1 h2
       ·rw[ag0.1 hs];exact ah HE
    ·have HI2:=aj hI2;clear hI2 hmc hsm hB9 y9 hgW
     go_wp2_with fail
     refine⟨⟨k+1,hlt,by go_num,?_,?_⟩,by simp[intOf];omega⟩
     ·rw[ah HTC,ah HTH];exact ah HI2
     ·intro s hs h1 h2;rw[ah eG]at hs;rcases ag9.1 hs with hs|hs
      ·exact ah hpre s hs h1 h2
      ·rw[ag0.1 hs]at h2;cases h2
   ·rw[af2 hc]at HTC HTH;obtain⟨h8,hs1⟩:=hok.2 hc;have aaH:(s1:Int)<(cs.length:Int):=(by omega);have hof:=(ah HCT _ (ad8 hs1)).2;have hgc:=(ah HRC).1;have WV:=((ah HRC).2 s1 hs1).2;rw[aG hs1]at HTC;generalize cs[s1].2=of at hof WV HTC;have hGC:Hid (∀W,Below w.heap.size w W->W.cell? ⟨GC,s1*2+1,none⟩=some (.int .i64 of)):=λW hW=>(hW.cell (p:=⟨GC,s1*2+1,none⟩) hgc).trans WV;have e9:W2.cell? ⟨wr.heap.size,1,none⟩=some (.bool si):=(by rw[cell_of hB9];rfl);have f1:W2.cell? ⟨wr.heap.size+1,0,none⟩=some (.int .u8 sc):=(by rw[cell_of y9];rfl);have Xq:Hid (∀W,W2.grownBy W none->Calls prog 73 #[.map (some b),.int .i64 of] W λe w'=>e=.returned (.int .i64 (f' of))/\w'=W):=λW hg=>by
     obtain⟨cc,hmc⟩:=hI2.j;exact o9 W b ts.length cc f' of (hmc.kept (hg.block b hmc.lt (by simp))) hof (by omega)
    generalize f' of=fo at Xq HTC;have HI2:=aj hI2;have HB9:=aj hB9;have Vm:=aj y9;have adg:(sc != 61)=true:=(by simpa using hc);clear hI2 hB9 y9 hgW WV
    go_wp2_with fail
    have hgD:W2.grownBy W2.drew none:=⟨rfl,rfl,rfl,ad5 _,λj hj _=>rfl⟩;have hIX:=(ah HI2);have hpl:wr.heap.size+1<W2.heap.size:=(ad3.1 (ah Vm)).1;have hfl:w.heap.size<W2.heap.size:=(ad3.1 hIX.x0).1;have hSt:Hid (∀W',W'.heap[wr.heap.size+1]?=W2.heap[wr.heap.size+1]?/\W'.heap[w.heap.size]?=W2.heap[w.heap.size]?/\Below w.heap.size w W'->W'.cell? ⟨wr.heap.size+1,0,none⟩=some (.int .u8 sc)/\W'.cell? ⟨wr.heap.size+1,1,none⟩=some (.int .i64 s1)/\W'.cell? ⟨w.heap.size,1,none⟩=some (.slice (some ⟨GC,0,none⟩) cs.length cs.length)/\W'.cell? ⟨GC,s1*2+1,none⟩=some (.int .i64 of)):=λW' ⟨h1,h2,h3⟩=>by
     refine⟨?_,?_,?_,ah hGC W' h3⟩
     ·rw[cell_of (h1.trans (ah Vm))];rfl
     ·rw[cell_of (h1.trans (ah Vm))];rfl
     ·rw[cell_of (h2.trans hIX.x0)];rfl
    have hkeep:Hid (∀W3 W4,W2.grownBy W3 none->W3.grownBy W4 (Value.slice p6 (wM f' cs (ss.take k)).length cap6).ownBlock->W4.heap[wr.heap.size+1]?=W2.heap[wr.heap.size+1]?/\W4.heap[w.heap.size]?=W2.heap[w.heap.size]?/\W4.heap[wr.heap.size]?=W2.heap[wr.heap.size]?/\Below w.heap.size w W4):=λW3 W4 hg3 hg4=>by
     have hb:=lW hIX.rc;have kp:∀(j:Nat) (cur:Array Value) (t:TypeId) (x:Nat×Nat),W2.heap[j]?=some (.cells cur t x)->t≠79->W4.heap[j]?=W2.heap[j]?:=λj cur t x h1 h2=>by
      have hjl:=(ad3.1 h1).1;refine(hg4.block j (af5 hjl hg3.size) (λe=>?_)).trans (hg3.block j hjl (by simp));obtain⟨_,cur',hcur⟩:=hb j e.symm;rw[h1]at hcur;cases hcur;exact h2 rfl
     refine⟨kp _ _ _ _ (ah Vm) (by decide),kp _ _ _ _ hIX.x0 (by decide),kp _ _ _ _ (ah HB9) (by decide),?_⟩;have hb3:=hIX.below.grown hg3 hIX.below.size (λk e=>by cases e);exact hb3.grown hg4 hb3.size (λk e=>(hb k e).1)
    have hlow:=hIX.below;clear hIX;have hS0:W2.drew.heap[wr.heap.size+1]?=W2.heap[wr.heap.size+1]?/\W2.drew.heap[w.heap.size]?=W2.heap[w.heap.size]?/\Below w.heap.size w W2.drew:=⟨rfl,rfl,hlow.drew⟩;refine ah0 (S:=λW'=>W'.heap[wr.heap.size+1]?=W2.heap[wr.heap.size+1]?/\W'.heap[w.heap.size]?=W2.heap[w.heap.size]?/\Below w.heap.size w W') rfl ?_;simp only[ae2,ae1,ae8,Nat.reduceAdd,ae0,ad9,ae4,ae7,ae6];change wpAnyH prog .any _ _ _ _ _ _ W2.drew;refine tH 0 (.slice p6 (wM f' cs (ss.take k)).length cap6) (λw' hS=>?_) hS0 ?_
    ·go_simp
    simp only[aC];refine tH 1 (.pointer (some ⟨wr.heap.size+1,0,none⟩)) (λw' hS=>?_) hS0 ?_
    ·go_simp
    simp only[aC];refine tH 2 (.int .u8 sc) (λw' hS=>?_) hS0 ?_
    ·obtain⟨s1',s2',s3',s4'⟩:=ah hSt _ hS;go_simp
    simp only[aC];refine tH 3 (.map (some b)) (λw' hS=>?_) hS0 ?_
    ·go_simp
    simp only[aC];refine tH 4 (.pointer (some ⟨w.heap.size,1,none⟩)) (λw' hS=>?_) hS0 ?_
    ·go_simp
    simp only[aC];refine tH 5 (.slice (some ⟨GC,0,none⟩) cs.length cs.length) (λw' hS=>?_) hS0 ?_
    ·obtain⟨s1',s2',s3',s4'⟩:=ah hSt _ hS;go_simp
    simp only[aC];refine tH 6 (.pointer (some ⟨wr.heap.size+1,1,none⟩)) (λw' hS=>?_) hS0 ?_
    ·go_simp
    simp only[aC];refine tH 7 (.int .i64 s1) (λw' hS=>?_) hS0 ?_
    ·obtain⟨s1',s2',s3',s4'⟩:=ah hSt _ hS;go_simp
    simp only[aC];refine tH 8 (.pointer (some ⟨GC,s1*2,none⟩)) (λw' hS=>?_) hS0 ?_
    ·go_simp
    simp only[aC];refine tH 9 (.pointer (some ⟨GC,s1*2+1,none⟩)) (λw' hS=>?_) hS0 ?_
    ·go_simp
    simp only[aC];refine tH 10 (.int .i64 of) (λw' hS=>?_) hS0 ?_
    ·obtain⟨s1',s2',s3',s4'⟩:=ah hSt _ hS;go_simp
    simp only[aC];refine oH 11 (λK hK=>?_);go_simp;refine(ah Xq _ hgD).mono ?_;rintro e w3 ⟨rfl,rfl⟩;replace hS0:=hS0;refine hK.out _ _ hS0 ?_;clear hK K;refine tH 12 (.agg #[.int .u8 sc,.int .i64 fo]) (λw' hS=>?_) hS0 ?_
    ·go_simp
    simp only[aC];have hgA:W2.grownBy (W2.drew.alloc (.cells #[.int .u8 sc,.int .i64 fo] 79)) none:=hgD.trans (ad4 _ _ none);refine oH 13 (λK hK=>?_);go_simp;replace hS0:=And.intro (hgA.block _ hpl (by simp)) (And.intro (hgA.block _ hfl (by simp)) (hlow.grown hgA hlow.size (λk e=>by cases e)));refine hK.out _ _ hS0 ?_;clear hK K;refine oH 14 (λK hK=>?_);refine kV (.tmp 27) (.tmp 40) 43 rfl w.heap.size 79 i0 _ 2 16 underlying43 hin hz0 hz1 hz2 rfl (by decide) (.slice p6 (wM f' cs (ss.take k)).length cap6) (wM f' cs (ss.take k)).length ((wM f' cs (ss.take k)).flatMap lH) rfl (by exact aq3 (by exact(ah HI2).rc) _) ⟨W2.heap.size,0,none⟩ 1 1 (lH (sc,fo)) rfl rfl (EW _ _ _ _ _ rfl) (O6 _) (by unfold maxLen;omega) (by omega) (by simp[World.drew];omega) ?_;intro v' w3 hown' hg3;obtain⟨g',cap',hv'⟩:=dL hown' (al7 _);subst hv';obtain⟨k1,k2,k3,k4⟩:=ah hkeep _ _ hgA hg3;replace hS0:=And.intro k1 (And.intro k2 k4);refine hK.out _ _ hS0 ?_;clear hK K;have hI3:=((ah HI2).grow hgA).ab8 (x:=(sc,fo)) hg3 hown' (by simp);have e9':w3.cell? ⟨wr.heap.size,1,none⟩=some (.bool si):=(ae5 k3).trans e9;have HI3:=aj hI3;clear hI3 k1 k2 k3 k4 hown' hg3 hkeep;refine oH 15 (λK hK=>?_);go_simp;refine hK.out _ _ (hS0) (ag5 (by kernel_rfl) ?_ _);clear hK K;clear hS0 hSt Xq hgA hgD
    go_wp2_with (at_builtin;refine am1 _ rfl _ _ 54 rfl w.heap.size 4 j0 (.bool false) 1 1 underlying54 hjn hy0 hy1 hy2 rfl (by decide) (.slice p7 (xO (ss.take k)).length RI) (xO (ss.take k)).length ((xO (ss.take k)).map Value.bool) rfl ((ah HI3).rh.alloc _) ⟨w3.heap.size,0,none⟩ 1 1 [.bool si] rfl rfl (EX _ _ _ _ rfl) (Yn _) (by unfold maxLen;omega) (by omega) (by have:=(ah HI3).below.size;simp;omega) ?_;intro v2 w4 hown2 hg4 Vy UA;obtain⟨g2,cap2,hv2⟩:=dL hown2 (al7 _);subst hv2)
    have hI4:=((ah HI3).grow (ad4 _ _ none)).appH (x:=si) hg4 hown2 (by simp);refine⟨⟨k+1,hlt,by go_num,?_,?_⟩,by simp[intOf];omega⟩
    ·rw[ah HTC,ah HTH];exact hI4
    ·intro s hs h1 h2;rw[ah eG]at hs;rcases ag9.1 hs with hs|hs
     ·exact ah hpre s hs h1 h2
     ·rw[ag0.1 hs]at h1;exact absurd h1 hc
  ·have hkk:k=ss.length:=(by omega);have hbd:¬(k:Int)<(ss.length:Int):=(by omega);have hts:ss.take k=ss:=(by rw[hkk,ai7]);rw[hts]at hI hpre HLL Xc;clear hkk hts;have hfin:Hid (∀bv,(bv=true↔∀p∈aO (wM f' cs ss) (wM f' cs ss).length,(xO ss).getD p.1 false=(xO ss).getD p.2 false)->(bv=true↔cb f' cs (ss.map dD))):=λbv h=>by
    rw[h,Ry];exact⟨λh=>⟨ah hpre,h⟩,λh=>h.2⟩
   have hll:=ah HLL;have hfo:∀x∈wM f' cs ss,∃l,keyOf prog 79 (iT x)=some l:=λx hx=>by
    obtain⟨s,hs,rfl⟩:=af9.1 hx;obtain⟨hs,h61⟩:=ai3.1 hs;have h61:s.2.2.1≠61:=(by simpa using h61);obtain⟨h8,h1⟩:=(ah HOK s hs).2 h61;have h2:=(ah HCT _ (ad8 h1)).2;have h3:=((ah Vl).roots _ h2).1;exact Uj _ (by simp only;omega) (by simp only;rw[aG h1];omega)
   by_cases hC:wM f' cs ss=[]
   ·have hH:xO ss=[]:=ah4 (by rw[hll,hC];rfl);have e6:=hI.nc.2 hC;have e7:=hI.nh.2 hH;subst e6;subst e7;have HB:=aj hI.below;have HC0:=aj hC;have hag:=N9 wr;clear hI Xc hfo hll HLL hC hH
    go_wp2_with fail
    refine hag.mono ?_;rintro e w3 ⟨rfl,hb3⟩;have HB3:=aj hb3;clear hb3 hag
    go_wp2_with fail
    refine ag3 (v:=.bool true) (by simp[results,results125,go_sem]) rfl ⟨true,f',rfl,ah Vl,?_,(ah HB).trans ((ah HB3).mono (ah HB).size)⟩;exact ah hfin true ⟨λ_ p hp=>(by rw[ah HC0]at hp;simp[aO]at hp),λ_=>rfl⟩
   ·have hH:xO ss≠[]:=λe=>hC (ah4 (by rw[<-hll,e];rfl));obtain⟨G6,cap6,rfl,hr6⟩:=Le hI.rc hI.nc hC;obtain⟨G7,RI,rfl,hr7⟩:=Ld hI.rh hI.nh hH;have hag:=BN G6 cap6 G7 RI (wM f' cs ss) (xO ss) wr (by omega) hll hr6 hfo hr7;have HB:=aj hI.below;clear hI Xc hfo hll HLL hC hH hr6 hr7
    go_wp2_with fail
    refine hag.mono ?_;rintro e w3 ⟨rfl,hb3⟩;have HB3:=aj hb3;clear hb3 hag
    go_wp2_with fail
    refine ag3 (v:=.bool (decide (∀p∈aO (wM f' cs ss) (wM f' cs ss).length,(xO ss).getD p.1 false=(xO ss).getD p.2 false))) (by simp[results,results125,go_sem]) rfl ⟨_,f',rfl,ah Vl,ah hfin _ (by simp),(ah HB).trans ((ah HB3).mono (ah HB).size)⟩
end Go.Proofs.YthcppbmkacbbiabGreat
