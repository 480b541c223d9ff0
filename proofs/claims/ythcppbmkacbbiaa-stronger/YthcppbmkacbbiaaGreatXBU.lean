import Derived.Test.YthcppbmkacbbiaaGreatXBS
set_option linter.unusedSimpArgs false
set_option maxHeartbeats 4000000
set_option maxRecDepth 100000
namespace Go.Proofs.YthcppbmkacbbiaaGreat
open Go.Proofs.Tryz
open Go.RowKit Go.Maps Go.WideMaps
open aB (Key put)
attribute [local go_sem] Oper.semAt_some
theorem xQ{W:World}{base e size n:Nat}{v:Value}{xs:List Value}(h:W.ownsRow base e size v n xs):∃p cap,v=.slice p n cap:=by
 rcases h.2 with⟨rfl,h0⟩|⟨g,cap,cur,rfl,_⟩
 ·subst h0;exact⟨_,_,rfl⟩
 ·exact⟨_,_,rfl⟩
theorem J7{W:World}{base:Nat}{v:Value}{C:List (Int×Nat)}(h:W.ownsRow base 90 2 v C.length (C.flatMap lC))(hn:v=.slice none 0 0↔C=[])(hne:C≠[]):∃G cap,v=.slice (some ⟨G,0,none⟩) C.length cap/\eF W G C:=by
 rcases h.2 with⟨e,_⟩|⟨g,cap,cur,rfl,hb,hgb,h1,h2,h3,h4⟩
 ·exact absurd (hn.1 e) hne
 ·refine⟨g,cap,rfl,(ab1.1 hgb).1,λi hi=>?_⟩;have hcc:∀c,c<2->cur[i*2+c]?=(lC C[i])[c]?:=λc hc=>by
   have h5:(cur.toList.take (C.length*2))[i*2+c]?=(C.flatMap lC)[i*2+c]?:=(by rw[h4]);rw[ak9,ad3 (by omega)]at h5;rw[show cur[i*2+c]?=cur.toList[i*2+c]? by simp,h5];exact flat_get (k:=2) (λ_=>rfl) (by decide) C i hi c hc
  rw[cell_of hgb,cell_of hgb];exact⟨hcc 0 (by decide),hcc 1 (by decide)⟩
theorem J6{W:World}{base:Nat}{v:Value}{H:List Bool}(h:W.ownsRow base 4 1 v H.length (H.map Value.bool))(hn:v=.slice none 0 0↔H=[])(hne:H≠[]):∃G cap,v=.slice (some ⟨G,0,none⟩) H.length cap/\cZ W G H:=by
 rcases h.2 with⟨e,_⟩|⟨g,cap,cur,rfl,hb,hgb,h1,h2,h3,h4⟩
 ·exact absurd (hn.1 e) hne
 ·refine⟨g,cap,rfl,(ab1.1 hgb).1,λi hi=>?_⟩;have h5:(cur.toList.take (H.length*1))[i]?=(H.map Value.bool)[i]?:=by rw[h4]
  rw[ak9,ad3 (by omega)]at h5;rw[cell_of hgb,show cur[i]?=cur.toList[i]? by simp,h5];simp[hi]
theorem MV(GT GC GP np:Nat)(ts:List Key)(cs:List (Int×Nat))(v:Value)(ss:List jB)(w:World)(h7:ts.length<=7)(hs:fV w v ss)(hl:ss.length<=100)(hrt:bU w GT ts)(hrc:eF w GC cs)(hi:aB.Inv ts)(ht:∀i (hi:i<ts.length),ts[i].2.1<ts.length/\ts[i].2.2<ts.length)
 (hct:∀x∈cs,(x.1=80\/x.1=81)/\x.2<ts.length)(mZ:nG ts cs (ss.map dB)) :
  Calls prog 146 #[fv GT GC GP ts.length cs.length np,v] w λe w'=>∃bv f',e=.returned (.bool bv)/\Closed ts (aW (ss.map dB)) f'/\(bv=true↔cb f' cs (ss.map dB))/\Below w.heap.size w w':=by
 obtain⟨vp,vc,rfl,hvc,hvs⟩:=hs.cells;obtain⟨i0,hin,hz0,hz1,hz2⟩:=ai8 Jr;obtain⟨j0,hjn,hy0,hy1,hy2⟩:=ai8 Jq;have hok:∀s∈ss,(s.2.2.1=61->s.2.2.2.1<ts.length/\s.2.2.2.2<ts.length)/\(s.2.2.1≠61->(s.2.2.1=80\/s.2.2.1=81)/\s.2.2.2.1<cs.length):=λs hs=>by
  rcases mZ (dB s) (ad9.2 ⟨s,hs,rfl⟩)with⟨a,b,c⟩|⟨a,b,c⟩
  ·exact⟨λ_=>⟨b,c⟩,λh=>absurd a h⟩
  ·have a:s.2.2.1=80\/s.2.2.1=81:=a;exact⟨λh=>by omega,λ_=>⟨a,b⟩⟩
 obtain⟨w0,hw0⟩:∃w0,w.alloc (.cells #[.slice (some ⟨GT,0,none⟩) ts.length ts.length,.slice (some ⟨GC,0,none⟩) cs.length cs.length,.slice (some ⟨GP,0,none⟩) np np] 54)=w0:=⟨_,rfl⟩;have hg0:w.grownBy w0 none:=by rw[<-hw0];exact ab2 _ _ none
 have hb0:Below w.heap.size w w0:=by rw[<-hw0];exact(af0 _ w).alloc (ab3 _) _
 have hz0':w.heap.size+1<=w0.heap.size:=by rw[<-hw0];simp
 have hx0:w0.heap[w.heap.size]?=some (.cells #[.slice (some ⟨GT,0,none⟩) ts.length ts.length,.slice (some ⟨GC,0,none⟩) cs.length cs.length,.slice (some ⟨GP,0,none⟩) np np] 54 (0,0)):=by rw[<-hw0];exact ac4 _ _
 have Ya:=vO w0 (.slice vp ss.length vc) ss ts.length (hs.below hb0) (by omega) (by omega) (λs h1 h2=>(hok s h1).1 h2);have HVS:=aj hvs;have HOK:=aj hok;have HRT:=aj hrt;have HRC:=aj hrc;have HI:=aj hi;have HT:=aj ht;have HCT:=aj hct;clear hvs hs hok hrt hrc hi ht hct mZ;unfold fv
 go_enter func146,ntmps146
 go_wp2_with fail
 clear hw0;refine Ya.mono ?_;rintro e w1 ⟨b,rfl,hJ⟩;have hx1:=(hJ.below.block w.heap.size (by omega)).trans hx0;have q0:w1.cell? ⟨w.heap.size,0,none⟩=some (.slice (some ⟨GT,0,none⟩) ts.length ts.length):=by rw[cell_of hx1];rfl
 have q1:w1.cell? ⟨w.heap.size,1,none⟩=some (.slice (some ⟨GC,0,none⟩) cs.length cs.length):=by rw[cell_of hx1];rfl
 have q2:w1.cell? ⟨w.heap.size,2,none⟩=some (.slice (some ⟨GP,0,none⟩) np np):=by rw[cell_of hx1];rfl
 have yI:Below w.heap.size w w1:=hb0.trans (hJ.below.mono (by omega));have hgt:=(ah HRT).1;obtain⟨c0,hm0,hm1⟩:=hJ.m;have hlo:=hJ.lo;have hcl:=close_any GT GC GP cs.length np b c0 _ ts w1 h7 ((ah HRT).below yI hgt) (ah HI) hm0 hm1 hJ.roots (ah HT);unfold fv at hcl;have HBW:=aj yI;have HX1:=aj hx1;clear Ya hJ hm0 hm1 yI hx0 hx1
 go_wp2_with fail
 refine hcl.mono ?_;rintro e w2 ⟨⟨v2,rfl⟩,f',yH,⟨c1,hm1,_⟩,hg2⟩;have hI0:QZ w b ts.length f' #[.slice (some ⟨GT,0,none⟩) ts.length ts.length,.slice (some ⟨GC,0,none⟩) cs.length cs.length,.slice (some ⟨GP,0,none⟩) np np] (wu f' cs (ss.take 0)) (xB (ss.take 0)) (.slice none 0 0) (.slice none 0 0) w2:=by
  refine⟨⟨c1,hm1⟩,by omega,(hg2.block _ (ab1.1 (ah HX1)).1 (by simp;omega)).trans (ah HX1),ak5 _ _ _ _,ak5 _ _ _ _,by simp[wu],by simp[xB],(ah HBW).grown hg2 (ah HBW).size (λk e=>by cases e;omega)⟩
 have Ue:=aj yH;clear hcl yH hm1 hg2 q0 q1 q2
 go_wp2_with fail
 go_loopw [6,7,18] (λv6 v7 i wr=>∃k:Nat,k<=ss.length/\i=.int .i64 k/\QZ w b ts.length f' #[.slice (some ⟨GT,0,none⟩) ts.length ts.length,.slice (some ⟨GC,0,none⟩) cs.length cs.length,.slice (some ⟨GP,0,none⟩) np np] (wu f' cs (ss.take k)) (xB (ss.take k)) v6 v7 wr/\Hid (∀s∈ss.take k,s.2.2.1=61->s.2.1=false->f' s.2.2.2.1≠f' s.2.2.2.2)) (λ_ _ i _=>ss.length-(intOf i).toNat)
 case atStart=>exact⟨0,af4 _,rfl,hI0,λs hs=>by simp at hs⟩
 case round=>
  obtain⟨k,hk,rfl,hI,hpre⟩:=hrel;clear hI0;have Vx:=TQ f' cs (ss.take k);have hll:=TP f' cs (ss.take k);have hlH:(xB (ss.take k)).length<=(ss.take k).length:=by omega
  have HLL:=aj hll;clear hll;have htl:(ss.take k).length<=100:=ad6 (List.length_take_le' _ _) hl;by_cases hlt:k<ss.length
  ·obtain⟨p6,cap6,rfl⟩:=xQ hI.rc;obtain⟨p7,QA,rfl⟩:=xQ hI.rh;have hbd:(k:Int)<(ss.length:Int):=(by omega);have hne:ss≠[]:=(by intro e;rw[e]at hlt;simp at hlt);obtain⟨g,off,rfl,hgl,hcs⟩:=ah HVS hne;obtain⟨d0,d1,d2,d3,d4⟩:=hcs wr hI.below k hlt;have hok:=ah HOK ss[k] (ab5 hlt);have htC:=Qz (f':=f') (cs:=cs) hlt;have htH:=Qy hlt;have htk:ss.take (k+1)=ss.take k++[ss[k]]:=(by rw[af6,ab4 hlt];rfl);have hmem:=ab5 hlt;have HTC:=aj htC;have HTH:=aj htH;have fE:=aj htk;have IL:=aj hmem;have HIW:=aj hI;clear htC htH htk hcs hmem;generalize ss[k]=s at d0 d1 d2 d3 d4 hok HTC HTH fE IL;obtain⟨sx,si,sc,s1,s2⟩:=s;simp only at d0 d1 d2 d3 d4 hok HTC HTH fE IL;obtain⟨W2,hW2⟩:∃W2,(wr.alloc (.cells #[.int .i64 sx,.bool si,.int .u8 sc,.int .i64 s1,.int .i64 s2] 224)).alloc (.cells #[.int .u8 sc,.int .i64 s1,.int .i64 s2] 93)=W2:=⟨_,rfl⟩;have hgW:wr.grownBy W2 none:=(by rw[<-hW2];exact(ab2 _ _ none).trans (ab2 _ _ none));have hI2:=hI.grow hgW;have hsW:wr.heap.size+2<=W2.heap.size:=(by rw[<-hW2];simp);have hB9:W2.heap[wr.heap.size]?=some (.cells #[.int .i64 sx,.bool si,.int .u8 sc,.int .i64 s1,.int .i64 s2] 224 (0,0)):=(by rw[<-hW2,ac1 _ _ _ (by simp),ac4]);have yN:W2.heap[wr.heap.size+1]?=some (.cells #[.int .u8 sc,.int .i64 s1,.int .i64 s2] 93 (0,0)):=by
    rw[<-hW2];have:=ac4 (wr.alloc (.cells #[.int .i64 sx,.bool si,.int .u8 sc,.int .i64 s1,.int .i64 s2] 224)) (.cells #[.int .u8 sc,.int .i64 s1,.int .i64 s2] 93);simpa using this
   have hwl:w.heap.size<wr.heap.size:=(ab1.1 hI.x0).1;clear hI;by_cases hc:sc=61
   ·subst hc;rw[ad3 rfl,ai7]at HTC HTH;obtain⟨o1,o2⟩:=hok.1 rfl;obtain⟨cc,hmc⟩:=hI2.j;have e9:W2.cell? ⟨wr.heap.size,1,none⟩=some (.bool si):=(by rw[cell_of hB9];rfl);have f1:W2.cell? ⟨wr.heap.size+1,0,none⟩=some (.int .u8 61):=(by rw[cell_of yN];rfl);have f2:W2.cell? ⟨wr.heap.size+1,1,none⟩=some (.int .i64 s1):=(by rw[cell_of yN];rfl);have f3:W2.cell? ⟨wr.heap.size+1,2,none⟩=some (.int .i64 s2):=(by rw[cell_of yN];rfl);have hsm:=D7 W2 b ts.length cc f' s1 s2 hmc o1 o2 (by omega);cases si
    ·have HI2:=aj hI2;by_cases he:f' s1=f' s2
     ·rw[an6 he]at hsm;have HE:=aj he;clear he hI2 hmc hB9 yN hgW
      go_wp2_with fail
      refine hsm.mono ?_;rintro e w3 ⟨rfl,rfl⟩
      go_wp2_with fail
      refine ae3 (v:=.bool false) (by simp[results,results146,go_sem]) rfl ⟨false,f',rfl,ah Ue,⟨λh=>(by cases h),λh=>?_⟩,(ah HI2).below⟩;exact absurd (ah HE) ((Qx.1 h).1 _ (ah IL) rfl rfl)
     ·rw[am1 he]at hsm;have HE:=aj he;clear he hI2 hmc hB9 yN hgW
      go_wp2_with fail
      refine hsm.mono ?_;rintro e w3 ⟨rfl,rfl⟩
      go_wp2_with fail
      refine⟨⟨k+1,hlt,by go_num,?_,?_⟩,by simp[intOf];omega⟩
      ·rw[ah HTC,ah HTH];exact ah HI2
      ·intro s hs h1 h2;rw[ah fE]at hs;rcases ae6.1 hs with hs|hs
       ·exact ah hpre s hs h1 h2
       ·rw[ad8.1 hs];exact ah HE
    ·have HI2:=aj hI2;clear hI2 hmc hsm hB9 yN hgW
     go_wp2_with fail
     refine⟨⟨k+1,hlt,by go_num,?_,?_⟩,by simp[intOf];omega⟩
     ·rw[ah HTC,ah HTH];exact ah HI2
     ·intro s hs h1 h2;rw[ah fE]at hs;rcases ae6.1 hs with hs|hs
      ·exact ah hpre s hs h1 h2
      ·rw[ad8.1 hs]at h2;cases h2
   ·rw[ac2 hc]at HTC HTH;obtain⟨h8,hs1⟩:=hok.2 hc;have ZM:(s1:Int)<(cs.length:Int):=(by omega);have hof:=(ah HCT _ (ab5 hs1)).2;have hgc:=(ah HRC).1;have Vq:=((ah HRC).2 s1 hs1).2;rw[aG hs1]at HTC;generalize cs[s1].2=of at hof Vq HTC;have hGC:Hid (∀W,Below w.heap.size w W->W.cell? ⟨GC,s1*2+1,none⟩=some (.int .i64 of)):=λW hW=>(hW.cell (p:=⟨GC,s1*2+1,none⟩) hgc).trans Vq;have e9:W2.cell? ⟨wr.heap.size,1,none⟩=some (.bool si):=(by rw[cell_of hB9];rfl);have f1:W2.cell? ⟨wr.heap.size+1,0,none⟩=some (.int .u8 sc):=(by rw[cell_of yN];rfl);have VL:Hid (∀W,W2.grownBy W none->Calls prog 82 #[.map (some b),.int .i64 of] W λe w'=>e=.returned (.int .i64 (f' of))/\w'=W):=λW hg=>by
     obtain⟨cc,hmc⟩:=hI2.j;exact oQ W b ts.length cc f' of (hmc.kept (hg.block b hmc.lt (by simp))) hof (by omega)
    generalize f' of=fo at VL HTC;have HI2:=aj hI2;have HB9:=aj hB9;have Uf:=aj yN;have abS:(sc != 61)=true:=(by simpa using hc);clear hI2 hB9 yN hgW Vq
    go_wp2_with fail
    have hgD:W2.grownBy W2.drew none:=⟨rfl,rfl,rfl,ab3 _,λj hj _=>rfl⟩;have hIX:=(ah HI2);have hpl:wr.heap.size+1<W2.heap.size:=(ab1.1 (ah Uf)).1;have hfl:w.heap.size<W2.heap.size:=(ab1.1 hIX.x0).1;have hSt:Hid (∀W',W'.heap[wr.heap.size+1]?=W2.heap[wr.heap.size+1]?/\W'.heap[w.heap.size]?=W2.heap[w.heap.size]?/\Below w.heap.size w W'->W'.cell? ⟨wr.heap.size+1,0,none⟩=some (.int .u8 sc)/\W'.cell? ⟨wr.heap.size+1,1,none⟩=some (.int .i64 s1)/\W'.cell? ⟨w.heap.size,1,none⟩=some (.slice (some ⟨GC,0,none⟩) cs.length cs.length)/\W'.cell? ⟨GC,s1*2+1,none⟩=some (.int .i64 of)):=λW' ⟨h1,h2,h3⟩=>by
     refine⟨?_,?_,?_,ah hGC W' h3⟩
     ·rw[cell_of (h1.trans (ah Uf))];rfl
     ·rw[cell_of (h1.trans (ah Uf))];rfl
     ·rw[cell_of (h2.trans hIX.x0)];rfl
    have hkeep:Hid (∀W3 W4,W2.grownBy W3 none->W3.grownBy W4 (Value.slice p6 (wu f' cs (ss.take k)).length cap6).ownBlock->W4.heap[wr.heap.size+1]?=W2.heap[wr.heap.size+1]?/\W4.heap[w.heap.size]?=W2.heap[w.heap.size]?/\W4.heap[wr.heap.size]?=W2.heap[wr.heap.size]?/\Below w.heap.size w W4):=λW3 W4 hg3 hg4=>by
     have hb:=lS hIX.rc;have kp:∀(j:Nat) (cur:Array Value) (t:TypeId) (x:Nat×Nat),W2.heap[j]?=some (.cells cur t x)->t≠90->W4.heap[j]?=W2.heap[j]?:=λj cur t x h1 h2=>by
      have hjl:=(ab1.1 h1).1;refine(hg4.block j (ac7 hjl hg3.size) (λe=>?_)).trans (hg3.block j hjl (by simp));obtain⟨_,cur',hcur⟩:=hb j e.symm;rw[h1]at hcur;cases hcur;exact h2 rfl
     refine⟨kp _ _ _ _ (ah Uf) (by decide),kp _ _ _ _ hIX.x0 (by decide),kp _ _ _ _ (ah HB9) (by decide),?_⟩;have hb3:=hIX.below.grown hg3 hIX.below.size (λk e=>by cases e);exact hb3.grown hg4 hb3.size (λk e=>(hb k e).1)
    have hlow:=hIX.below;clear hIX;have hS0:W2.drew.heap[wr.heap.size+1]?=W2.heap[wr.heap.size+1]?/\W2.drew.heap[w.heap.size]?=W2.heap[w.heap.size]?/\Below w.heap.size w W2.drew:=⟨rfl,rfl,hlow.drew⟩;refine ae9 (S:=λW'=>W'.heap[wr.heap.size+1]?=W2.heap[wr.heap.size+1]?/\W'.heap[w.heap.size]?=W2.heap[w.heap.size]?/\Below w.heap.size w W') rfl ?_;simp only[ac0,ab9,ac9,Nat.reduceAdd,ab8,ab7,ac3,ac6,ac5];change wpAnyH prog .any _ _ _ _ _ _ W2.drew;refine tH 0 (.slice p6 (wu f' cs (ss.take k)).length cap6) (λw' hS=>?_) hS0 ?_
    ·go_simp
    simp only[aC];refine tH 1 (.pointer (some ⟨wr.heap.size+1,0,none⟩)) (λw' hS=>?_) hS0 ?_
    ·go_simp
    simp only[aC];refine tH 2 (.int .u8 sc) (λw' hS=>?_) hS0 ?_
    ·obtain⟨s1',s2',s3',s4'⟩:=ah hSt _ hS;go_simp
    simp only[aC];refine tH 3 (.map (some b)) (λw' hS=>?_) hS0 ?_
    ·go_simp
    simp only[aC];refine tH 4 (.pointer (some ⟨w.heap.size,1,none⟩)) (λw' hS=>?_) hS0 ?_
    ·go_simp
    simp only[aC];refine tH 5 (.slice (some ⟨GC,0,none⟩) cs.length cs.length) (λw' hS=>?_) hS0 ?_
    ·obtain⟨s1',s2',s3',s4'⟩:=ah hSt _ hS;go_simp
    simp only[aC];refine tH 6 (.pointer (some ⟨wr.heap.size+1,1,none⟩)) (λw' hS=>?_) hS0 ?_
    ·go_simp
    simp only[aC];refine tH 7 (.int .i64 s1) (λw' hS=>?_) hS0 ?_
    ·obtain⟨s1',s2',s3',s4'⟩:=ah hSt _ hS;go_simp
    simp only[aC];refine tH 8 (.pointer (some ⟨GC,s1*2,none⟩)) (λw' hS=>?_) hS0 ?_
    ·go_simp
    simp only[aC];refine tH 9 (.pointer (some ⟨GC,s1*2+1,none⟩)) (λw' hS=>?_) hS0 ?_
    ·go_simp
    simp only[aC];refine tH 10 (.int .i64 of) (λw' hS=>?_) hS0 ?_
    ·obtain⟨s1',s2',s3',s4'⟩:=ah hSt _ hS;go_simp
    simp only[aC];refine oH 11 (λK hK=>?_);go_simp;refine(ah VL _ hgD).mono ?_;rintro e w3 ⟨rfl,rfl⟩;replace hS0:=hS0;refine hK.out _ _ hS0 ?_;clear hK K;refine tH 12 (.agg #[.int .u8 sc,.int .i64 fo]) (λw' hS=>?_) hS0 ?_
    ·go_simp
    simp only[aC];have hgA:W2.grownBy (W2.drew.alloc (.cells #[.int .u8 sc,.int .i64 fo] 90)) none:=hgD.trans (ab2 _ _ none);refine oH 13 (λK hK=>?_);go_simp;replace hS0:=And.intro (hgA.block _ hpl (by simp)) (And.intro (hgA.block _ hfl (by simp)) (hlow.grown hgA hlow.size (λk e=>by cases e)));refine hK.out _ _ hS0 ?_;clear hK K;refine oH 14 (λK hK=>?_);refine kQ (.tmp 27) (.tmp 40) 51 rfl w.heap.size 90 i0 _ 2 16 underlying51 hin hz0 hz1 hz2 rfl (by decide) (.slice p6 (wu f' cs (ss.take k)).length cap6) (wu f' cs (ss.take k)).length ((wu f' cs (ss.take k)).flatMap lC) rfl (by exact an5 (by exact(ah HI2).rc) _) ⟨W2.heap.size,0,none⟩ 1 1 (lC (sc,fo)) rfl rfl (Eo _ _ _ _ _ rfl) (Og _) (by unfold maxLen;omega) (by omega) (by simp[World.drew];omega) ?_;intro v' w3 hown' hg3;obtain⟨g',cap',hv'⟩:=dL hown' (aj1 _);subst hv';obtain⟨k1,k2,k3,k4⟩:=ah hkeep _ _ hgA hg3;replace hS0:=And.intro k1 (And.intro k2 k4);refine hK.out _ _ hS0 ?_;clear hK K;have hI3:=((ah HI2).grow hgA).aaN (x:=(sc,fo)) hg3 hown' (by simp);have e9':w3.cell? ⟨wr.heap.size,1,none⟩=some (.bool si):=(ac8 k3).trans e9;have HI3:=aj hI3;clear hI3 k1 k2 k3 k4 hown' hg3 hkeep;refine oH 15 (λK hK=>?_);go_simp;refine hK.out _ _ (hS0) (ae4 (by kernel_rfl) ?_ _);clear hK K;clear hS0 hSt VL hgA hgD
    go_wp2_with (at_builtin;refine aj9 _ rfl _ _ 103 rfl w.heap.size 4 j0 (.bool false) 1 1 underlying103 hjn hy0 hy1 hy2 rfl (by decide) (.slice p7 (xB (ss.take k)).length QA) (xB (ss.take k)).length ((xB (ss.take k)).map Value.bool) rfl ((ah HI3).rh.alloc _) ⟨w3.heap.size,0,none⟩ 1 1 [.bool si] rfl rfl (Es _ _ _ _ rfl) (Xg _) (by unfold maxLen;omega) (by omega) (by have:=(ah HI3).below.size;simp;omega) ?_;intro v2 w4 hown2 hg4 Uo SV;obtain⟨g2,cap2,hv2⟩:=dL hown2 (aj1 _);subst hv2)
    have hI4:=((ah HI3).grow (ab2 _ _ none)).appH (x:=si) hg4 hown2 (by simp);refine⟨⟨k+1,hlt,by go_num,?_,?_⟩,by simp[intOf];omega⟩
    ·rw[ah HTC,ah HTH];exact hI4
    ·intro s hs h1 h2;rw[ah fE]at hs;rcases ae6.1 hs with hs|hs
     ·exact ah hpre s hs h1 h2
     ·rw[ad8.1 hs]at h1;exact absurd h1 hc
  ·have hkk:k=ss.length:=(by omega);have hbd:¬(k:Int)<(ss.length:Int):=(by omega);have hts:ss.take k=ss:=(by rw[hkk,ag9]);rw[hts]at hI hpre HLL Vx;clear hkk hts;have hfin:Hid (∀bv,(bv=true↔∀p∈aY (wu f' cs ss) (wu f' cs ss).length,(xB ss).getD p.1 false=(xB ss).getD p.2 false)->(bv=true↔cb f' cs (ss.map dB))):=λbv h=>by
    rw[h,Qx];exact⟨λh=>⟨ah hpre,h⟩,λh=>h.2⟩
   have hll:=ah HLL;have hfo:∀x∈wu f' cs ss,∃l,keyOf prog 90 (iT x)=some l:=λx hx=>by
    obtain⟨s,hs,rfl⟩:=ad9.1 hx;obtain⟨hs,h61⟩:=ag5.1 hs;have h61:s.2.2.1≠61:=(by simpa using h61);obtain⟨h8,h1⟩:=(ah HOK s hs).2 h61;have h2:=(ah HCT _ (ab5 h1)).2;have h3:=((ah Ue).roots _ h2).1;exact Sz _ (by simp only;omega) (by simp only;rw[aG h1];omega)
   by_cases hC:wu f' cs ss=[]
   ·have hH:xB ss=[]:=af7 (by rw[hll,hC];rfl);have e6:=hI.nc.2 hC;have e7:=hI.nh.2 hH;subst e6;subst e7;have HB:=aj hI.below;have HC0:=aj hC;have hag:=Nc wr;clear hI Vx hfo hll HLL hC hH
    go_wp2_with fail
    refine hag.mono ?_;rintro e w3 ⟨rfl,hb3⟩;have HB3:=aj hb3;clear hb3 hag
    go_wp2_with fail
    refine ae3 (v:=.bool true) (by simp[results,results146,go_sem]) rfl ⟨true,f',rfl,ah Ue,?_,(ah HB).trans ((ah HB3).mono (ah HB).size)⟩;exact ah hfin true ⟨λ_ p hp=>(by rw[ah HC0]at hp;simp[aY]at hp),λ_=>rfl⟩
   ·have hH:xB ss≠[]:=λe=>hC (af7 (by rw[<-hll,e];rfl));obtain⟨G6,cap6,rfl,hr6⟩:=J7 hI.rc hI.nc hC;obtain⟨G7,QA,rfl,hr7⟩:=J6 hI.rh hI.nh hH;have hag:=Bc G6 cap6 G7 QA (wu f' cs ss) (xB ss) wr (by omega) hll hr6 hfo hr7;have HB:=aj hI.below;clear hI Vx hfo hll HLL hC hH hr6 hr7
    go_wp2_with fail
    refine hag.mono ?_;rintro e w3 ⟨rfl,hb3⟩;have HB3:=aj hb3;clear hb3 hag
    go_wp2_with fail
    refine ae3 (v:=.bool (decide (∀p∈aY (wu f' cs ss) (wu f' cs ss).length,(xB ss).getD p.1 false=(xB ss).getD p.2 false))) (by simp[results,results146,go_sem]) rfl ⟨_,f',rfl,ah Ue,ah hfin _ (by simp),(ah HB).trans ((ah HB3).mono (ah HB).size)⟩
end Go.Proofs.YthcppbmkacbbiaaGreat
