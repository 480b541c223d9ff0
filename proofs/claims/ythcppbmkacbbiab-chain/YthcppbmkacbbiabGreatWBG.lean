import Derived.Test.YthcppbmkacbbiabGreatWBF
set_option linter.unusedSimpArgs false
set_option maxHeartbeats 8000000
set_option maxRecDepth 100000
namespace Go.Proofs.YthcppbmkacbbiabGreat
open Go.Proofs.Tryz
open Go.RowKit Go.Maps Go.WideMaps
open Sat (View Rule jk bG)
open aB (Key put)
def rZ(w:World)(g:Nat)(vs:List View):Prop:=
 ∃(cur:Array Value) (x:Nat×Nat),w.heap[g]?=some (Obj.cells cur 207 x)/\∀i (hi:i<vs.length),cur[i*2]?=some (.int .i64 vs[i].1)/\cur[i*2+1]?=some (.bool vs[i].2)
theorem gq(Us:List Key)(p:Key):(put Us p).idxOf p=Us.idxOf p:=by
 unfold put;by_cases h:Us.contains p=true
 ·rw[af6 h]
 ·rw[af2 h,al3];have hm:p∉Us:=by simpa using h
  rw[af2 hm,ai9 hm];simp
theorem LG.D7{n0:Nat}{w1 w':World}{lb BU BS:Nat}{f:Key->Key}{dom:Key->Prop}{Us:List Key}{ak:List Rule}{X:Nat->Prop}(h:LG n0 w' lb BU BS f dom Us ak X)(hn:n0<=w1.heap.size)(hg:w1.grownBy w' (some BU)):Below n0 w1 w':=by
 have hlo:=h.lo.2.1;exact⟨hg.os,hg.tape,hg.output,hg.size,λk hk=>hg.block k (by omega) (λe=>by cases e;omega)⟩
theorem Jf(X:Nat->Prop)(n0:Nat)(w:World)(lb BU BS:Nat)(f:Key->Key)(dom:Key->Prop)(Us:List Key)(ak:List Rule)(L:List (List aU))(acc:List aU)(x y g vc:Nat)(iQ:LG n0 w lb BU BS f dom Us ak X)(hX:∀k,X k->k<w.heap.size)(kY:jW Us ak L)(hUs:Us.length<=900)
 (hacc:∀l∈acc,l.1∈Us)(hV:rZ w g (acc.map (vw Us)))(hx:x<acc.length)(hy:y<acc.length)(hal:acc.length<=500)(hd:dom (38,x,y))(hfp:f (38,x,y)=(38,x,y))(hn:n0<=w.heap.size)(hR:L.length<=80000) :
  Calls prog 123 #[.pointer (some ⟨lb,0,none⟩),aS (38,x,y),.slice (some ⟨g,0,none⟩) acc.length vc] w λe w'=>∃aK,e=.returned (vV (vw (put Us (38,x,y)) ((38,x,y),true)))/\LG n0 w' lb BU BS f dom (put Us (38,x,y)) aK X/\jW (put Us (38,x,y)) aK (L++xM f acc (38,x,y))/\Below n0 w w'/\VK w w':=by
 have hdc:xM f acc (38,x,y)=lC (((38,x,y),true)) (acc[x]) (acc[y]):=by
  unfold xM;rw[hfp,aG hx,aG hy];simp
 have hpos:=gq Us (38,x,y);have hpre:=fH Us ((38,x,y):Key);have hmw:((38,x,y):Key)∈put Us (38,x,y):=aT _ _;have hmf:acc[x].1∈put Us (38,x,y):=hpre.mem (hacc _ (ad8 hx));have hms:acc[y].1∈put Us (38,x,y):=hpre.mem (hacc _ (ad8 hy));have hvf:vw (put Us (38,x,y)) acc[x]=vw Us acc[x]:=mO hpre (hacc _ (ad8 hx));have hvs:vw (put Us (38,x,y)) acc[y]=vw Us acc[y]:=mO hpre (hacc _ (ad8 hy));rw[hdc];have hso:=uP n0 ((w.alloc (.cells #[.int .u8 38,.int .i64 x,.int .i64 y] 82)).alloc (.cells #[.int .i64 0,.bool false] 207)) lb BU BS f dom Us ak (λk=>X k\/(w.heap.size<=k/\k<w.heap.size+2)) (38,x,y) (((iQ.other (λk hk h=>h.elim id (λh=>by omega))).grow (ad4 _ _ none)).grow (ad4 _ _ none)) (by omega) hd (by rw[hfp];exact hd) (by rw[hfp,hfp]) ⟨by simp,by show x<=1000;omega,by show y<=1000;omega⟩ (by rw[hfp];exact⟨by simp,by show x<=1000;omega,by show y<=1000;omega⟩);rw[hfp]at hso;have hlf:acc[x]=acc[x]:=rfl;obtain⟨lf,hlf⟩:∃l,acc[x]=l:=⟨_,rfl⟩;obtain⟨ls,hls⟩:∃l,acc[y]=l:=⟨_,rfl⟩;rw[hlf]at hmf hvf;rw[hls]at hms hvs;rw[hlf,hls];obtain⟨cur,cx,bV,hcur⟩:=hV;have hcf:=hcur x (by simpa using hx);have hcs:=hcur y (by simpa using hy);simp only[ak0,hlf,hls]at hcf hcs;obtain⟨ix,hix⟩:∃i,Us.idxOf ((38,x,y):Key)=i:=⟨_,rfl⟩;obtain⟨xf,hxf⟩:∃i,(vw Us lf).1=i:=⟨_,rfl⟩;obtain⟨xs,hxs⟩:∃i,(vw Us ls).1=i:=⟨_,rfl⟩;obtain⟨jf,hjf⟩:∃i,(vw Us lf).2=i:=⟨_,rfl⟩;obtain⟨js,hjs⟩:∃i,(vw Us ls).2=i:=⟨_,rfl⟩;rw[hix]at hso hpos;rw[hxf,hjf]at hcf;rw[hxs,hjs]at hcs;have hew:vw (put Us (38,x,y)) ((38,x,y),true)=(ix,true):=by unfold vw;rw[hpos]
 have hef:vw (put Us (38,x,y)) lf=(xf,jf):=by rw[hvf,<-hxf,<-hjf]
 have hes:vw (put Us (38,x,y)) ls=(xs,js):=by rw[hvs,<-hxs,<-hjs]
 have hgx:=(ad3.1 bV).1;have hxi:(x:Int)<(acc.length:Int):=by omega
 have hyi:(y:Int)<(acc.length:Int):=by omega
 have y7:Hid (aH w 82 BU aS Us):=iQ.us;have HLP:=aj kY;rw[hew];unfold vV;unfold vV at hso;clear iQ kY hcur hpre hdc hacc hfp hlf hls hxf hxs hjf hjs hvf hvs hix;simp only[aS]at hso ⊢
 go_enter func123,ntmps123
 go_wp2_with fail
 refine hso.mono ?_;rintro e w1 ⟨rfl,iK,hg1⟩;have hgA:w.grownBy ((w.alloc (.cells #[.int .u8 38,.int .i64 x,.int .i64 y] 82)).alloc (.cells #[.int .i64 0,.bool false] 207)) none:=(ad4 _ _ none).trans (ad4 _ _ none);have y8:=(ah y7).lt;have gZ:VK ((w.alloc (.cells #[.int .u8 38,.int .i64 x,.int .i64 y] 82)).alloc (.cells #[.int .i64 0,.bool false] 207)) w1:=VK.map hg1 ((ah y7).kept (hgA.block BU y8 (by simp))).Oe;have bP1:w1.heap[w.heap.size]?=some (.cells #[.int .u8 38,.int .i64 x,.int .i64 y] 82 (0,0)):=aI gZ (by rw[ae3 _ _ _ (by simp),ae9]);have b61:w1.heap[w.heap.size+1]?=some (.cells #[.int .i64 0,.bool false] 207 (0,0)):=aI gZ (by
  have e:w.heap.size+1=(w.alloc (.cells #[.int .u8 38,.int .i64 x,.int .i64 y] 82)).heap.size:=by simp
  rw[e,ae9])
 have bV1:w1.heap[g]?=some (.cells cur 207 cx):=aI gZ ((hgA.block g hgx (by simp)).trans bV);have yS:VK w w1:=(VK.grown hgA).trans gZ;have yZ:Below n0 w w1:=((But.aA hgA).below hn (λk _ e=>by cases e)).trans (iK.D7 (by simp;omega) hg1);have hsz1:w.heap.size+2<=w1.heap.size:=by have:=hg1.size;simp at this;omega
 obtain⟨w2,hw2⟩:∃w2,w1.alloc (.cells #[.int .i64 ix,.bool true] 207)=w2:=⟨_,rfl⟩;have hg2:w1.grownBy w2 none:=by rw[<-hw2];exact ad4 _ _ none
 have bW2:w2.heap[w1.heap.size]?=some (.cells #[.int .i64 ix,.bool true] 207 (0,0)):=by rw[<-hw2,ae9]
 have bP2:=aI (VK.grown hg2) bP1;have b62:=aI (VK.grown hg2) b61;have bV2:=aI (VK.grown hg2) bV1;have iJ:=iK.grow hg2;have k0:w1.cell? ⟨w.heap.size,0,none⟩=some (.int .u8 38):=by rw[cell_of bP1];rfl
 have k0':w2.cell? ⟨w.heap.size,0,none⟩=some (.int .u8 38):=by rw[cell_of bP2];rfl
 have hsz2:w1.heap.size<w2.heap.size:=(ad3.1 bW2).1;clear gZ hgA bV bP1 b61 bV1 hso iK;have HB:=aj yZ;have HK:=aj yS;clear yZ yS hg1
 go_wp2_with fail
 clear hw2;obtain⟨V,hVd⟩:∃V,w2.drew=V:=⟨_,rfl⟩;have jw:w2.grownBy V none:=by rw[<-hVd];exact⟨rfl,rfl,rfl,ad5 _,λ_ _ _=>rfl⟩
 refine ah0 (S:=λW'=>VK V W') rfl ?_;have hS0:VK V V:=VK.refl _;have hG:V.grownBy V none:=ah7 _ _;simp only[ae2,ae1,ae8,Nat.reduceAdd,ae0,ad9,ae4,ae7,ae6];change wpAnyH prog .any _ _ _ _ _ _ w2.drew;rw[hVd];clear hVd;have bW:=aI (VK.grown jw) bW2;have bP:=aI (VK.grown jw) bP2;have b6:=aI (VK.grown jw) b62;have bV:=aI (VK.grown jw) bV2;have y5:=iJ.grow jw;have Qd:=jw.size;refine tH 0 (.pointer (some ⟨lb,0,none⟩)) (λw' hS=>?_) hS0 ?_
 ·go_simp
 simp only[aC];refine tH 1 (.agg #[.int .i64 ix,.bool true]) (λw' hS=>?_) hS0 ?_
 ·have q:=aI hS bW;have q0:=(cell_of q 0);have q1:=(cell_of q 1)
  go_simp
 simp only[aC];refine tH 2 (.slice (some ⟨g,0,none⟩) acc.length vc) (λw' hS=>?_) hS0 ?_
 ·go_simp
 simp only[aC];refine tH 3 (.pointer (some ⟨w.heap.size,1,none⟩)) (λw' hS=>?_) hS0 ?_
 ·go_simp
 simp only[aC];refine tH 4 (.int .i64 x) (λw' hS=>?_) hS0 ?_
 ·have q:=aI hS bP;have q0:=(cell_of q 1)
  go_simp
 simp only[aC];refine tH 5 (.pointer (some ⟨g,x*2,none⟩)) (λw' hS=>?_) hS0 ?_
 ·go_simp
 simp only[aC];refine tH 6 (.agg #[.int .i64 xf,.bool jf]) (λw' hS=>?_) hS0 ?_
 ·have q:=aI hS bV;have q0:=(cell_of q (x*2)).trans hcf.1;have q1:=(cell_of q (x*2+1)).trans hcf.2
  go_simp
 simp only[aC];refine tH 7 (.slice (some ⟨g,0,none⟩) acc.length vc) (λw' hS=>?_) hS0 ?_
 ·go_simp
 simp only[aC];refine tH 8 (.pointer (some ⟨w.heap.size,2,none⟩)) (λw' hS=>?_) hS0 ?_
 ·go_simp
 simp only[aC];refine tH 9 (.int .i64 y) (λw' hS=>?_) hS0 ?_
 ·have q:=aI hS bP;have q0:=(cell_of q 2)
  go_simp
 simp only[aC];refine tH 10 (.pointer (some ⟨g,y*2,none⟩)) (λw' hS=>?_) hS0 ?_
 ·go_simp
 simp only[aC];refine tH 11 (.agg #[.int .i64 xs,.bool js]) (λw' hS=>?_) hS0 ?_
 ·have q:=aI hS bV;have q0:=(cell_of q (y*2)).trans hcs.1;have q1:=(cell_of q (y*2+1)).trans hcs.2
  go_simp
 simp only[aC];have WC:=hG.size;have hcl:=vM (λk=>X k\/(w.heap.size<=k/\k<w.heap.size+2)) n0 V lb BU BS f dom (put Us (38,x,y)) ak L (((38,x,y),true)) (lf) (ls) (y5.grow hG) (λk h=>by
  rcases h with h|h
  ·have:=hX k h;omega
  ·omega) ((ah HLP).so _) hmw hmf hms (by omega) (by omega)
 simp only[JA,hew,hef,hes,vV]at hcl;refine oH 12 (λK hK=>?_);go_simp;refine(hcl).mono ?_;rintro e w3 ⟨⟨r3,rfl⟩,dS,iD,iC,vF,oq⟩;refine hK.out _ _ (hS0.trans oq) (ag5 (by kernel_rfl) ?_ _);clear hK K;have iP:VK w2 w3:=(VK.grown jw).trans (hS0.trans oq);have pR:Below n0 w2 w3:=((But.aA (jw.trans hG)).below (by omega) (λk _ e=>by cases e)).trans vF;have b63:=aI iP b62;have bW3:=aI iP bW2;have r0:w3.cell? ⟨w1.heap.size,0,none⟩=some (.int .i64 ix):=by rw[cell_of bW3];rfl
 have r1:w3.cell? ⟨w1.heap.size,1,none⟩=some (.bool true):=by rw[cell_of bW3];rfl
 have s0:w3.cell? ⟨w.heap.size+1,0,none⟩=some (.int .i64 0):=by rw[cell_of b63];rfl
 have s1:w3.cell? ⟨w.heap.size+1,1,none⟩=some (.bool false):=by rw[cell_of b63];rfl
 have f0:w3.frozen? ⟨w.heap.size+1,0,none⟩=false:=by simp[World.frozen?,b63]
 have f1:w3.frozen? ⟨w.heap.size+1,1,none⟩=false:=by simp[World.frozen?,b63]
 have hs3:w.heap.size+1<w3.heap.size:=(ad3.1 b63).1;have WJ:w1.heap.size<w3.heap.size:=(ad3.1 bW3).1;have hbF:((w3.setCell ⟨w.heap.size+1,0,none⟩ (.int .i64 ix)).setCell ⟨w.heap.size+1,1,none⟩ (.bool true)).heap[w.heap.size+1]?=some (.cells #[.int .i64 ix,.bool true] 207 (0,0)):=by
  rw[heap_setCell_same (heap_setCell_same b63)]
  congr 2
 have hBu:But (λk=>k=w.heap.size+1) w3 ((w3.setCell ⟨w.heap.size+1,0,none⟩ (.int .i64 ix)).setCell ⟨w.heap.size+1,1,none⟩ (.bool true)):=But.setCell (S:=λk=>k=w.heap.size+1) (But.setCell (S:=λk=>k=w.heap.size+1) (But.refl _ _) (λ_=>rfl) _) (λ_=>rfl) _;have cO:Hid (∀WF,But (λk=>k=w.heap.size+1) w3 WF->∃aK,LG n0 WF lb BU BS f dom (put Us (38,x,y)) aK X/\jW (put Us (38,x,y)) aK (L++lC (((38,x,y),true)) (lf) (ls))/\Below n0 w WF/\VK w WF):=λWF hB=>by
  refine⟨dS,(iD.NZ hB (λk e=>⟨Or.inr (by rw[e];omega),#[.int .i64 0,.bool false],207,(0,0),by rw[e];exact b63,by decide,by decide⟩)).other (λk _ h=>Or.inl h),iC,?_,?_⟩
  ·exact(((ah HB).trans ((But.aA hg2).below (by omega) (λk _ e=>by cases e))).trans pR).trans (hB.below (by omega) (λk hk e=>by omega))
  ·intro k cur t xx t1 t2 e;have hlt:=(ad3.1 e).1;have e3:=iP _ _ _ _ t1 t2 ((VK.grown hg2) _ _ _ _ t1 t2 ((ah HK) _ _ _ _ t1 t2 e));exact(hB.block k (ad3.1 e3).1 (by omega)).trans e3
 clear iD iC vF oq iP pR bW bP b6 bV bW2 bP2 b62 bV2 hS0 hcl y5 iJ
 go_wp2_with fail
 obtain⟨WF,hWF⟩:∃WF,(w3.setCell ⟨w.heap.size+1,0,none⟩ (.int .i64 ix)).setCell ⟨w.heap.size+1,1,none⟩ (.bool true)=WF:=⟨_,rfl⟩;rw[hWF]at hBu hbF ⊢;have x0:WF.cell? ⟨w.heap.size+1,0,none⟩=some (.int .i64 ix):=by rw[cell_of hbF];rfl
 have x1:WF.cell? ⟨w.heap.size+1,1,none⟩=some (.bool true):=by rw[cell_of hbF];rfl
 obtain⟨aK,q1,q2,q3,q4⟩:=ah cO WF hBu;exact ag3 (v:=.agg #[.int .i64 ix,.bool true]) (by simp[results,results123,go_sem,x0,x1]) rfl ⟨aK,rfl,q1,q2,q3,q4⟩
theorem NJ(X:Nat->Prop)(n0:Nat)(w:World)(lb BU BS:Nat)(f:Key->Key)(dom:Key->Prop)(Us:List Key)(ak:List Rule)(L:List (List aU))(acc:List aU)(x y g vc:Nat)(iQ:LG n0 w lb BU BS f dom Us ak X)(hX:∀k,X k->k<w.heap.size)(kY:jW Us ak L)(hUs:Us.length<=900)
 (hacc:∀l∈acc,l.1∈Us)(hV:rZ w g (acc.map (vw Us)))(hx:x<acc.length)(hy:y<acc.length)(hal:acc.length<=500)(hd:dom (124,x,y))(hfp:f (124,x,y)=(124,x,y))(hn:n0<=w.heap.size)(hR:L.length<=80000) :
  Calls prog 123 #[.pointer (some ⟨lb,0,none⟩),aS (124,x,y),.slice (some ⟨g,0,none⟩) acc.length vc] w λe w'=>∃aK,e=.returned (vV (vw (put Us (124,x,y)) ((124,x,y),true)))/\LG n0 w' lb BU BS f dom (put Us (124,x,y)) aK X/\jW (put Us (124,x,y)) aK (L++xM f acc (124,x,y))/\Below n0 w w'/\VK w w':=by
 have hdc:xM f acc (124,x,y)=lC (nl ((124,x,y),true)) (nl acc[x]) (nl acc[y]):=by
  unfold xM;rw[hfp,aG hx,aG hy];simp
 have hpos:=gq Us (124,x,y);have hpre:=fH Us ((124,x,y):Key);have hmw:((124,x,y):Key)∈put Us (124,x,y):=aT _ _;have hmf:acc[x].1∈put Us (124,x,y):=hpre.mem (hacc _ (ad8 hx));have hms:acc[y].1∈put Us (124,x,y):=hpre.mem (hacc _ (ad8 hy));have hvf:vw (put Us (124,x,y)) acc[x]=vw Us acc[x]:=mO hpre (hacc _ (ad8 hx));have hvs:vw (put Us (124,x,y)) acc[y]=vw Us acc[y]:=mO hpre (hacc _ (ad8 hy));rw[hdc];have hso:=uP n0 ((w.alloc (.cells #[.int .u8 124,.int .i64 x,.int .i64 y] 82)).alloc (.cells #[.int .i64 0,.bool false] 207)) lb BU BS f dom Us ak (λk=>X k\/(w.heap.size<=k/\k<w.heap.size+2)) (124,x,y) (((iQ.other (λk hk h=>h.elim id (λh=>by omega))).grow (ad4 _ _ none)).grow (ad4 _ _ none)) (by omega) hd (by rw[hfp];exact hd) (by rw[hfp,hfp]) ⟨by simp,by show x<=1000;omega,by show y<=1000;omega⟩ (by rw[hfp];exact⟨by simp,by show x<=1000;omega,by show y<=1000;omega⟩);rw[hfp]at hso;have hlf:acc[x]=acc[x]:=rfl;obtain⟨lf,hlf⟩:∃l,acc[x]=l:=⟨_,rfl⟩;obtain⟨ls,hls⟩:∃l,acc[y]=l:=⟨_,rfl⟩;rw[hlf]at hmf hvf;rw[hls]at hms hvs;rw[hlf,hls];obtain⟨cur,cx,bV,hcur⟩:=hV;have hcf:=hcur x (by simpa using hx);have hcs:=hcur y (by simpa using hy);simp only[ak0,hlf,hls]at hcf hcs;obtain⟨ix,hix⟩:∃i,Us.idxOf ((124,x,y):Key)=i:=⟨_,rfl⟩;obtain⟨xf,hxf⟩:∃i,(vw Us lf).1=i:=⟨_,rfl⟩;obtain⟨xs,hxs⟩:∃i,(vw Us ls).1=i:=⟨_,rfl⟩;obtain⟨jf,hjf⟩:∃i,(vw Us lf).2=i:=⟨_,rfl⟩;obtain⟨js,hjs⟩:∃i,(vw Us ls).2=i:=⟨_,rfl⟩;rw[hix]at hso hpos;rw[hxf,hjf]at hcf;rw[hxs,hjs]at hcs;have hew:vw (put Us (124,x,y)) ((124,x,y),true)=(ix,true):=by unfold vw;rw[hpos]
 have hef:vw (put Us (124,x,y)) lf=(xf,jf):=by rw[hvf,<-hxf,<-hjf]
 have hes:vw (put Us (124,x,y)) ls=(xs,js):=by rw[hvs,<-hxs,<-hjs]
 have hgx:=(ad3.1 bV).1;have hxi:(x:Int)<(acc.length:Int):=by omega
 have hyi:(y:Int)<(acc.length:Int):=by omega
 have y7:Hid (aH w 82 BU aS Us):=iQ.us;have HLP:=aj kY;rw[hew];unfold vV;unfold vV at hso;clear iQ kY hcur hpre hdc hacc hfp hlf hls hxf hxs hjf hjs hvf hvs hix;simp only[aS]at hso ⊢
 go_enter func123,ntmps123
 go_wp2_with fail
 refine hso.mono ?_;rintro e w1 ⟨rfl,iK,hg1⟩;have hgA:w.grownBy ((w.alloc (.cells #[.int .u8 124,.int .i64 x,.int .i64 y] 82)).alloc (.cells #[.int .i64 0,.bool false] 207)) none:=(ad4 _ _ none).trans (ad4 _ _ none);have y8:=(ah y7).lt;have gZ:VK ((w.alloc (.cells #[.int .u8 124,.int .i64 x,.int .i64 y] 82)).alloc (.cells #[.int .i64 0,.bool false] 207)) w1:=VK.map hg1 ((ah y7).kept (hgA.block BU y8 (by simp))).Oe;have bP1:w1.heap[w.heap.size]?=some (.cells #[.int .u8 124,.int .i64 x,.int .i64 y] 82 (0,0)):=aI gZ (by rw[ae3 _ _ _ (by simp),ae9]);have b61:w1.heap[w.heap.size+1]?=some (.cells #[.int .i64 0,.bool false] 207 (0,0)):=aI gZ (by
  have e:w.heap.size+1=(w.alloc (.cells #[.int .u8 124,.int .i64 x,.int .i64 y] 82)).heap.size:=by simp
  rw[e,ae9])
 have bV1:w1.heap[g]?=some (.cells cur 207 cx):=aI gZ ((hgA.block g hgx (by simp)).trans bV);have yS:VK w w1:=(VK.grown hgA).trans gZ;have yZ:Below n0 w w1:=((But.aA hgA).below hn (λk _ e=>by cases e)).trans (iK.D7 (by simp;omega) hg1);have hsz1:w.heap.size+2<=w1.heap.size:=by have:=hg1.size;simp at this;omega
 obtain⟨w2,hw2⟩:∃w2,w1.alloc (.cells #[.int .i64 ix,.bool true] 207)=w2:=⟨_,rfl⟩;have hg2:w1.grownBy w2 none:=by rw[<-hw2];exact ad4 _ _ none
 have bW2:w2.heap[w1.heap.size]?=some (.cells #[.int .i64 ix,.bool true] 207 (0,0)):=by rw[<-hw2,ae9]
 have bP2:=aI (VK.grown hg2) bP1;have b62:=aI (VK.grown hg2) b61;have bV2:=aI (VK.grown hg2) bV1;have iJ:=iK.grow hg2;have k0:w1.cell? ⟨w.heap.size,0,none⟩=some (.int .u8 124):=by rw[cell_of bP1];rfl
 have k0':w2.cell? ⟨w.heap.size,0,none⟩=some (.int .u8 124):=by rw[cell_of bP2];rfl
 have hsz2:w1.heap.size<w2.heap.size:=(ad3.1 bW2).1;clear gZ hgA bV bP1 b61 bV1 hso iK;have HB:=aj yZ;have HK:=aj yS;clear yZ yS hg1
 go_wp2_with fail
 clear hw2;obtain⟨V,hVd⟩:∃V,w2.drew=V:=⟨_,rfl⟩;have jw:w2.grownBy V none:=by rw[<-hVd];exact⟨rfl,rfl,rfl,ad5 _,λ_ _ _=>rfl⟩
 refine ah0 (S:=λW'=>VK V W') rfl ?_;have hS0:VK V V:=VK.refl _;have hG:V.grownBy V none:=ah7 _ _;simp only[ae2,ae1,ae8,Nat.reduceAdd,ae0,ad9,ae4,ae7,ae6];change wpAnyH prog .any _ _ _ _ _ _ w2.drew;rw[hVd];clear hVd;have bW:=aI (VK.grown jw) bW2;have bP:=aI (VK.grown jw) bP2;have b6:=aI (VK.grown jw) b62;have bV:=aI (VK.grown jw) bV2;have y5:=iJ.grow jw;have Qd:=jw.size;refine tH 0 (.pointer (some ⟨lb,0,none⟩)) (λw' hS=>?_) hS0 ?_
 ·go_simp
 simp only[aC];refine tH 1 (.agg #[.int .i64 ix,.bool true]) (λw' hS=>?_) hS0 ?_
 ·have q:=aI hS bW;have q0:=(cell_of q 0);have q1:=(cell_of q 1)
  go_simp
 simp only[aC];refine tH 3 (.slice (some ⟨g,0,none⟩) acc.length vc) (λw' hS=>?_) hS0 ?_
 ·go_simp
 simp only[aC];refine tH 4 (.pointer (some ⟨w.heap.size,1,none⟩)) (λw' hS=>?_) hS0 ?_
 ·go_simp
 simp only[aC];refine tH 5 (.int .i64 x) (λw' hS=>?_) hS0 ?_
 ·have q:=aI hS bP;have q0:=(cell_of q 1)
  go_simp
 simp only[aC];refine tH 6 (.pointer (some ⟨g,x*2,none⟩)) (λw' hS=>?_) hS0 ?_
 ·go_simp
 simp only[aC];refine tH 7 (.agg #[.int .i64 xf,.bool jf]) (λw' hS=>?_) hS0 ?_
 ·have q:=aI hS bV;have q0:=(cell_of q (x*2)).trans hcf.1;have q1:=(cell_of q (x*2+1)).trans hcf.2
  go_simp
 simp only[aC];refine tH 9 (.slice (some ⟨g,0,none⟩) acc.length vc) (λw' hS=>?_) hS0 ?_
 ·go_simp
 simp only[aC];refine tH 10 (.pointer (some ⟨w.heap.size,2,none⟩)) (λw' hS=>?_) hS0 ?_
 ·go_simp
 simp only[aC];refine tH 11 (.int .i64 y) (λw' hS=>?_) hS0 ?_
 ·have q:=aI hS bP;have q0:=(cell_of q 2)
  go_simp
 simp only[aC];refine tH 12 (.pointer (some ⟨g,y*2,none⟩)) (λw' hS=>?_) hS0 ?_
 ·go_simp
 simp only[aC];refine tH 13 (.agg #[.int .i64 xs,.bool js]) (λw' hS=>?_) hS0 ?_
 ·have q:=aI hS bV;have q0:=(cell_of q (y*2)).trans hcs.1;have q1:=(cell_of q (y*2+1)).trans hcs.2
  go_simp
 simp only[aC];refine oH 2 (λK hK=>?_);go_simp;refine(fJ ix true V).mono ?_;rintro e m2 ⟨rfl,hm2⟩;replace hS0:=hS0.trans (VK.grown hm2);refine hK.out _ _ hS0 ?_;clear hK K;replace hG:=hG.trans hm2;refine oH 8 (λK hK=>?_);go_simp;refine(fJ xf jf m2).mono ?_;rintro e m8 ⟨rfl,hm8⟩;replace hS0:=hS0.trans (VK.grown hm8);refine hK.out _ _ hS0 ?_;clear hK K;replace hG:=hG.trans hm8;refine oH 14 (λK hK=>?_);go_simp;refine(fJ xs js m8).mono ?_;rintro e m14 ⟨rfl,hm14⟩;replace hS0:=hS0.trans (VK.grown hm14);refine hK.out _ _ hS0 ?_;clear hK K;replace hG:=hG.trans hm14;have WC:=hG.size;have hcl:=vM (λk=>X k\/(w.heap.size<=k/\k<w.heap.size+2)) n0 m14 lb BU BS f dom (put Us (124,x,y)) ak L (nl ((124,x,y),true)) (nl lf) (nl ls) (y5.grow hG) (λk h=>by
  rcases h with h|h
  ·have:=hX k h;omega
  ·omega) ((ah HLP).so _) hmw hmf hms (by omega) (by omega)
 simp only[JA,hew,hef,hes,vV]at hcl;refine oH 15 (λK hK=>?_);go_simp;refine(hcl).mono ?_;rintro e w3 ⟨⟨r3,rfl⟩,dS,iD,iC,vF,oq⟩;refine hK.out _ _ (hS0.trans oq) (ag5 (by kernel_rfl) ?_ _);clear hK K;have iP:VK w2 w3:=(VK.grown jw).trans (hS0.trans oq);have pR:Below n0 w2 w3:=((But.aA (jw.trans hG)).below (by omega) (λk _ e=>by cases e)).trans vF;have b63:=aI iP b62;have bW3:=aI iP bW2;have r0:w3.cell? ⟨w1.heap.size,0,none⟩=some (.int .i64 ix):=by rw[cell_of bW3];rfl
 have r1:w3.cell? ⟨w1.heap.size,1,none⟩=some (.bool true):=by rw[cell_of bW3];rfl
 have s0:w3.cell? ⟨w.heap.size+1,0,none⟩=some (.int .i64 0):=by rw[cell_of b63];rfl
 have s1:w3.cell? ⟨w.heap.size+1,1,none⟩=some (.bool false):=by rw[cell_of b63];rfl
 have f0:w3.frozen? ⟨w.heap.size+1,0,none⟩=false:=by simp[World.frozen?,b63]
 have f1:w3.frozen? ⟨w.heap.size+1,1,none⟩=false:=by simp[World.frozen?,b63]
 have hs3:w.heap.size+1<w3.heap.size:=(ad3.1 b63).1;have WJ:w1.heap.size<w3.heap.size:=(ad3.1 bW3).1;have hbF:((w3.setCell ⟨w.heap.size+1,0,none⟩ (.int .i64 ix)).setCell ⟨w.heap.size+1,1,none⟩ (.bool true)).heap[w.heap.size+1]?=some (.cells #[.int .i64 ix,.bool true] 207 (0,0)):=by
  rw[heap_setCell_same (heap_setCell_same b63)]
  congr 2
 have hBu:But (λk=>k=w.heap.size+1) w3 ((w3.setCell ⟨w.heap.size+1,0,none⟩ (.int .i64 ix)).setCell ⟨w.heap.size+1,1,none⟩ (.bool true)):=But.setCell (S:=λk=>k=w.heap.size+1) (But.setCell (S:=λk=>k=w.heap.size+1) (But.refl _ _) (λ_=>rfl) _) (λ_=>rfl) _;have cO:Hid (∀WF,But (λk=>k=w.heap.size+1) w3 WF->∃aK,LG n0 WF lb BU BS f dom (put Us (124,x,y)) aK X/\jW (put Us (124,x,y)) aK (L++lC (nl ((124,x,y),true)) (nl lf) (nl ls))/\Below n0 w WF/\VK w WF):=λWF hB=>by
  refine⟨dS,(iD.NZ hB (λk e=>⟨Or.inr (by rw[e];omega),#[.int .i64 0,.bool false],207,(0,0),by rw[e];exact b63,by decide,by decide⟩)).other (λk _ h=>Or.inl h),iC,?_,?_⟩
  ·exact(((ah HB).trans ((But.aA hg2).below (by omega) (λk _ e=>by cases e))).trans pR).trans (hB.below (by omega) (λk hk e=>by omega))
  ·intro k cur t xx t1 t2 e;have hlt:=(ad3.1 e).1;have e3:=iP _ _ _ _ t1 t2 ((VK.grown hg2) _ _ _ _ t1 t2 ((ah HK) _ _ _ _ t1 t2 e));exact(hB.block k (ad3.1 e3).1 (by omega)).trans e3
 clear iD iC vF oq iP pR bW bP b6 bV bW2 bP2 b62 bV2 hS0 hcl y5 iJ
 go_wp2_with fail
 obtain⟨WF,hWF⟩:∃WF,(w3.setCell ⟨w.heap.size+1,0,none⟩ (.int .i64 ix)).setCell ⟨w.heap.size+1,1,none⟩ (.bool true)=WF:=⟨_,rfl⟩;rw[hWF]at hBu hbF ⊢;have x0:WF.cell? ⟨w.heap.size+1,0,none⟩=some (.int .i64 ix):=by rw[cell_of hbF];rfl
 have x1:WF.cell? ⟨w.heap.size+1,1,none⟩=some (.bool true):=by rw[cell_of hbF];rfl
 obtain⟨aK,q1,q2,q3,q4⟩:=ah cO WF hBu;exact ag3 (v:=.agg #[.int .i64 ix,.bool true]) (by simp[results,results123,go_sem,x0,x1]) rfl ⟨aK,rfl,q1,q2,q3,q4⟩
theorem Jc(X:Nat->Prop)(n0:Nat)(w:World)(lb BU BS:Nat)(f:Key->Key)(dom:Key->Prop)(Us:List Key)(ak:List Rule)(L:List (List aU))(acc:List aU)(x y g vc:Nat)(iQ:LG n0 w lb BU BS f dom Us ak X)(hX:∀k,X k->k<w.heap.size)(kY:jW Us ak L)(hUs:Us.length<=900)
 (hacc:∀l∈acc,l.1∈Us)(hV:rZ w g (acc.map (vw Us)))(hx:x<acc.length)(hy:y<acc.length)(hal:acc.length<=500)(hd:dom (62,x,y))(hfp:f (62,x,y)=(62,x,y))(hn:n0<=w.heap.size)(hR:L.length<=80000) :
  Calls prog 123 #[.pointer (some ⟨lb,0,none⟩),aS (62,x,y),.slice (some ⟨g,0,none⟩) acc.length vc] w λe w'=>∃aK,e=.returned (vV (vw (put Us (62,x,y)) ((62,x,y),true)))/\LG n0 w' lb BU BS f dom (put Us (62,x,y)) aK X/\jW (put Us (62,x,y)) aK (L++xM f acc (62,x,y))/\Below n0 w w'/\VK w w':=by
 have hdc:xM f acc (62,x,y)=lC (nl ((62,x,y),true)) (acc[x]) (nl acc[y]):=by
  unfold xM;rw[hfp,aG hx,aG hy];simp
 have hpos:=gq Us (62,x,y);have hpre:=fH Us ((62,x,y):Key);have hmw:((62,x,y):Key)∈put Us (62,x,y):=aT _ _;have hmf:acc[x].1∈put Us (62,x,y):=hpre.mem (hacc _ (ad8 hx));have hms:acc[y].1∈put Us (62,x,y):=hpre.mem (hacc _ (ad8 hy));have hvf:vw (put Us (62,x,y)) acc[x]=vw Us acc[x]:=mO hpre (hacc _ (ad8 hx));have hvs:vw (put Us (62,x,y)) acc[y]=vw Us acc[y]:=mO hpre (hacc _ (ad8 hy));rw[hdc];have hso:=uP n0 ((w.alloc (.cells #[.int .u8 62,.int .i64 x,.int .i64 y] 82)).alloc (.cells #[.int .i64 0,.bool false] 207)) lb BU BS f dom Us ak (λk=>X k\/(w.heap.size<=k/\k<w.heap.size+2)) (62,x,y) (((iQ.other (λk hk h=>h.elim id (λh=>by omega))).grow (ad4 _ _ none)).grow (ad4 _ _ none)) (by omega) hd (by rw[hfp];exact hd) (by rw[hfp,hfp]) ⟨by simp,by show x<=1000;omega,by show y<=1000;omega⟩ (by rw[hfp];exact⟨by simp,by show x<=1000;omega,by show y<=1000;omega⟩);rw[hfp]at hso;have hlf:acc[x]=acc[x]:=rfl;obtain⟨lf,hlf⟩:∃l,acc[x]=l:=⟨_,rfl⟩;obtain⟨ls,hls⟩:∃l,acc[y]=l:=⟨_,rfl⟩;rw[hlf]at hmf hvf;rw[hls]at hms hvs;rw[hlf,hls];obtain⟨cur,cx,bV,hcur⟩:=hV;have hcf:=hcur x (by simpa using hx);have hcs:=hcur y (by simpa using hy);simp only[ak0,hlf,hls]at hcf hcs;obtain⟨ix,hix⟩:∃i,Us.idxOf ((62,x,y):Key)=i:=⟨_,rfl⟩;obtain⟨xf,hxf⟩:∃i,(vw Us lf).1=i:=⟨_,rfl⟩;obtain⟨xs,hxs⟩:∃i,(vw Us ls).1=i:=⟨_,rfl⟩;obtain⟨jf,hjf⟩:∃i,(vw Us lf).2=i:=⟨_,rfl⟩;obtain⟨js,hjs⟩:∃i,(vw Us ls).2=i:=⟨_,rfl⟩;rw[hix]at hso hpos;rw[hxf,hjf]at hcf;rw[hxs,hjs]at hcs;have hew:vw (put Us (62,x,y)) ((62,x,y),true)=(ix,true):=by unfold vw;rw[hpos]
 have hef:vw (put Us (62,x,y)) lf=(xf,jf):=by rw[hvf,<-hxf,<-hjf]
 have hes:vw (put Us (62,x,y)) ls=(xs,js):=by rw[hvs,<-hxs,<-hjs]
 have hgx:=(ad3.1 bV).1;have hxi:(x:Int)<(acc.length:Int):=by omega
 have hyi:(y:Int)<(acc.length:Int):=by omega
 have y7:Hid (aH w 82 BU aS Us):=iQ.us;have HLP:=aj kY;rw[hew];unfold vV;unfold vV at hso;clear iQ kY hcur hpre hdc hacc hfp hlf hls hxf hxs hjf hjs hvf hvs hix;simp only[aS]at hso ⊢
 go_enter func123,ntmps123
 go_wp2_with fail
 refine hso.mono ?_;rintro e w1 ⟨rfl,iK,hg1⟩;have hgA:w.grownBy ((w.alloc (.cells #[.int .u8 62,.int .i64 x,.int .i64 y] 82)).alloc (.cells #[.int .i64 0,.bool false] 207)) none:=(ad4 _ _ none).trans (ad4 _ _ none);have y8:=(ah y7).lt;have gZ:VK ((w.alloc (.cells #[.int .u8 62,.int .i64 x,.int .i64 y] 82)).alloc (.cells #[.int .i64 0,.bool false] 207)) w1:=VK.map hg1 ((ah y7).kept (hgA.block BU y8 (by simp))).Oe;have bP1:w1.heap[w.heap.size]?=some (.cells #[.int .u8 62,.int .i64 x,.int .i64 y] 82 (0,0)):=aI gZ (by rw[ae3 _ _ _ (by simp),ae9]);have b61:w1.heap[w.heap.size+1]?=some (.cells #[.int .i64 0,.bool false] 207 (0,0)):=aI gZ (by
  have e:w.heap.size+1=(w.alloc (.cells #[.int .u8 62,.int .i64 x,.int .i64 y] 82)).heap.size:=by simp
  rw[e,ae9])
 have bV1:w1.heap[g]?=some (.cells cur 207 cx):=aI gZ ((hgA.block g hgx (by simp)).trans bV);have yS:VK w w1:=(VK.grown hgA).trans gZ;have yZ:Below n0 w w1:=((But.aA hgA).below hn (λk _ e=>by cases e)).trans (iK.D7 (by simp;omega) hg1);have hsz1:w.heap.size+2<=w1.heap.size:=by have:=hg1.size;simp at this;omega
 obtain⟨w2,hw2⟩:∃w2,w1.alloc (.cells #[.int .i64 ix,.bool true] 207)=w2:=⟨_,rfl⟩;have hg2:w1.grownBy w2 none:=by rw[<-hw2];exact ad4 _ _ none
 have bW2:w2.heap[w1.heap.size]?=some (.cells #[.int .i64 ix,.bool true] 207 (0,0)):=by rw[<-hw2,ae9]
 have bP2:=aI (VK.grown hg2) bP1;have b62:=aI (VK.grown hg2) b61;have bV2:=aI (VK.grown hg2) bV1;have iJ:=iK.grow hg2;have k0:w1.cell? ⟨w.heap.size,0,none⟩=some (.int .u8 62):=by rw[cell_of bP1];rfl
 have k0':w2.cell? ⟨w.heap.size,0,none⟩=some (.int .u8 62):=by rw[cell_of bP2];rfl
 have hsz2:w1.heap.size<w2.heap.size:=(ad3.1 bW2).1;clear gZ hgA bV bP1 b61 bV1 hso iK;have HB:=aj yZ;have HK:=aj yS;clear yZ yS hg1
 go_wp2_with fail
 clear hw2;obtain⟨V,hVd⟩:∃V,w2.drew=V:=⟨_,rfl⟩;have jw:w2.grownBy V none:=by rw[<-hVd];exact⟨rfl,rfl,rfl,ad5 _,λ_ _ _=>rfl⟩
 refine ah0 (S:=λW'=>VK V W') rfl ?_;have hS0:VK V V:=VK.refl _;have hG:V.grownBy V none:=ah7 _ _;simp only[ae2,ae1,ae8,Nat.reduceAdd,ae0,ad9,ae4,ae7,ae6];change wpAnyH prog .any _ _ _ _ _ _ w2.drew;rw[hVd];clear hVd;have bW:=aI (VK.grown jw) bW2;have bP:=aI (VK.grown jw) bP2;have b6:=aI (VK.grown jw) b62;have bV:=aI (VK.grown jw) bV2;have y5:=iJ.grow jw;have Qd:=jw.size;refine tH 0 (.pointer (some ⟨lb,0,none⟩)) (λw' hS=>?_) hS0 ?_
 ·go_simp
 simp only[aC];refine tH 1 (.agg #[.int .i64 ix,.bool true]) (λw' hS=>?_) hS0 ?_
 ·have q:=aI hS bW;have q0:=(cell_of q 0);have q1:=(cell_of q 1)
  go_simp
 simp only[aC];refine tH 3 (.slice (some ⟨g,0,none⟩) acc.length vc) (λw' hS=>?_) hS0 ?_
 ·go_simp
 simp only[aC];refine tH 4 (.pointer (some ⟨w.heap.size,1,none⟩)) (λw' hS=>?_) hS0 ?_
 ·go_simp
 simp only[aC];refine tH 5 (.int .i64 x) (λw' hS=>?_) hS0 ?_
 ·have q:=aI hS bP;have q0:=(cell_of q 1)
  go_simp
 simp only[aC];refine tH 6 (.pointer (some ⟨g,x*2,none⟩)) (λw' hS=>?_) hS0 ?_
 ·go_simp
 simp only[aC];refine tH 7 (.agg #[.int .i64 xf,.bool jf]) (λw' hS=>?_) hS0 ?_
 ·have q:=aI hS bV;have q0:=(cell_of q (x*2)).trans hcf.1;have q1:=(cell_of q (x*2+1)).trans hcf.2
  go_simp
 simp only[aC];refine tH 8 (.slice (some ⟨g,0,none⟩) acc.length vc) (λw' hS=>?_) hS0 ?_
 ·go_simp
 simp only[aC];refine tH 9 (.pointer (some ⟨w.heap.size,2,none⟩)) (λw' hS=>?_) hS0 ?_
 ·go_simp
 simp only[aC];refine tH 10 (.int .i64 y) (λw' hS=>?_) hS0 ?_
 ·have q:=aI hS bP;have q0:=(cell_of q 2)
  go_simp
 simp only[aC];refine tH 11 (.pointer (some ⟨g,y*2,none⟩)) (λw' hS=>?_) hS0 ?_
 ·go_simp
 simp only[aC];refine tH 12 (.agg #[.int .i64 xs,.bool js]) (λw' hS=>?_) hS0 ?_
 ·have q:=aI hS bV;have q0:=(cell_of q (y*2)).trans hcs.1;have q1:=(cell_of q (y*2+1)).trans hcs.2
  go_simp
 simp only[aC];refine oH 2 (λK hK=>?_);go_simp;refine(fJ ix true V).mono ?_;rintro e m2 ⟨rfl,hm2⟩;replace hS0:=hS0.trans (VK.grown hm2);refine hK.out _ _ hS0 ?_;clear hK K;replace hG:=hG.trans hm2;refine oH 13 (λK hK=>?_);go_simp;refine(fJ xs js m2).mono ?_;rintro e m13 ⟨rfl,hm13⟩;replace hS0:=hS0.trans (VK.grown hm13);refine hK.out _ _ hS0 ?_;clear hK K;replace hG:=hG.trans hm13;have WC:=hG.size;have hcl:=vM (λk=>X k\/(w.heap.size<=k/\k<w.heap.size+2)) n0 m13 lb BU BS f dom (put Us (62,x,y)) ak L (nl ((62,x,y),true)) (lf) (nl ls) (y5.grow hG) (λk h=>by
  rcases h with h|h
  ·have:=hX k h;omega
  ·omega) ((ah HLP).so _) hmw hmf hms (by omega) (by omega)
 simp only[JA,hew,hef,hes,vV]at hcl;refine oH 14 (λK hK=>?_);go_simp;refine(hcl).mono ?_;rintro e w3 ⟨⟨r3,rfl⟩,dS,iD,iC,vF,oq⟩;refine hK.out _ _ (hS0.trans oq) (ag5 (by kernel_rfl) ?_ _);clear hK K;have iP:VK w2 w3:=(VK.grown jw).trans (hS0.trans oq);have pR:Below n0 w2 w3:=((But.aA (jw.trans hG)).below (by omega) (λk _ e=>by cases e)).trans vF;have b63:=aI iP b62;have bW3:=aI iP bW2;have r0:w3.cell? ⟨w1.heap.size,0,none⟩=some (.int .i64 ix):=by rw[cell_of bW3];rfl
 have r1:w3.cell? ⟨w1.heap.size,1,none⟩=some (.bool true):=by rw[cell_of bW3];rfl
 have s0:w3.cell? ⟨w.heap.size+1,0,none⟩=some (.int .i64 0):=by rw[cell_of b63];rfl
 have s1:w3.cell? ⟨w.heap.size+1,1,none⟩=some (.bool false):=by rw[cell_of b63];rfl
 have f0:w3.frozen? ⟨w.heap.size+1,0,none⟩=false:=by simp[World.frozen?,b63]
 have f1:w3.frozen? ⟨w.heap.size+1,1,none⟩=false:=by simp[World.frozen?,b63]
 have hs3:w.heap.size+1<w3.heap.size:=(ad3.1 b63).1;have WJ:w1.heap.size<w3.heap.size:=(ad3.1 bW3).1;have hbF:((w3.setCell ⟨w.heap.size+1,0,none⟩ (.int .i64 ix)).setCell ⟨w.heap.size+1,1,none⟩ (.bool true)).heap[w.heap.size+1]?=some (.cells #[.int .i64 ix,.bool true] 207 (0,0)):=by
  rw[heap_setCell_same (heap_setCell_same b63)]
  congr 2
 have hBu:But (λk=>k=w.heap.size+1) w3 ((w3.setCell ⟨w.heap.size+1,0,none⟩ (.int .i64 ix)).setCell ⟨w.heap.size+1,1,none⟩ (.bool true)):=But.setCell (S:=λk=>k=w.heap.size+1) (But.setCell (S:=λk=>k=w.heap.size+1) (But.refl _ _) (λ_=>rfl) _) (λ_=>rfl) _;have cO:Hid (∀WF,But (λk=>k=w.heap.size+1) w3 WF->∃aK,LG n0 WF lb BU BS f dom (put Us (62,x,y)) aK X/\jW (put Us (62,x,y)) aK (L++lC (nl ((62,x,y),true)) (lf) (nl ls))/\Below n0 w WF/\VK w WF):=λWF hB=>by
  refine⟨dS,(iD.NZ hB (λk e=>⟨Or.inr (by rw[e];omega),#[.int .i64 0,.bool false],207,(0,0),by rw[e];exact b63,by decide,by decide⟩)).other (λk _ h=>Or.inl h),iC,?_,?_⟩
  ·exact(((ah HB).trans ((But.aA hg2).below (by omega) (λk _ e=>by cases e))).trans pR).trans (hB.below (by omega) (λk hk e=>by omega))
  ·intro k cur t xx t1 t2 e;have hlt:=(ad3.1 e).1;have e3:=iP _ _ _ _ t1 t2 ((VK.grown hg2) _ _ _ _ t1 t2 ((ah HK) _ _ _ _ t1 t2 e));exact(hB.block k (ad3.1 e3).1 (by omega)).trans e3
 clear iD iC vF oq iP pR bW bP b6 bV bW2 bP2 b62 bV2 hS0 hcl y5 iJ
 go_wp2_with fail
 obtain⟨WF,hWF⟩:∃WF,(w3.setCell ⟨w.heap.size+1,0,none⟩ (.int .i64 ix)).setCell ⟨w.heap.size+1,1,none⟩ (.bool true)=WF:=⟨_,rfl⟩;rw[hWF]at hBu hbF ⊢;have x0:WF.cell? ⟨w.heap.size+1,0,none⟩=some (.int .i64 ix):=by rw[cell_of hbF];rfl
 have x1:WF.cell? ⟨w.heap.size+1,1,none⟩=some (.bool true):=by rw[cell_of hbF];rfl
 obtain⟨aK,q1,q2,q3,q4⟩:=ah cO WF hBu;exact ag3 (v:=.agg #[.int .i64 ix,.bool true]) (by simp[results,results123,go_sem,x0,x1]) rfl ⟨aK,rfl,q1,q2,q3,q4⟩
theorem Jd(X:Nat->Prop)(n0:Nat)(w:World)(lb BU BS:Nat)(f:Key->Key)(dom:Key->Prop)(Us:List Key)(ak:List Rule)(L:List (List aU))(acc:List aU)(x y g vc:Nat)(iQ:LG n0 w lb BU BS f dom Us ak X)(hX:∀k,X k->k<w.heap.size)(kY:jW Us ak L)(hUs:Us.length<=900)
 (hacc:∀l∈acc,l.1∈Us)(hV:rZ w g (acc.map (vw Us)))(hx:x<acc.length)(hy:y<acc.length)(hal:acc.length<=500)(hd:dom (45,x,y))(hfp:f (45,x,y)=(45,x,y))(hn:n0<=w.heap.size)(hR:L.length<=80000) :
  Calls prog 123 #[.pointer (some ⟨lb,0,none⟩),aS (45,x,y),.slice (some ⟨g,0,none⟩) acc.length vc] w λe w'=>∃aK,e=.returned (vV (vw (put Us (45,x,y)) ((45,x,y),true)))/\LG n0 w' lb BU BS f dom (put Us (45,x,y)) aK X/\jW (put Us (45,x,y)) aK (L++xM f acc (45,x,y))/\Below n0 w w'/\VK w w':=by
 have hdc:xM f acc (45,x,y)=pX (((45,x,y),true)) (acc[x]) (acc[y]):=by
  unfold xM;rw[hfp,aG hx,aG hy];simp
 have hpos:=gq Us (45,x,y);have hpre:=fH Us ((45,x,y):Key);have hmw:((45,x,y):Key)∈put Us (45,x,y):=aT _ _;have hmf:acc[x].1∈put Us (45,x,y):=hpre.mem (hacc _ (ad8 hx));have hms:acc[y].1∈put Us (45,x,y):=hpre.mem (hacc _ (ad8 hy));have hvf:vw (put Us (45,x,y)) acc[x]=vw Us acc[x]:=mO hpre (hacc _ (ad8 hx));have hvs:vw (put Us (45,x,y)) acc[y]=vw Us acc[y]:=mO hpre (hacc _ (ad8 hy));rw[hdc];have hso:=uP n0 ((w.alloc (.cells #[.int .u8 45,.int .i64 x,.int .i64 y] 82)).alloc (.cells #[.int .i64 0,.bool false] 207)) lb BU BS f dom Us ak (λk=>X k\/(w.heap.size<=k/\k<w.heap.size+2)) (45,x,y) (((iQ.other (λk hk h=>h.elim id (λh=>by omega))).grow (ad4 _ _ none)).grow (ad4 _ _ none)) (by omega) hd (by rw[hfp];exact hd) (by rw[hfp,hfp]) ⟨by simp,by show x<=1000;omega,by show y<=1000;omega⟩ (by rw[hfp];exact⟨by simp,by show x<=1000;omega,by show y<=1000;omega⟩);rw[hfp]at hso;have hlf:acc[x]=acc[x]:=rfl;obtain⟨lf,hlf⟩:∃l,acc[x]=l:=⟨_,rfl⟩;obtain⟨ls,hls⟩:∃l,acc[y]=l:=⟨_,rfl⟩;rw[hlf]at hmf hvf;rw[hls]at hms hvs;rw[hlf,hls];obtain⟨cur,cx,bV,hcur⟩:=hV;have hcf:=hcur x (by simpa using hx);have hcs:=hcur y (by simpa using hy);simp only[ak0,hlf,hls]at hcf hcs;obtain⟨ix,hix⟩:∃i,Us.idxOf ((45,x,y):Key)=i:=⟨_,rfl⟩;obtain⟨xf,hxf⟩:∃i,(vw Us lf).1=i:=⟨_,rfl⟩;obtain⟨xs,hxs⟩:∃i,(vw Us ls).1=i:=⟨_,rfl⟩;obtain⟨jf,hjf⟩:∃i,(vw Us lf).2=i:=⟨_,rfl⟩;obtain⟨js,hjs⟩:∃i,(vw Us ls).2=i:=⟨_,rfl⟩;rw[hix]at hso hpos;rw[hxf,hjf]at hcf;rw[hxs,hjs]at hcs;have hew:vw (put Us (45,x,y)) ((45,x,y),true)=(ix,true):=by unfold vw;rw[hpos]
 have hef:vw (put Us (45,x,y)) lf=(xf,jf):=by rw[hvf,<-hxf,<-hjf]
 have hes:vw (put Us (45,x,y)) ls=(xs,js):=by rw[hvs,<-hxs,<-hjs]
 have hgx:=(ad3.1 bV).1;have hxi:(x:Int)<(acc.length:Int):=by omega
 have hyi:(y:Int)<(acc.length:Int):=by omega
 have y7:Hid (aH w 82 BU aS Us):=iQ.us;have HLP:=aj kY;rw[hew];unfold vV;unfold vV at hso;clear iQ kY hcur hpre hdc hacc hfp hlf hls hxf hxs hjf hjs hvf hvs hix;simp only[aS]at hso ⊢
 go_enter func123,ntmps123
 go_wp2_with fail
 refine hso.mono ?_;rintro e w1 ⟨rfl,iK,hg1⟩;have hgA:w.grownBy ((w.alloc (.cells #[.int .u8 45,.int .i64 x,.int .i64 y] 82)).alloc (.cells #[.int .i64 0,.bool false] 207)) none:=(ad4 _ _ none).trans (ad4 _ _ none);have y8:=(ah y7).lt;have gZ:VK ((w.alloc (.cells #[.int .u8 45,.int .i64 x,.int .i64 y] 82)).alloc (.cells #[.int .i64 0,.bool false] 207)) w1:=VK.map hg1 ((ah y7).kept (hgA.block BU y8 (by simp))).Oe;have bP1:w1.heap[w.heap.size]?=some (.cells #[.int .u8 45,.int .i64 x,.int .i64 y] 82 (0,0)):=aI gZ (by rw[ae3 _ _ _ (by simp),ae9]);have b61:w1.heap[w.heap.size+1]?=some (.cells #[.int .i64 0,.bool false] 207 (0,0)):=aI gZ (by
  have e:w.heap.size+1=(w.alloc (.cells #[.int .u8 45,.int .i64 x,.int .i64 y] 82)).heap.size:=by simp
  rw[e,ae9])
 have bV1:w1.heap[g]?=some (.cells cur 207 cx):=aI gZ ((hgA.block g hgx (by simp)).trans bV);have yS:VK w w1:=(VK.grown hgA).trans gZ;have yZ:Below n0 w w1:=((But.aA hgA).below hn (λk _ e=>by cases e)).trans (iK.D7 (by simp;omega) hg1);have hsz1:w.heap.size+2<=w1.heap.size:=by have:=hg1.size;simp at this;omega
 obtain⟨w2,hw2⟩:∃w2,w1.alloc (.cells #[.int .i64 ix,.bool true] 207)=w2:=⟨_,rfl⟩;have hg2:w1.grownBy w2 none:=by rw[<-hw2];exact ad4 _ _ none
 have bW2:w2.heap[w1.heap.size]?=some (.cells #[.int .i64 ix,.bool true] 207 (0,0)):=by rw[<-hw2,ae9]
 have bP2:=aI (VK.grown hg2) bP1;have b62:=aI (VK.grown hg2) b61;have bV2:=aI (VK.grown hg2) bV1;have iJ:=iK.grow hg2;have k0:w1.cell? ⟨w.heap.size,0,none⟩=some (.int .u8 45):=by rw[cell_of bP1];rfl
 have k0':w2.cell? ⟨w.heap.size,0,none⟩=some (.int .u8 45):=by rw[cell_of bP2];rfl
 have hsz2:w1.heap.size<w2.heap.size:=(ad3.1 bW2).1;clear gZ hgA bV bP1 b61 bV1 hso iK;have HB:=aj yZ;have HK:=aj yS;clear yZ yS hg1
 go_wp2_with fail
 clear hw2;obtain⟨V,hVd⟩:∃V,w2.drew=V:=⟨_,rfl⟩;have jw:w2.grownBy V none:=by rw[<-hVd];exact⟨rfl,rfl,rfl,ad5 _,λ_ _ _=>rfl⟩
 refine ah0 (S:=λW'=>VK V W') rfl ?_;have hS0:VK V V:=VK.refl _;have hG:V.grownBy V none:=ah7 _ _;simp only[ae2,ae1,ae8,Nat.reduceAdd,ae0,ad9,ae4,ae7,ae6];change wpAnyH prog .any _ _ _ _ _ _ w2.drew;rw[hVd];clear hVd;have bW:=aI (VK.grown jw) bW2;have bP:=aI (VK.grown jw) bP2;have b6:=aI (VK.grown jw) b62;have bV:=aI (VK.grown jw) bV2;have y5:=iJ.grow jw;have Qd:=jw.size;refine tH 0 (.pointer (some ⟨lb,0,none⟩)) (λw' hS=>?_) hS0 ?_
 ·go_simp
 simp only[aC];refine tH 1 (.agg #[.int .i64 ix,.bool true]) (λw' hS=>?_) hS0 ?_
 ·have q:=aI hS bW;have q0:=(cell_of q 0);have q1:=(cell_of q 1)
  go_simp
 simp only[aC];refine tH 2 (.slice (some ⟨g,0,none⟩) acc.length vc) (λw' hS=>?_) hS0 ?_
 ·go_simp
 simp only[aC];refine tH 3 (.pointer (some ⟨w.heap.size,1,none⟩)) (λw' hS=>?_) hS0 ?_
 ·go_simp
 simp only[aC];refine tH 4 (.int .i64 x) (λw' hS=>?_) hS0 ?_
 ·have q:=aI hS bP;have q0:=(cell_of q 1)
  go_simp
 simp only[aC];refine tH 5 (.pointer (some ⟨g,x*2,none⟩)) (λw' hS=>?_) hS0 ?_
 ·go_simp
 simp only[aC];refine tH 6 (.agg #[.int .i64 xf,.bool jf]) (λw' hS=>?_) hS0 ?_
 ·have q:=aI hS bV;have q0:=(cell_of q (x*2)).trans hcf.1;have q1:=(cell_of q (x*2+1)).trans hcf.2
  go_simp
 simp only[aC];refine tH 7 (.slice (some ⟨g,0,none⟩) acc.length vc) (λw' hS=>?_) hS0 ?_
 ·go_simp
 simp only[aC];refine tH 8 (.pointer (some ⟨w.heap.size,2,none⟩)) (λw' hS=>?_) hS0 ?_
 ·go_simp
 simp only[aC];refine tH 9 (.int .i64 y) (λw' hS=>?_) hS0 ?_
 ·have q:=aI hS bP;have q0:=(cell_of q 2)
  go_simp
 simp only[aC];refine tH 10 (.pointer (some ⟨g,y*2,none⟩)) (λw' hS=>?_) hS0 ?_
 ·go_simp
 simp only[aC];refine tH 11 (.agg #[.int .i64 xs,.bool js]) (λw' hS=>?_) hS0 ?_
 ·have q:=aI hS bV;have q0:=(cell_of q (y*2)).trans hcs.1;have q1:=(cell_of q (y*2+1)).trans hcs.2
  go_simp
 simp only[aC];have WC:=hG.size;have hcl:=Ji (λk=>X k\/(w.heap.size<=k/\k<w.heap.size+2)) n0 V lb BU BS f dom (put Us (45,x,y)) ak L (((45,x,y),true)) (lf) (ls) (y5.grow hG) (λk h=>by
  rcases h with h|h
  ·have:=hX k h;omega
  ·omega) ((ah HLP).so _) hmw hmf hms (by omega) (by omega)
 simp only[JA,hew,hef,hes,vV]at hcl;refine oH 12 (λK hK=>?_);go_simp;refine(hcl).mono ?_;rintro e w3 ⟨⟨r3,rfl⟩,dS,iD,iC,vF,oq⟩;refine hK.out _ _ (hS0.trans oq) (ag5 (by kernel_rfl) ?_ _);clear hK K;have iP:VK w2 w3:=(VK.grown jw).trans (hS0.trans oq);have pR:Below n0 w2 w3:=((But.aA (jw.trans hG)).below (by omega) (λk _ e=>by cases e)).trans vF;have b63:=aI iP b62;have bW3:=aI iP bW2;have r0:w3.cell? ⟨w1.heap.size,0,none⟩=some (.int .i64 ix):=by rw[cell_of bW3];rfl
 have r1:w3.cell? ⟨w1.heap.size,1,none⟩=some (.bool true):=by rw[cell_of bW3];rfl
 have s0:w3.cell? ⟨w.heap.size+1,0,none⟩=some (.int .i64 0):=by rw[cell_of b63];rfl
 have s1:w3.cell? ⟨w.heap.size+1,1,none⟩=some (.bool false):=by rw[cell_of b63];rfl
 have f0:w3.frozen? ⟨w.heap.size+1,0,none⟩=false:=by simp[World.frozen?,b63]
 have f1:w3.frozen? ⟨w.heap.size+1,1,none⟩=false:=by simp[World.frozen?,b63]
 have hs3:w.heap.size+1<w3.heap.size:=(ad3.1 b63).1;have WJ:w1.heap.size<w3.heap.size:=(ad3.1 bW3).1;have hbF:((w3.setCell ⟨w.heap.size+1,0,none⟩ (.int .i64 ix)).setCell ⟨w.heap.size+1,1,none⟩ (.bool true)).heap[w.heap.size+1]?=some (.cells #[.int .i64 ix,.bool true] 207 (0,0)):=by
  rw[heap_setCell_same (heap_setCell_same b63)]
  congr 2
 have hBu:But (λk=>k=w.heap.size+1) w3 ((w3.setCell ⟨w.heap.size+1,0,none⟩ (.int .i64 ix)).setCell ⟨w.heap.size+1,1,none⟩ (.bool true)):=But.setCell (S:=λk=>k=w.heap.size+1) (But.setCell (S:=λk=>k=w.heap.size+1) (But.refl _ _) (λ_=>rfl) _) (λ_=>rfl) _;have cO:Hid (∀WF,But (λk=>k=w.heap.size+1) w3 WF->∃aK,LG n0 WF lb BU BS f dom (put Us (45,x,y)) aK X/\jW (put Us (45,x,y)) aK (L++pX (((45,x,y),true)) (lf) (ls))/\Below n0 w WF/\VK w WF):=λWF hB=>by
  refine⟨dS,(iD.NZ hB (λk e=>⟨Or.inr (by rw[e];omega),#[.int .i64 0,.bool false],207,(0,0),by rw[e];exact b63,by decide,by decide⟩)).other (λk _ h=>Or.inl h),iC,?_,?_⟩
  ·exact(((ah HB).trans ((But.aA hg2).below (by omega) (λk _ e=>by cases e))).trans pR).trans (hB.below (by omega) (λk hk e=>by omega))
  ·intro k cur t xx t1 t2 e;have hlt:=(ad3.1 e).1;have e3:=iP _ _ _ _ t1 t2 ((VK.grown hg2) _ _ _ _ t1 t2 ((ah HK) _ _ _ _ t1 t2 e));exact(hB.block k (ad3.1 e3).1 (by omega)).trans e3
 clear iD iC vF oq iP pR bW bP b6 bV bW2 bP2 b62 bV2 hS0 hcl y5 iJ
 go_wp2_with fail
 obtain⟨WF,hWF⟩:∃WF,(w3.setCell ⟨w.heap.size+1,0,none⟩ (.int .i64 ix)).setCell ⟨w.heap.size+1,1,none⟩ (.bool true)=WF:=⟨_,rfl⟩;rw[hWF]at hBu hbF ⊢;have x0:WF.cell? ⟨w.heap.size+1,0,none⟩=some (.int .i64 ix):=by rw[cell_of hbF];rfl
 have x1:WF.cell? ⟨w.heap.size+1,1,none⟩=some (.bool true):=by rw[cell_of hbF];rfl
 obtain⟨aK,q1,q2,q3,q4⟩:=ah cO WF hBu;exact ag3 (v:=.agg #[.int .i64 ix,.bool true]) (by simp[results,results123,go_sem,x0,x1]) rfl ⟨aK,rfl,q1,q2,q3,q4⟩
end Go.Proofs.YthcppbmkacbbiabGreat
