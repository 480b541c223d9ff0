import Derived.Test.YthcppbmkacbbiabGreatWAJ
import Derived.Test.YthcppbmkacbbiabGreatWAP
set_option linter.unusedSimpArgs false
set_option maxHeartbeats 2000000
set_option maxRecDepth 100000
namespace Go.Proofs.YthcppbmkacbbiabGreat
open Go.Proofs.Tryz
open Go.RowKit Go.Maps Go.WideMaps
open aB (Key put)
attribute [local go_sem] Oper.semAt_some
def mkd(f:Nat->Nat)(ts:List Key):List Key:=ts.map λk=>(k.1,f k.2.1,f k.2.2)
theorem aV(f:Nat->Nat)(ts:List Key):(mkd f ts).length=ts.length:=by simp[mkd]
theorem Pq(w:World)(a:Int)(b c:Nat)(t:TypeId)(n:Nat)(hn:w.heap.size=n):∀j u,(iR (a,b,c))[j]?=some u->(w.alloc (.cells #[.int .u8 a,.int .i64 b,.int .i64 c] t)).cell? ((⟨n,0,none⟩:Addr).add j)=some u:=by
 subst hn;exact ET w a b c t
structure MG(w:World)(b:Nat)(f:Nat->Nat)(n c:Nat)(W:World):Prop where
 m:gG W b f n c
 below:Below w.heap.size w W
theorem MG.grow{w:World}{b n c:Nat}{f:Nat->Nat}{W W':World}{row:Option Nat}(h:MG w b f n c W)(hg:W.grownBy W' row)(hr:∀r,row=some r->r≠b/\w.heap.size<=r):MG w b f n c W':=
 ⟨h.m.kept (hg.block b h.m.lt (λe=>(hr b e.symm).1 rfl)),h.below.grown hg h.below.size (λk e=>(hr k e).2)⟩
theorem EY(GT GC GP nc np b c:Nat)(f:Nat->Nat)(ts:List Key)(w:World)(hl:ts.length<=7)(hrt:bQ w GT ts)(hi:aB.Inv ts)(hf:∀i,i<ts.length->f i<ts.length)(hM:gG w b f ts.length c) :
  Calls prog 76 #[fv GT GC GP ts.length nc np,.map (some b)] w λe w'=>∃G,e=.returned (.slice (some ⟨G,0,none⟩) ts.length ts.length)/\w.heap.size<=G/\bQ w' G (mkd f ts)/\Below w.heap.size w w':=by
 refine(ag4 (n:=5)).1 ?_;unfold fv;obtain⟨wb,hwb⟩:∃wb,w.alloc (.cells #[.slice (some ⟨GT,0,none⟩) ts.length ts.length,.slice (some ⟨GC,0,none⟩) nc nc,.slice (some ⟨GP,0,none⟩) np np] 46)=wb:=⟨_,rfl⟩;have hsb:wb.heap.size=w.heap.size+1:=by rw[<-hwb];simp
 have hgb:w.grownBy wb none:=by rw[<-hwb];exact ad4 _ _ none
 have hbb:Below w.heap.size w wb:=⟨hgb.os,hgb.tape,hgb.output,hgb.size,λj hj=>hgb.block j hj (by simp)⟩;have hc0:wb.cell? ⟨w.heap.size,0,none⟩=some (.slice (some ⟨GT,0,none⟩) ts.length ts.length):=by rw[<-hwb];simp[go_sem]
 obtain⟨i0,hin,hz0,hz1,hz2⟩:=ak7 P9;obtain⟨w1,hmk,hrow,hg1⟩:=as3 (P:=prog) wb wb.heap.size 42 76 i0 _ 3 underlying42 hin hz0 hz1 .i64 .i64 ts.length (by rw[hz2];omega) (by unfold maxLen;omega) (ad5 _);have hb1:Below w.heap.size w w1:=hbb.trans ⟨hg1.os,hg1.tape,hg1.output,hg1.size,λj hj=>hg1.block j (by omega) (by simp)⟩;have Nr:=hM.lt;have hlG:=hrt.1;have Xu:MG w b f ts.length c w1:=⟨(hM.kept (hgb.block b Nr (by simp))).kept (hg1.block b (by omega) (by simp)),hb1⟩;have hk0:w1.cell? ⟨w.heap.size,0,none⟩=some (.slice (some ⟨GT,0,none⟩) ts.length ts.length):=hg1.cell hc0 (by simp);have hlt1:w.heap.size+1<w1.heap.size:=by have h:=(hrow.lt wb.heap.size rfl).2;omega
 have HSB:=aj hsb;rw[hsb]at hrow;have hmk':Hid _:=hmk;have HI:=aj hi;have HRT:=aj hrt;have HF:=aj hf;have HWB:=aj hwb;rw[<-hwb]at hmk;have Qc:(w.alloc (.cells #[.slice (some ⟨GT,0,none⟩) ts.length ts.length,.slice (some ⟨GC,0,none⟩) nc nc,.slice (some ⟨GP,0,none⟩) np np] 46)).heap.size=w.heap.size+1:=by simp
 rw[Qc]at hmk;clear hmk' hwb hi hrt hf hsb Qc hgb hc0 hg1 hM;refine ai6 func76 rfl trivial ?_ rfl;simp only[ntmps76,ae2,ae1,ae8,Nat.reduceAdd,Nat.reduceSub,ae0,ad9,ae4,ag1,ae7,ae6]
 gi_wp2
 have hrow0:w1.ownsRow 0 76 3 (.slice (some ⟨w.heap.size+1,0,none⟩) 0 ts.length) 0 []:=fK hrow (ah2 _);clear hmk hrow hk0
 gi_loopw [5,15] (λt i wr=>∃k:Nat,k<=ts.length/\i=.int .i64 k/\t=.slice (some ⟨w.heap.size+1,0,none⟩) k ts.length/\wr.ownsRow 0 76 3 (.slice (some ⟨w.heap.size+1,0,none⟩) k ts.length) k (((mkd f ts).flatMap iR).take (k*3))/\MG w b f ts.length c wr) (λ_ i _=>ts.length-(intOf i).toNat)
 case atStart=>exact⟨0,ah2 _,rfl,rfl,by rw[aq7,ao2];exact hrow0,Xu⟩
 case round=>
  obtain⟨k,hk,rfl,rfl,hrw,hcg⟩:=hrel;by_cases hlt:k<ts.length
  ·have hbd:(k:Int)<(ts.length:Int):=(by omega);obtain⟨c0,c1,c2⟩:=((ah HRT).below hcg.below hlG).2 k hlt;have hfit:k+1<=ts.length:=hlt;have hkey:=(ah HI).key k hlt;have hb1':ts[k].2.1<ts.length/\ts[k].2.2<ts.length:=by
    rcases hkey with⟨_,_,h3,h4⟩|⟨_,h2,h3⟩|⟨_,h2,h3⟩<;>omega
   have htk:=jT qI (mkd f ts) k (by rw[aV];exact hlt);have hmk:(mkd f ts)[k]'(by rw[aV];exact hlt)=(ts[k].1,f ts[k].2.1,f ts[k].2.2):=(by simp[mkd]);rw[hmk]at htk;have hap:Hid (∀W2:World,wr.grownBy W2 none->W2.ownsRow 0 76 3 (.slice (some ⟨w.heap.size+1,0,none⟩) k ts.length) k (((mkd f ts).flatMap iR).take (k*3))):=λW2 h=>hrw.kept h (Or.inr (by simp[Value.ownBlock]));have hGr:w.heap.size+1<wr.heap.size:=(hrw.lt (w.heap.size+1) rfl).2;have eG:=aj htk;have hcb:=aj hcg;clear htk hmk hkey hrw;generalize ts[k]=key at c0 c1 c2 hb1' eG;obtain⟨tl,tf,tsd⟩:=key;simp only at c0 c1 c2 hb1' eG;obtain⟨hb1,hb2⟩:=hb1';have HF1:=aj ((ah HF) tf hb1);have HF2:=aj ((ah HF) tsd hb2);have hof:∀W2:World,wr.grownBy W2 none->Calls prog 73 #[.map (some b),.int .i64 tf] W2 λe w'=>e=.returned (.int .i64 (f tf))/\w'=W2:=λW2 h=>o9 W2 b ts.length c f tf ((ah hcb).m.kept (h.block b (ah hcb).m.lt (by simp))) hb1 (by omega);have rJ:∀W2:World,wr.grownBy W2 none->Calls prog 73 #[.map (some b),.int .i64 tsd] W2 λe w'=>e=.returned (.int .i64 (f tsd))/\w'=W2:=λW2 h=>o9 W2 b ts.length c f tsd ((ah hcb).m.kept (h.block b (ah hcb).m.lt (by simp))) hb2 (by omega);have HO1:=aj hof;have HO2:=aj rJ;clear hof rJ hcg;generalize f tf=x1 at HO1 eG;generalize f tsd=x2 at HO2 eG
   gi_wp2
   ·refine jS ?_;have hga:wr.grownBy (wr.alloc (.cells #[.int .u8 tl,.int .i64 tf,.int .i64 tsd] 76)) none:=ad4 _ _ none;obtain⟨W1,hW1⟩:∃W1,wr.alloc (.cells #[.int .u8 tl,.int .i64 tf,.int .i64 tsd] 76)=W1:=⟨_,rfl⟩;have hS0:W1.drew.cell? ⟨wr.heap.size,0,none⟩=some (.int .u8 tl)/\W1.drew.cell? ⟨wr.heap.size,1,none⟩=some (.int .i64 tf)/\W1.drew.cell? ⟨wr.heap.size,2,none⟩=some (.int .i64 tsd):=by
     rw[<-hW1];exact⟨by simp[go_sem],by simp[go_sem],by simp[go_sem]⟩
    have hg1:wr.grownBy W1.drew none:=(by rw[<-hW1];exact⟨rfl,rfl,rfl,by simp,λj hj _=>ae3 _ _ _ hj⟩);rw[hW1]at hga ⊢;clear hW1;refine wu (λW'=>W'.cell? ⟨wr.heap.size,0,none⟩=some (.int .u8 tl)/\W'.cell? ⟨wr.heap.size,1,none⟩=some (.int .i64 tf)/\W'.cell? ⟨wr.heap.size,2,none⟩=some (.int .i64 tsd)) 15 #[false,false,false,false,false,false,false,false,false,false,false,false,false,false,false] (by kernel_rfl) rfl rfl ?_;refine tH 0 (.slice (some ⟨w.heap.size+1,0,none⟩) k ts.length) (λw' hS=>?_) hS0 ?_
    ·obtain⟨s1,s2,s3⟩:=hS;go_simp
    simp only[aC];refine tH 1 (.pointer (some ⟨wr.heap.size,0,none⟩)) (λw' hS=>?_) hS0 ?_
    ·obtain⟨s1,s2,s3⟩:=hS;go_simp
    simp only[aC];refine tH 2 (.int .u8 tl) (λw' hS=>?_) hS0 ?_
    ·obtain⟨s1,s2,s3⟩:=hS;go_simp
    simp only[aC];refine tH 3 (.map (some b)) (λw' hS=>?_) hS0 ?_
    ·obtain⟨s1,s2,s3⟩:=hS;go_simp
    simp only[aC];refine tH 4 (.pointer (some ⟨wr.heap.size,1,none⟩)) (λw' hS=>?_) hS0 ?_
    ·obtain⟨s1,s2,s3⟩:=hS;go_simp
    simp only[aC];refine tH 5 (.int .i64 tf) (λw' hS=>?_) hS0 ?_
    ·obtain⟨s1,s2,s3⟩:=hS;go_simp
    simp only[aC];refine tH 7 (.map (some b)) (λw' hS=>?_) hS0 ?_
    ·obtain⟨s1,s2,s3⟩:=hS;go_simp
    simp only[aC];refine tH 8 (.pointer (some ⟨wr.heap.size,2,none⟩)) (λw' hS=>?_) hS0 ?_
    ·obtain⟨s1,s2,s3⟩:=hS;go_simp
    simp only[aC];refine tH 9 (.int .i64 tsd) (λw' hS=>?_) hS0 ?_
    ·obtain⟨s1,s2,s3⟩:=hS;go_simp
    simp only[aC];have hSt:Hid (∀W':World,W1.drew.grownBy W' none->W'.cell? ⟨wr.heap.size,0,none⟩=some (.int .u8 tl)/\W'.cell? ⟨wr.heap.size,1,none⟩=some (.int .i64 tf)/\W'.cell? ⟨wr.heap.size,2,none⟩=some (.int .i64 tsd)):=λW' hg=>⟨hg.cell hS0.1 (by simp),hg.cell hS0.2.1 (by simp),hg.cell hS0.2.2 (by simp)⟩;refine oH 6 (λK hK=>?_);go_simp;refine(ah HO1 _ hg1).mono ?_;rintro e w2 ⟨rfl,rfl⟩;refine hK.out _ _ hS0 ?_;clear hK K;refine oH 10 (λK hK=>?_);go_simp;refine(ah HO2 _ hg1).mono ?_;rintro e w2 ⟨rfl,rfl⟩;refine hK.out _ _ hS0 ?_;clear hK K;refine oH 11 (λK hK=>?_);go_simp;refine hK.out _ _ hS0 ?_;clear hK K;refine oH 12 (λK hK=>?_);go_simp;have hg4:W1.drew.grownBy (W1.drew.alloc (.cells #[.int .u8 tl,.int .i64 x1,.int .i64 x2] 76)) none:=ad4 _ _ none;refine hK.out _ _ (ah hSt _ hg4) ?_;clear hK K;have hg5:=hg1.trans hg4;refine oH 13 (λK hK=>?_);refine AA (.tmp 19) (.tmp 31) 42 rfl 0 76 i0 3 underlying42 hin hz1 _ _ _ _ rfl (ah hap _ hg5) _ 1 1 (iR (tl,x1,x2)) rfl rfl (Pq _ _ _ _ _ _ rfl) (Hy _) hfit ?_;intro w4 r1 r2;have q0:=ah hSt _ hg4;have hne:wr.heap.size≠w.heap.size+1:=(by omega);have hS4:w4.cell? ⟨wr.heap.size,0,none⟩=some (.int .u8 tl)/\w4.cell? ⟨wr.heap.size,1,none⟩=some (.int .i64 tf)/\w4.cell? ⟨wr.heap.size,2,none⟩=some (.int .i64 tsd):=⟨r2.cell q0.1 (by simpa using hne),r2.cell q0.2.1 (by simpa using hne),r2.cell q0.2.2 (by simpa using hne)⟩;refine hK.out _ _ hS4 ?_;clear hK K;refine oH 14 (λK hK=>?_);go_simp;refine hK.out _ _ hS4 (ag5 (by kernel_rfl) ⟨rfl,?_⟩ _);clear hK K
    gi_wp2
    exact⟨⟨k+1,hfit,by go_num,rfl,by rw[ah eG];exact r1,((ah hcb).grow hg5 (λr e=>by cases e)).grow r2 (λr e=>by cases e;exact⟨by omega,by omega⟩)⟩,by simp[intOf];omega⟩
  ·have hkk:k=ts.length:=(by omega);have hbd:¬(k:Int)<(ts.length:Int):=(by omega);subst hkk;have hfl:((mkd f ts).flatMap iR).take (ts.length*3)=(mkd f ts).flatMap iR:=ah5 (by rw[mF qI,aV];exact ad5 _);rw[hfl]at hrw;have Af:bQ wr (w.heap.size+1) (mkd f ts):=by
    refine⟨(hrw.lt (w.heap.size+1) rfl).2,λi hi=>?_⟩;have hi':i<ts.length:=(by rw[aV]at hi;exact hi);have hcc:∀c,c<3->wr.cell? ⟨w.heap.size+1,i*3+c,none⟩=(iR (mkd f ts)[i])[c]?:=λc hc=>by
     rw[hrw.cellAt (i*3+c) (by omega)];exact flat_get (k:=3) (λ_=>rfl) (by decide) (mkd f ts) i hi c hc
    exact⟨hcc 0 (by decide),hcc 1 (by decide),hcc 2 (by decide)⟩
   have hbel:=hcg.below;clear hfl hrw hcg
   gi_wp2
   refine⟨_,am8 rfl _ _ _,w.heap.size+1,rfl,by omega,Af,hbel⟩
structure CG(w:World)(X1 X2 b:Nat)(f:Nat->Nat)(n c:Nat)(v:Bool)(W:World):Prop where
 x1:W.cell? ⟨X1,0,none⟩=some (.map (some b))
 x2:W.cell? ⟨X2,0,none⟩=some (.bool v)
 f2:W.frozen? ⟨X2,0,none⟩=false
 m:gG W b f n c
 below:Below w.heap.size w W
theorem CG.keep{w:World}{X1 X2 b n c:Nat}{f:Nat->Nat}{v:Bool}{W W':World}{row:Option Nat}{B:Nat}(h:CG w X1 X2 b f n c v W)(hg:W.grownBy W' row)(hb:b<B)(hw:w.heap.size<=B)
 (hr:∀r,row=some r->B<=r/\∃o:Obj,W.heap[r]?=some o/\o.isCells=false):CG w X1 X2 b f n c v W':=by
 have hr':∀r,row=some r->∃o:Obj,W.heap[r]?=some o/\o.isCells=false:=λr e=>(hr r e).2;exact⟨aZ h.x1 hg hr',aZ h.x2 hg hr',(kT h.x2 hg hr').trans h.f2,h.m.kept (hg.block _ h.m.lt (λe=>by have:=(hr b e.symm).1;omega)),ownFrom_below (β:=Unit) (ad5 _) hw () W W' row h.below hg hr⟩
theorem CG.grow{w:World}{X1 X2 b n c:Nat}{f:Nat->Nat}{v:Bool}{W W':World}{row:Option Nat}(h:CG w X1 X2 b f n c v W)(hg:W.grownBy W' row)(hr:∀r,row=some r->r≠X1/\r≠X2/\r≠b/\w.heap.size<=r):CG w X1 X2 b f n c v W':=
 ⟨hg.cell h.x1 (λe=>(hr X1 e.symm).1 rfl),hg.cell h.x2 (λe=>(hr X2 e.symm).2.1 rfl),(ai1 (hg.block X2 (ad7 W _ h.x2) (λe=>(hr X2 e.symm).2.1 rfl))).trans h.f2,
  h.m.kept (hg.block b h.m.lt (λe=>(hr b e.symm).2.2.1 rfl)),h.below.grown hg h.below.size (λk e=>(hr k e).2.2.2)⟩
theorem CG.set{w:World}{X1 X2 b n c:Nat}{f:Nat->Nat}{v:Bool}{W:World}(h:CG w X1 X2 b f n c v W)(v':Bool)(h1:X1≠X2)(h2:b≠X2)(h3:w.heap.size<=X2):CG w X1 X2 b f n c v' (W.setCell ⟨X2,0,none⟩ (.bool v')):=
 ⟨(ae5 (af4 _ _ _ _ h1)).trans h.x1,dB _ h.x2,by rw[ap4];exact h.f2,h.m.kept (af4 _ _ _ _ h2),h.below.setCell h3 _⟩
theorem lI(GT GC GP nc np b c:Nat)(f:Nat->Nat)(ts:List Key)(w:World)(hl:ts.length<=7)(hrt:bQ w GT ts)(hi:aB.Inv ts)(hf:∀i,i<ts.length->f i<ts.length)(hM:gG w b f ts.length c) :
  Calls prog 33 #[fv GT GC GP ts.length nc np,.map (some b)] w λe w'=>e=.returned (.bool (decide (∀p∈aO (mkd f ts) ts.length,f p.1=f p.2)))/\Below w.heap.size w w':=by
 refine(ag4 (n:=5)).1 ?_;have HMD:Hid (∀W:World,Below w.heap.size w W->Calls prog 76 #[fv GT GC GP ts.length nc np,.map (some b)] W λe w'=>∃G,e=.returned (.slice (some ⟨G,0,none⟩) ts.length ts.length)/\W.heap.size<=G/\bQ w' G (mkd f ts)/\Below W.heap.size W w'):=λW h=>
  EY GT GC GP nc np b c f ts W hl (hrt.below h hrt.1) hi hf (hM.kept (h.block b hM.lt))
 unfold fv at HMD ⊢;refine ai6 func33 rfl trivial ?_ rfl;simp only[ntmps33,ae2,ae1,ae8,Nat.reduceAdd,Nat.reduceSub,ae0,ad9,ae4,ag1,ae7,ae6]
 gi_wp2
 obtain⟨wb,hwb⟩:∃wb,((w.alloc (.cells #[.slice (some ⟨GT,0,none⟩) ts.length ts.length,.slice (some ⟨GC,0,none⟩) nc nc,.slice (some ⟨GP,0,none⟩) np np] 46)).alloc (.cells #[.map (some b)] 53)).alloc (.cells #[.bool false] 4)=wb:=⟨_,rfl⟩;have hsb:wb.heap.size=w.heap.size+3:=by rw[<-hwb];simp
 have hgb:w.grownBy wb none:=by rw[<-hwb];exact((ad4 _ _ none).trans (ad4 _ _ none)).trans (ad4 _ _ none)
 have hbb:Below w.heap.size w wb:=⟨hgb.os,hgb.tape,hgb.output,hgb.size,λj hj=>hgb.block j hj (by simp)⟩;have hc1:wb.cell? ⟨w.heap.size+1,0,none⟩=some (.map (some b)):=by rw[<-hwb];simp[go_sem]
 have hc2:wb.cell? ⟨w.heap.size+1+1,0,none⟩=some (.bool false):=by rw[<-hwb];simp[go_sem]
 have hf2:wb.frozen? ⟨w.heap.size+1+1,0,none⟩=false:=by rw[<-hwb];simp[go_sem]
 have Nr:=hM.lt;have Zp:CG w (w.heap.size+1) (w.heap.size+1+1) b f ts.length c false wb:=⟨hc1,hc2,hf2,hM.kept (hgb.block b Nr (by simp)),hbb⟩;rw[hwb];have aaF:w.heap.size+3<=wb.heap.size:=by omega
 have HI:=aj hi;have HF:=aj hf;clear hwb hgb hc1 hc2 hf2 hi hf hM hrt hsb;refine⟨trivial,(ag4.2 (ah HMD wb hbb)).mono ?_⟩;rintro e wr ⟨G,rfl,abo,Af,hb1⟩;have hgr:wb.grownBy wr none:=⟨hb1.os,hb1.tape,hb1.output,hb1.size,λj hj _=>hb1.block j hj⟩;have hcg:=Zp.grow hgr (λr e=>by cases e);have hwr:wb.heap.size<=wr.heap.size:=hb1.size;have HR2:=aj Af;have hcb:=aj hcg;have hbe:=aj hbb;clear Af hcg Zp hgr hb1 hbb HMD
 gi_wp2
 refine⟨trivial,(ag4.2 (zO (some ⟨G,0,none⟩) ts.length ts.length wr)).mono ?_⟩;rintro e w2 ⟨rfl,rfl⟩
 gi_wp2
 obtain⟨w2,hw2⟩:∃w2,wr.alloc (.cells #[.slice (some ⟨G,0,none⟩) ts.length ts.length] 42)=w2:=⟨_,rfl⟩;have hg2:wr.grownBy w2 none:=by rw[<-hw2];exact ad4 _ _ none
 have hs2:w2.heap.size=wr.heap.size+1:=by rw[<-hw2];simp
 have hX2:w2.cell? ⟨wr.heap.size,0,none⟩=some (.slice (some ⟨G,0,none⟩) ts.length ts.length):=by rw[<-hw2];simp[go_sem]
 have Qq:=(ah hcb).grow hg2 (λr e=>by cases e);have hvm:∀x∈mkd f ts,∃l,keyOf prog 76 (aS x)=some l:=by
  intro x hx;obtain⟨q,hq,rfl⟩:=af9.1 hx;obtain⟨i,hi,rfl⟩:=ai0 hq;have hkey:=(ah HI).key i hi;have hb':ts[i].2.1<ts.length/\ts[i].2.2<ts.length/\0<=ts[i].1/\ts[i].1<=255:=by
   rcases hkey with⟨_,_,h3,h4⟩|⟨_,h2,h3⟩|⟨_,h2,h3⟩<;>omega
  have e1:=(ah HF _ hb'.1);have e2:=(ah HF _ hb'.2.1);exact MN _ (by simp;omega) (by simp;omega) (by simp;omega)
 have FB:bQ w2 (G) (mkd f ts):=(ah HR2).same (hg2.block _ (ah HR2).1 (by simp));have YW:G<wr.heap.size:=(ah HR2).1;have hseq:=zN 4 (by omega) wr.heap.size (G) ts.length w2.heap.size (mkd f ts) w2 (ad5 _) (by rw[aV];omega) (by rw[aV];exact hX2) FB hvm;rw[aV]at hseq;rw[hw2];have Nj:wr.heap.size+1<=w2.heap.size:=by omega
 clear hw2 hX2 FB hvm hs2 HR2;have hbw2:w.heap.size<=w2.heap.size:=Qq.below.size;have HP:Hid (∀p∈(aO (mkd f ts) ts.length),p.1<ts.length/\p.2<ts.length):=λp hp=>by
  have h:=(gU (mkd f ts) ts.length (by rw[aV];exact ad5 _) p).1 hp;exact⟨by omega,h.1⟩
 have hI0:CG w (w.heap.size+1) (w.heap.size+1+1) b f ts.length c false w2/\Hid (∀p∈(aO (mkd f ts) ts.length).take 0,f p.1=f p.2):=⟨Qq,λp hp=>by simp at hp⟩;have hown:OwnFrom w2.heap.size (fun(k:Nat) W=>CG w (w.heap.size+1) (w.heap.size+1+1) b f ts.length c false W/\Hid (∀p∈(aO (mkd f ts) ts.length).take k,f p.1=f p.2)):=λk W W' row h hg hr=>⟨h.1.keep hg (B:=w2.heap.size) (by omega) hbw2 hr,h.2⟩;have qW:OwnFrom w2.heap.size (fun(_:Unit) W=>CG w (w.heap.size+1) (w.heap.size+1+1) b f ts.length c false W/\Hid (∃p∈(aO (mkd f ts) ts.length),f p.1≠f p.2)):=λk W W' row h hg hr=>⟨h.1.keep hg (B:=w2.heap.size) (by omega) hbw2 hr,h.2⟩;refine dW rfl (by omega) rfl trivial (λ_ _=>by simp[go_sem]) hseq KA.trans ?_ (ag6 _ _) ?_ _ (λW=>CG w (w.heap.size+1) (w.heap.size+1+1) b f ts.length c false W/\Hid (∃p∈(aO (mkd f ts) ts.length),f p.1≠f p.2)) hown qW hI0
  (λk a' W=>∃hk:k<(aO (mkd f ts) ts.length).length,a'={tmps:=#[.agg #[.slice (some ⟨GT,0,none⟩) ts.length ts.length,.slice (some ⟨GC,0,none⟩) nc nc,.slice (some ⟨GP,0,none⟩) np np],.map (some b),.pointer (some ⟨w.heap.size,0,none⟩),.pointer (some ⟨w.heap.size+1,0,none⟩),.pointer (some ⟨w.heap.size+1+1,0,none⟩),
   .int .i64 ((aO (mkd f ts) ts.length)[k]).1,.int .i64 ((aO (mkd f ts) ts.length)[k]).2,.agg #[.slice (some ⟨GT,0,none⟩) ts.length ts.length,.slice (some ⟨GC,0,none⟩) nc nc,.slice (some ⟨GP,0,none⟩) np np],.map (some b),.slice (some ⟨G,0,none⟩) ts.length ts.length,.func (.func 130) #[] #[.pointer (some ⟨wr.heap.size,0,none⟩)],.int .i64 ((aO (mkd f ts) ts.length)[k]).1,.int .i64 ((aO (mkd f ts) ts.length)[k]).2,undef,undef,undef,undef,undef],defers:=[]}) ?own ?assign ?body ?done ?stop
 ·intro W l o o' hlw ho hc hwk;refine⟨λj x hj hx hxc=>(af0 (λe=>?_)).trans hx,af0 (by omega),af0 (by omega)⟩;subst e;rw[ho]at hx;cases hx;rcases hxc with h|h
  ·rw[hc]at h;cases h
  ·rw[hwk]at h;cases h
 ·intro k hk;simp
 case own=>
  rintro k a' ⟨⟩ W W' row h hg hr;exact h
 case assign=>
  intro l k hk W K hI hK;have hk':k<(aO (mkd f ts) ts.length).length:=by simpa using hk
  have e1:((aO (mkd f ts) ts.length).map λp:Nat×Nat=>#[Value.int .i64 p.1,Value.int .i64 p.2])[k]'hk=#[.int .i64 ((aO (mkd f ts) ts.length)[k]).1,.int .i64 ((aO (mkd f ts) ts.length)[k]).2]:=by simp
  rw[e1];have hK2:=hK _ W ((aq2 _).from _) ⟨λj o hj ho hc=>ho,rfl,rfl⟩ hI ⟨hk',rfl⟩;clear hK;generalize (aO (mkd f ts) ts.length)[k]=pr at hK2 ⊢
  gi_wp2
  exact hK2
 case body=>
  rintro l k a' W hk hl' hI ⟨hk',rfl⟩;have hix:=hI.1.x1;have hx2:=hI.1.x2;have hf2:=hI.1.f2;have hpm:=ah HP _ (ad8 hk');have hsm:=ED W b ts.length c f ((aO (mkd f ts) ts.length)[k]).1 ((aO (mkd f ts) ts.length)[k]).2 hI.1.m hpm.1 hpm.2 (by omega);have hmem:=aj (ad8 hk');have htk:(aO (mkd f ts) ts.length).take (k+1)=(aO (mkd f ts) ts.length).take k++[(aO (mkd f ts) ts.length)[k]]:=by rw[ah1,ad6 hk'];rfl
  have eG:=aj htk;have hIb:=aj hI;clear hI htk hpm hI0 hown qW hseq;generalize (aO (mkd f ts) ts.length)[k]=pr at hsm hmem eG ⊢;obtain⟨x,y⟩:=pr;simp only at hsm ⊢;by_cases he:f x=f y
  ·have HE:=aj he;rw[aq5 he]at hsm;clear he
   gi_wp2
   refine⟨trivial,al4 l (ag4.2 (hsm.mono ?_))⟩;rintro e w3 ⟨rfl,rfl⟩
   gi_wp2
   refine⟨(aq2 _).from _,⟨λj o hj ho hc=>ho,rfl,rfl⟩,(ah hIb).1,?_⟩;intro p hp;rw[ah eG]at hp;rcases ag9.1 hp with h|h
   ·exact ah (ah hIb).2 p h
   ·rw[ag0.1 h];exact ah HE
  ·have HE:=aj he;rw[ao5 he]at hsm;clear he
   gi_wp2
   refine⟨trivial,al4 l (ag4.2 (hsm.mono ?_))⟩;rintro e w3 ⟨rfl,rfl⟩
   gi_wp2
   refine⟨⟨by simp[World.setCell],λj o hj ho hc=>(af4 _ _ _ _ (by show j≠w.heap.size+1+1;omega)).trans ho⟩,(ah hIb).1.set false (by omega) (by omega) (by omega),?_⟩;exact⟨_,ah hmem,ah HE⟩
 case done=>
  intro D W hD hI hdef;have hx2:=hI.1.x2;have hf2:=hI.1.f2
  gi_wp2
  have hcs:=hI.1.set true (by omega) (by omega) (by omega);have yV:(W.setCell ⟨w.heap.size+1+1,0,none⟩ (.bool true)).heap[D]?=some (.deferred (some [])):=(af4 _ _ _ _ (by show D≠w.heap.size+1+1;omega)).trans hdef;have hcp:=hcs.keep (ak4 _ D (.deferred none)) (B:=w2.heap.size) (by omega) hbw2 (λr e=>by cases e;exact⟨hD,_,yV,rfl⟩);have hx3:=hcp.x2;refine⟨by simp,.inl ⟨_,_,rfl,aj6 yV,?_⟩⟩;refine⟨.bool true,by simp[results,results33,go_sem,hx3],?_,hcp.below⟩;have hall:=ah hI.2;rw[ah5 (by simp)]at hall;rw[aq5 hall]
 case stop=>
  intro D W hD hI hdef;have hx2:=hI.1.x2
  gi_wp2
  have hcp:=hI.1.keep (ak4 _ D (.deferred none)) (B:=w2.heap.size) (by omega) hbw2 (λr e=>by cases e;exact⟨hD,_,hdef,rfl⟩);have hx3:=hcp.x2;refine⟨by simp,.inl ⟨_,_,rfl,aj6 hdef,?_⟩⟩;refine⟨.bool false,by simp[results,results33,go_sem,hx3],?_,hcp.below⟩;obtain⟨p,hp,hne⟩:=ah hI.2;rw[ao5 (λh=>hne (h p hp))]
def uX(f:Nat->Nat)(cs:List (Int×Nat)):List (Int×Nat):=cs.map λk=>(k.1,f k.2)
theorem fO(f:Nat->Nat)(cs:List (Int×Nat)):(uX f cs).length=cs.length:=by simp[uX]
theorem EW(w:World)(a:Int)(b:Nat)(t:TypeId)(n:Nat)(hn:w.heap.size=n):∀j u,(lH (a,b))[j]?=some u->(w.alloc (.cells #[.int .u8 a,.int .i64 b] t)).cell? ((⟨n,0,none⟩:Addr).add j)=some u:=by
 subst hn;exact Pv w a b t
def bY(w:World)(H:Nat)(hl:List Bool):Prop:=H<w.heap.size/\∀i (hi:i<hl.length),w.cell? ⟨H,i,none⟩=some (.bool hl[i])
theorem bY.same{w w':World}{H:Nat}{hl:List Bool}(h:bY w H hl)(hb:w'.heap[H]?=w.heap[H]?):bY w' H hl:=
 ⟨by have h1:=h.1;rw[ag7 h1]at hb;exact(ad3.1 hb).1,λi hi=>(ae5 hb).trans (h.2 i hi)⟩
theorem bY.at{w:World}{H:Nat}{hl:List Bool}(h:bY w H hl){i:Nat}(hi:i<hl.length):w.cell? ⟨H,i,none⟩=some (.bool (hl.getD i false)):=by
 rw[h.2 i hi];simp[List.getD,hi]
def sv(b H n:Nat):Value:=.agg #[.map (some b),.slice (some ⟨H,0,none⟩) n n]
structure AE(w:World)(X1 X2 H cp:Nat)(hl:List Bool)(v:Bool)(W:World):Prop where
 xh:W.cell? ⟨X1,0,none⟩=some (.slice (some ⟨H,0,none⟩) hl.length cp)
 x2:W.cell? ⟨X2,0,none⟩=some (.bool v)
 f2:W.frozen? ⟨X2,0,none⟩=false
 h:bY W H hl
 below:Below w.heap.size w W
theorem AE.keep{w:World}{X1 X2 H cp:Nat}{hl:List Bool}{v:Bool}{W W':World}{row:Option Nat}{B:Nat}(h:AE w X1 X2 H cp hl v W)(hg:W.grownBy W' row)(hH:H<B)(hw:w.heap.size<=B)
 (hr:∀r,row=some r->B<=r/\∃o:Obj,W.heap[r]?=some o/\o.isCells=false):AE w X1 X2 H cp hl v W':=by
 have hr':∀r,row=some r->∃o:Obj,W.heap[r]?=some o/\o.isCells=false:=λr e=>(hr r e).2;exact⟨aZ h.xh hg hr',aZ h.x2 hg hr',(kT h.x2 hg hr').trans h.f2,h.h.same (hg.block _ h.h.1 (λe=>by have:=(hr H e.symm).1;omega)),ownFrom_below (β:=Unit) (ad5 _) hw () W W' row h.below hg hr⟩
theorem AE.grow{w:World}{X1 X2 H cp:Nat}{hl:List Bool}{v:Bool}{W W':World}{row:Option Nat}(h:AE w X1 X2 H cp hl v W)(hg:W.grownBy W' row)(hr:∀r,row=some r->r≠X1/\r≠X2/\r≠H/\w.heap.size<=r):AE w X1 X2 H cp hl v W':=
 ⟨hg.cell h.xh (λe=>(hr X1 e.symm).1 rfl),hg.cell h.x2 (λe=>(hr X2 e.symm).2.1 rfl),(ai1 (hg.block X2 (ad7 W _ h.x2) (λe=>(hr X2 e.symm).2.1 rfl))).trans h.f2,
  h.h.same (hg.block H h.h.1 (λe=>(hr H e.symm).2.2.1 rfl)),h.below.grown hg h.below.size (λk e=>(hr k e).2.2.2)⟩
theorem AE.set{w:World}{X1 X2 H cp:Nat}{hl:List Bool}{v:Bool}{W:World}(h:AE w X1 X2 H cp hl v W)(v':Bool)(h1:X1≠X2)(h4:H≠X2)(h3:w.heap.size<=X2):AE w X1 X2 H cp hl v' (W.setCell ⟨X2,0,none⟩ (.bool v')):=
 ⟨(ae5 (af4 _ _ _ _ h1)).trans h.xh,dB _ h.x2,by rw[ap4];exact h.f2,h.h.same (af4 _ _ _ _ h4),h.below.setCell h3 _⟩
theorem BN(G cap H cp:Nat)(cs:List (Int×Nat))(hl:List Bool)(w:World)(hn:cs.length<=100)(hlh:hl.length=cs.length)(hrt:eF w G cs)(hv:∀x∈cs,∃l,keyOf prog 79 (iT x)=some l)(hH:bY w H hl) :
  Calls prog 78 #[.slice (some ⟨G,0,none⟩) cs.length cap,.slice (some ⟨H,0,none⟩) hl.length cp] w λe w'=>e=.returned (.bool (decide (∀p∈aO cs cs.length,hl.getD p.1 false=hl.getD p.2 false)))/\Below w.heap.size w w':=by
 refine(ag4 (n:=5)).1 ?_;have HLH:=aj hlh;clear hlh;refine ai6 func78 rfl trivial ?_ rfl;simp only[ntmps78,ae2,ae1,ae8,Nat.reduceAdd,Nat.reduceSub,ae0,ad9,ae4,ag1,ae7,ae6]
 gi_wp2
 obtain⟨wr,hwr⟩:∃wr,(w.alloc (.cells #[.slice (some ⟨H,0,none⟩) hl.length cp] 54)).alloc (.cells #[.bool false] 4)=wr:=⟨_,rfl⟩;have hsr:wr.heap.size=w.heap.size+2:=by rw[<-hwr];simp
 have hgr:w.grownBy wr none:=by rw[<-hwr];exact(ad4 _ _ none).trans (ad4 _ _ none)
 have hbr:Below w.heap.size w wr:=⟨hgr.os,hgr.tape,hgr.output,hgr.size,λj hj=>hgr.block j hj (by simp)⟩;have hlH:=hH.1;have hcg:AE w w.heap.size (w.heap.size+1) H cp hl false wr:=⟨by rw[<-hwr];simp[go_sem],by rw[<-hwr];simp[go_sem],by rw[<-hwr];simp[go_sem],hH.same (hgr.block H hlH (by simp)),hbr⟩;have HR2:Hid (eF wr G cs):=hrt.below hbr hrt.1;have HV:=aj hv;have ac5:w.heap.size+2<=wr.heap.size:=by omega
 rw[hwr];have hcb:=aj hcg;clear hwr hsr hgr hbr hH hrt hv hcg;refine⟨trivial,(ag4.2 (zQ (some ⟨G,0,none⟩) cs.length cap wr)).mono ?_⟩;rintro e w2 ⟨rfl,rfl⟩
 gi_wp2
 obtain⟨w2,hw2⟩:∃w2,wr.alloc (.cells #[.slice (some ⟨G,0,none⟩) cs.length cap] 43)=w2:=⟨_,rfl⟩;have hg2:wr.grownBy w2 none:=by rw[<-hw2];exact ad4 _ _ none
 have hs2:w2.heap.size=wr.heap.size+1:=by rw[<-hw2];simp
 have hX2:w2.cell? ⟨wr.heap.size,0,none⟩=some (.slice (some ⟨G,0,none⟩) cs.length cap):=by rw[<-hw2];simp[go_sem]
 have Qq:=(ah hcb).grow hg2 (λr e=>by cases e);have FB:eF w2 G cs:=(ah HR2).same (hg2.block _ (ah HR2).1 (by simp));have YW:G<wr.heap.size:=(ah HR2).1;have hseq:=Jt 4 (by omega) wr.heap.size G cap w2.heap.size cs w2 (ad5 _) (by omega) hX2 FB (ah HV);rw[hw2];have Nj:wr.heap.size+1<=w2.heap.size:=by omega
 clear hw2 hX2 FB hs2 HR2;have hbw2:w.heap.size<=w2.heap.size:=Qq.below.size;have HP:Hid (∀p∈(aO cs cs.length),p.1<cs.length/\p.2<cs.length):=λp hp=>by
  have h:=(gU cs cs.length (ad5 _) p).1 hp;exact⟨by omega,h.1⟩
 have hI0:AE w w.heap.size (w.heap.size+1) H cp hl false w2/\Hid (∀p∈(aO cs cs.length).take 0,hl.getD p.1 false=hl.getD p.2 false):=⟨Qq,λp hp=>by simp at hp⟩;have hown:OwnFrom w2.heap.size (fun(k:Nat) W=>AE w w.heap.size (w.heap.size+1) H cp hl false W/\Hid (∀p∈(aO cs cs.length).take k,hl.getD p.1 false=hl.getD p.2 false)):=λk W W' row h hg hr=>⟨h.1.keep hg (B:=w2.heap.size) (by omega) hbw2 hr,h.2⟩;have qW:OwnFrom w2.heap.size (fun(_:Unit) W=>AE w w.heap.size (w.heap.size+1) H cp hl false W/\Hid (∃p∈(aO cs cs.length),hl.getD p.1 false≠hl.getD p.2 false)):=λk W W' row h hg hr=>⟨h.1.keep hg (B:=w2.heap.size) (by omega) hbw2 hr,h.2⟩;refine dW rfl (by omega) rfl trivial (λ_ _=>by simp[go_sem]) hseq KA.trans ?_ (ag6 _ _) ?_ _ (λW=>AE w w.heap.size (w.heap.size+1) H cp hl false W/\Hid (∃p∈(aO cs cs.length),hl.getD p.1 false≠hl.getD p.2 false)) hown qW hI0
  (λk a' W=>∃hk:k<(aO cs cs.length).length,a'={tmps:=#[.slice (some ⟨G,0,none⟩) cs.length cap,.slice (some ⟨H,0,none⟩) hl.length cp,undef,.pointer (some ⟨w.heap.size,0,none⟩),.pointer (some ⟨w.heap.size+1,0,none⟩),
   .int .i64 ((aO cs cs.length)[k]).1,.int .i64 ((aO cs cs.length)[k]).2,.slice (some ⟨G,0,none⟩) cs.length cap,.func (.func 169) #[] #[.pointer (some ⟨wr.heap.size,0,none⟩)],.int .i64 ((aO cs cs.length)[k]).1,.int .i64 ((aO cs cs.length)[k]).2,undef,undef,undef,undef,undef,undef,undef,undef,undef],defers:=[]}) ?own ?assign ?body ?done ?stop
 ·intro W l o o' hlw ho hc hwk;refine⟨λj x hj hx hxc=>(af0 (λe=>?_)).trans hx,af0 (by omega),af0 (by omega)⟩;subst e;rw[ho]at hx;cases hx;rcases hxc with h|h
  ·rw[hc]at h;cases h
  ·rw[hwk]at h;cases h
 ·intro k hk;simp
 case own=>
  rintro k a' ⟨⟩ W W' row h hg hr;exact h
 case assign=>
  intro l k hk W K hI hK;have hk':k<(aO cs cs.length).length:=by simpa using hk
  have e1:((aO cs cs.length).map λp:Nat×Nat=>#[Value.int .i64 p.1,Value.int .i64 p.2])[k]'hk=#[.int .i64 ((aO cs cs.length)[k]).1,.int .i64 ((aO cs cs.length)[k]).2]:=by simp
  rw[e1];have hK2:=hK _ W ((aq2 _).from _) ⟨λj o hj ho hc=>ho,rfl,rfl⟩ hI ⟨hk',rfl⟩;clear hK;generalize (aO cs cs.length)[k]=pr at hK2 ⊢
  gi_wp2
  exact hK2
 case body=>
  rintro l k a' W hk hl' hI ⟨hk',rfl⟩;have hx2:=hI.1.x2;have hf2:=hI.1.f2;have hpm:=ah HP _ (ad8 hk');have hxl:((aO cs cs.length)[k]).1<hl.length:=by rw[ah HLH];exact hpm.1
  have hyl:((aO cs cs.length)[k]).2<hl.length:=by rw[ah HLH];exact hpm.2
  have hcx:=hI.1.h.at hxl;have hcy:=hI.1.h.at hyl;have hxh:=hI.1.xh;have hmem:=aj (ad8 hk');have htk:(aO cs cs.length).take (k+1)=(aO cs cs.length).take k++[(aO cs cs.length)[k]]:=by rw[ah1,ad6 hk'];rfl
  have eG:=aj htk;have hIb:=aj hI;clear hI htk hpm hI0 hown qW hseq;generalize (aO cs cs.length)[k]=pr at hxl hyl hcx hcy hmem eG ⊢;obtain⟨x,y⟩:=pr;simp only at hxl hyl hcx hcy ⊢;generalize hbx:hl.getD x false=bx at hcx;generalize hby:hl.getD y false=by' at hcy;have HX:=aj hbx;have HY:=aj hby
  have hxi:(x:Int)<(hl.length:Int):=by omega
  have hyi:(y:Int)<(hl.length:Int):=by omega
  clear hbx hby hxl hyl
  gi_wp2
  refine jS ?_;have hS0:W.drew.cell? ⟨w.heap.size,0,none⟩=some (.slice (some ⟨H,0,none⟩) hl.length cp)/\W.drew.cell? ⟨H,x,none⟩=some (.bool bx)/\W.drew.cell? ⟨H,y,none⟩=some (.bool by'):=⟨hxh,hcx,hcy⟩;refine Ad (λW'=>W'.cell? ⟨w.heap.size,0,none⟩=some (.slice (some ⟨H,0,none⟩) hl.length cp)/\W'.cell? ⟨H,x,none⟩=some (.bool bx)/\W'.cell? ⟨H,y,none⟩=some (.bool by')) 9 #[false,false,false,false,false,false,false,false,false] (by kernel_rfl) rfl rfl (by kernel_rfl) (by rintro⟨_,_,h,_⟩;cases h) ?_;refine tH 0 (.slice (some ⟨H,0,none⟩) hl.length cp) (λw' hS=>?_) hS0 ?_
  ·obtain⟨s1,s2,s3⟩:=hS;go_simp
  simp only[aC];refine tH 1 (.int .i64 x) (λw' hS=>?_) hS0 ?_
  ·obtain⟨s1,s2,s3⟩:=hS;go_simp
  simp only[aC];refine tH 2 (.pointer (some ⟨H,x,none⟩)) (λw' hS=>?_) hS0 ?_
  ·obtain⟨s1,s2,s3⟩:=hS;go_simp
  simp only[aC];refine tH 3 (.bool bx) (λw' hS=>?_) hS0 ?_
  ·obtain⟨s1,s2,s3⟩:=hS;go_simp
  simp only[aC];refine tH 4 (.slice (some ⟨H,0,none⟩) hl.length cp) (λw' hS=>?_) hS0 ?_
  ·obtain⟨s1,s2,s3⟩:=hS;go_simp
  simp only[aC];refine tH 5 (.int .i64 y) (λw' hS=>?_) hS0 ?_
  ·obtain⟨s1,s2,s3⟩:=hS;go_simp
  simp only[aC];refine tH 6 (.pointer (some ⟨H,y,none⟩)) (λw' hS=>?_) hS0 ?_
  ·obtain⟨s1,s2,s3⟩:=hS;go_simp
  simp only[aC];refine tH 7 (.bool by') (λw' hS=>?_) hS0 ?_
  ·obtain⟨s1,s2,s3⟩:=hS;go_simp
  simp only[aC];refine tH 8 (.bool (bx != by')) (λw' hS=>?_) hS0 ?_
  ·obtain⟨s1,s2,s3⟩:=hS;cases bx<;>cases by'<;>go_simp
  simp only[aC];refine ag5 (by kernel_rfl) ⟨rfl,?_⟩ _;have hgd:W.grownBy W.drew none:=⟨rfl,rfl,rfl,ad5 _,λj hj _=>rfl⟩;have hId:AE w w.heap.size (w.heap.size+1) H cp hl false W.drew:=(ah hIb).1.grow hgd (λr e=>by cases e);have hx2:W.drew.cell? ⟨w.heap.size+1,0,none⟩=some (.bool false):=hId.x2;have hf2:W.drew.frozen? ⟨w.heap.size+1,0,none⟩=false:=hId.f2;have HID:=aj hId;clear hId hgd hS0 hcx hcy hxh;generalize hvb:(bx != by')=vb;have HVB:=aj hvb;clear hvb;cases vb
  ·gi_wp2
   refine⟨⟨by simp,λj o hj ho hc=>ho⟩,⟨λj o hj ho hc=>ho,rfl,rfl⟩,ah HID,?_⟩;intro p hp;rw[ah eG]at hp;rcases ag9.1 hp with h|h
   ·exact ah (ah hIb).2 p h
   ·rw[ag0.1 h]
    show hl.getD x false=hl.getD y false
    rw[ah HX,ah HY];have:=ah HVB;revert this;cases bx<;>cases by'<;>simp
  ·gi_wp2
   refine⟨⟨by simp[World.setCell],λj o hj ho hc=>(af4 _ _ _ _ (by show j≠w.heap.size+1;omega)).trans ho⟩,(ah HID).set false (by omega) (by omega) (by omega),?_⟩;refine⟨_,ah hmem,?_⟩
   show ¬hl.getD x false=hl.getD y false
   rw[ah HX,ah HY];have:=ah HVB;revert this;cases bx<;>cases by'<;>simp
 case done=>
  intro D W hD hI hdef;have hx2:=hI.1.x2;have hf2:=hI.1.f2
  gi_wp2
  have hcs:=hI.1.set true (by omega) (by omega) (by omega);have yV:(W.setCell ⟨w.heap.size+1,0,none⟩ (.bool true)).heap[D]?=some (.deferred (some [])):=(af4 _ _ _ _ (by show D≠w.heap.size+1;omega)).trans hdef;have hcp:=hcs.keep (ak4 _ D (.deferred none)) (B:=w2.heap.size) (by omega) hbw2 (λr e=>by cases e;exact⟨hD,_,yV,rfl⟩);have hx3:=hcp.x2;refine⟨by simp,.inl ⟨_,_,rfl,aj6 yV,?_⟩⟩;refine⟨.bool true,by simp[results,results78,go_sem,hx3],?_,hcp.below⟩;have hall:=ah hI.2;rw[ah5 (by simp)]at hall;rw[aq5 hall]
 case stop=>
  intro D W hD hI hdef;have hx2:=hI.1.x2
  gi_wp2
  have hcp:=hI.1.keep (ak4 _ D (.deferred none)) (B:=w2.heap.size) (by omega) hbw2 (λr e=>by cases e;exact⟨hD,_,hdef,rfl⟩);have hx3:=hcp.x2;refine⟨by simp,.inl ⟨_,_,rfl,aj6 hdef,?_⟩⟩;refine⟨.bool false,by simp[results,results78,go_sem,hx3],?_,hcp.below⟩;obtain⟨p,hp,hne⟩:=ah hI.2;rw[ao5 (λh=>hne (h p hp))]
structure AM(w:World)(X1 b H:Nat)(f:Nat->Nat)(n c:Nat)(hl:List Bool)(W:World):Prop where
 x1:W.cell? ⟨X1,0,none⟩=some (.map (some b))
 xh:W.cell? ⟨X1,1,none⟩=some (.slice (some ⟨H,0,none⟩) hl.length hl.length)
 m:dN W b f n c
 h:bY W H hl
 below:Below w.heap.size w W
theorem AM.grow{w:World}{X1 b H n c:Nat}{f:Nat->Nat}{hl:List Bool}{W W':World}{row:Option Nat}(h:AM w X1 b H f n c hl W)(hg:W.grownBy W' row)(hr:∀r,row=some r->r≠X1/\r≠b/\r≠H/\w.heap.size<=r):AM w X1 b H f n c hl W':=
 ⟨hg.cell h.x1 (λe=>(hr X1 e.symm).1 rfl),hg.cell h.xh (λe=>(hr X1 e.symm).1 rfl),h.m.kept (hg.block b h.m.lt (λe=>(hr b e.symm).2.1 rfl)),h.h.same (hg.block H h.h.1 (λe=>(hr H e.symm).2.2.1 rfl)),h.below.grown hg h.below.size (λk e=>(hr k e).2.2.2)⟩
theorem zS(GT GC GP nt np b c H:Nat)(f:Nat->Nat)(cs:List (Int×Nat))(hl:List Bool)(w:World)(h4:cs.length<=4)(hnt:nt<=7)(hlh:hl.length=cs.length)(hrt:eF w GC cs)(hi:∀x∈cs,(x.1=80\/x.1=81)/\x.2<nt)(hf:∀i,i<nt->f i<=i/\f (f i)=f i)(hM:dN w b f nt c)(hH:bY w H hl) :
  Calls prog 34 #[fv GT GC GP nt cs.length np,sv b H hl.length] w λe w'=>e=.returned (.bool (decide (∀p∈aO (uX f cs) cs.length,hl.getD p.1 false=hl.getD p.2 false)))/\Below w.heap.size w w':=by
 refine(ag4 (n:=5)).1 ?_;unfold fv sv;have HLH:=aj hlh;clear hlh;obtain⟨wb,hwb⟩:∃wb,(w.alloc (.cells #[.slice (some ⟨GT,0,none⟩) nt nt,.slice (some ⟨GC,0,none⟩) cs.length cs.length,.slice (some ⟨GP,0,none⟩) np np] 46)).alloc (.cells #[.map (some b),.slice (some ⟨H,0,none⟩) hl.length hl.length] 56)=wb:=⟨_,rfl⟩;have hsb:wb.heap.size=w.heap.size+2:=by rw[<-hwb];simp
 have hgb:w.grownBy wb none:=by rw[<-hwb];exact(ad4 _ _ none).trans (ad4 _ _ none)
 have hbb:Below w.heap.size w wb:=⟨hgb.os,hgb.tape,hgb.output,hgb.size,λj hj=>hgb.block j hj (by simp)⟩;have hch:wb.cell? ⟨w.heap.size+1,1,none⟩=some (.slice (some ⟨H,0,none⟩) hl.length hl.length):=by rw[<-hwb];simp[go_sem]
 have hc0:wb.cell? ⟨w.heap.size,1,none⟩=some (.slice (some ⟨GC,0,none⟩) cs.length cs.length):=by rw[<-hwb];simp[go_sem]
 have hc1:wb.cell? ⟨w.heap.size+1,0,none⟩=some (.map (some b)):=by rw[<-hwb];simp[go_sem]
 obtain⟨i0,hin,hz0,hz1,hz2⟩:=ak7 J6;obtain⟨w1,hmk,hrow,hg1⟩:=as3 (P:=prog) wb wb.heap.size 43 79 i0 _ 2 underlying43 hin hz0 hz1 .i64 .i64 cs.length (by rw[hz2];omega) (by unfold maxLen;omega) (ad5 _);have hb1:Below w.heap.size w w1:=hbb.trans ⟨hg1.os,hg1.tape,hg1.output,hg1.size,λj hj=>hg1.block j (by omega) (by simp)⟩;have Nr:=hM.lt;have hlG:=hrt.1;have hlH:=hH.1;have Xu:AM w (w.heap.size+1) b H f nt c hl w1:=
  ⟨hg1.cell hc1 (by simp),hg1.cell hch (by simp),(hM.kept (hgb.block b Nr (by simp))).kept (hg1.block b (by omega) (by simp)),(hH.same (hgb.block H hlH (by simp))).same (hg1.block H (by omega) (by simp)),hb1⟩
 have hk0:w1.cell? ⟨w.heap.size,1,none⟩=some (.slice (some ⟨GC,0,none⟩) cs.length cs.length):=hg1.cell hc0 (by simp);have hlt1:w.heap.size+2<w1.heap.size:=by have h:=(hrow.lt wb.heap.size rfl).2;omega
 have HSB:=aj hsb;rw[hsb]at hrow;have hmk':Hid _:=hmk;have HI:=aj hi;have HRT:=aj hrt;have HF:=aj hf;have HWB:=aj hwb;rw[<-hwb]at hmk;have Qc:((w.alloc (.cells #[.slice (some ⟨GT,0,none⟩) nt nt,.slice (some ⟨GC,0,none⟩) cs.length cs.length,.slice (some ⟨GP,0,none⟩) np np] 46)).alloc (.cells #[.map (some b),.slice (some ⟨H,0,none⟩) hl.length hl.length] 56)).heap.size=w.heap.size+2:=by simp
 rw[Qc]at hmk;clear hmk' hwb hi hrt hf hsb Qc hgb hc0 hc1 hch hg1 hM hH;refine ai6 func34 rfl trivial ?_ rfl;simp only[ntmps34,ae2,ae1,ae8,Nat.reduceAdd,Nat.reduceSub,ae0,ad9,ae4,ag1,ae7,ae6]
 gi_wp2
 have hrow0:w1.ownsRow 0 79 2 (.slice (some ⟨w.heap.size+2,0,none⟩) 0 cs.length) 0 []:=fK hrow (ah2 _);clear hmk hrow hk0
 gi_loopw [5,15] (λt i wr=>∃k:Nat,k<=cs.length/\i=.int .i64 k/\t=.slice (some ⟨w.heap.size+2,0,none⟩) k cs.length/\wr.ownsRow 0 79 2 (.slice (some ⟨w.heap.size+2,0,none⟩) k cs.length) k (((uX f cs).flatMap lH).take (k*2))/\AM w (w.heap.size+1) b H f nt c hl wr) (λ_ i _=>cs.length-(intOf i).toNat)
 case atStart=>exact⟨0,ah2 _,rfl,rfl,by rw[aq7,ao2];exact hrow0,Xu⟩
 case round=>
  obtain⟨k,hk,rfl,rfl,hrw,hcg⟩:=hrel;by_cases hlt:k<cs.length
  ·have hbd:(k:Int)<(cs.length:Int):=(by omega);obtain⟨c0,c1⟩:=((ah HRT).below hcg.below hlG).2 k hlt;have hfit:k+1<=cs.length:=hlt;have hb1':cs[k].2<nt:=((ah HI) _ (ad8 hlt)).2;have htk:=jT qJ (uX f cs) k (by rw[fO];exact hlt);have hmk:(uX f cs)[k]'(by rw[fO];exact hlt)=(cs[k].1,f cs[k].2):=(by simp[uX]);rw[hmk]at htk;have hap:Hid (∀W2:World,wr.grownBy W2 none->W2.ownsRow 0 79 2 (.slice (some ⟨w.heap.size+2,0,none⟩) k cs.length) k (((uX f cs).flatMap lH).take (k*2))):=λW2 h=>hrw.kept h (Or.inr (by simp[Value.ownBlock]));have hGr:w.heap.size+2<wr.heap.size:=(hrw.lt (w.heap.size+2) rfl).2;have eG:=aj htk;have hcb:=aj hcg;clear htk hmk hrw;generalize cs[k]=key at c0 c1 hb1' eG;obtain⟨tl,tf⟩:=key;simp only at c0 c1 hb1' eG;have HF1:=aj ((ah HF) tf hb1');have hof:∀W2:World,wr.grownBy W2 none->Calls prog 73 #[.map (some b),.int .i64 tf] W2 λe w'=>e=.returned (.int .i64 (f tf))/\w'=W2:=λW2 h=>yB W2 b nt c f tf ((ah hcb).m.kept (h.block b (ah hcb).m.lt (by simp))) hb1' (by omega) (ah HF1).1 (ah HF1).2;have HO1:=aj hof;clear hof hcg;generalize f tf=x1 at HO1 eG
   gi_wp2
   ·refine jS ?_;have hga:wr.grownBy (wr.alloc (.cells #[.int .u8 tl,.int .i64 tf] 79)) none:=ad4 _ _ none;obtain⟨W1,hW1⟩:∃W1,wr.alloc (.cells #[.int .u8 tl,.int .i64 tf] 79)=W1:=⟨_,rfl⟩;have hS0:W1.drew.cell? ⟨wr.heap.size,0,none⟩=some (.int .u8 tl)/\W1.drew.cell? ⟨wr.heap.size,1,none⟩=some (.int .i64 tf)/\W1.drew.cell? ⟨w.heap.size+1,0,none⟩=some (.map (some b)):=by
     rw[<-hW1];exact⟨by simp[go_sem],by simp[go_sem],hga.cell (ah hcb).x1 (by simp)⟩
    have hg1:wr.grownBy W1.drew none:=(by rw[<-hW1];exact⟨rfl,rfl,rfl,by simp,λj hj _=>ae3 _ _ _ hj⟩);rw[hW1]at hga ⊢;clear hW1;refine wu (λW'=>W'.cell? ⟨wr.heap.size,0,none⟩=some (.int .u8 tl)/\W'.cell? ⟨wr.heap.size,1,none⟩=some (.int .i64 tf)/\W'.cell? ⟨w.heap.size+1,0,none⟩=some (.map (some b))) 12 #[false,false,false,false,false,false,false,false,false,false,false,false] (by kernel_rfl) rfl rfl ?_;refine tH 0 (.slice (some ⟨w.heap.size+2,0,none⟩) k cs.length) (λw' hS=>?_) hS0 ?_
    ·obtain⟨s1,s2,s3⟩:=hS;go_simp
    simp only[aC];refine tH 1 (.pointer (some ⟨wr.heap.size,0,none⟩)) (λw' hS=>?_) hS0 ?_
    ·obtain⟨s1,s2,s3⟩:=hS;go_simp
    simp only[aC];refine tH 2 (.int .u8 tl) (λw' hS=>?_) hS0 ?_
    ·obtain⟨s1,s2,s3⟩:=hS;go_simp
    simp only[aC];refine tH 3 (.pointer (some ⟨w.heap.size+1,0,none⟩)) (λw' hS=>?_) hS0 ?_
    ·obtain⟨s1,s2,s3⟩:=hS;go_simp
    simp only[aC];refine tH 4 (.map (some b)) (λw' hS=>?_) hS0 ?_
    ·obtain⟨s1,s2,s3⟩:=hS;go_simp
    simp only[aC];refine tH 5 (.pointer (some ⟨wr.heap.size,1,none⟩)) (λw' hS=>?_) hS0 ?_
    ·obtain⟨s1,s2,s3⟩:=hS;go_simp
    simp only[aC];refine tH 6 (.int .i64 tf) (λw' hS=>?_) hS0 ?_
    ·obtain⟨s1,s2,s3⟩:=hS;go_simp
    simp only[aC];have hSt:Hid (∀W':World,W1.drew.grownBy W' none->W'.cell? ⟨wr.heap.size,0,none⟩=some (.int .u8 tl)/\W'.cell? ⟨wr.heap.size,1,none⟩=some (.int .i64 tf)/\W'.cell? ⟨w.heap.size+1,0,none⟩=some (.map (some b))):=λW' hg=>⟨hg.cell hS0.1 (by simp),hg.cell hS0.2.1 (by simp),hg.cell hS0.2.2 (by simp)⟩;refine oH 7 (λK hK=>?_);go_simp;refine(ah HO1 _ hg1).mono ?_;rintro e w2 ⟨rfl,rfl⟩;refine hK.out _ _ hS0 ?_;clear hK K;refine oH 8 (λK hK=>?_);go_simp;refine hK.out _ _ hS0 ?_;clear hK K;refine oH 9 (λK hK=>?_);go_simp;have hg4:W1.drew.grownBy (W1.drew.alloc (.cells #[.int .u8 tl,.int .i64 x1] 79)) none:=ad4 _ _ none;refine hK.out _ _ (ah hSt _ hg4) ?_;clear hK K;have hg5:=hg1.trans hg4;refine oH 10 (λK hK=>?_);refine AA (.tmp 19) (.tmp 28) 43 rfl 0 79 i0 2 underlying43 hin hz1 _ _ _ _ rfl (ah hap _ hg5) _ 1 1 (lH (tl,x1)) rfl rfl (EW _ _ _ _ _ rfl) (O6 _) hfit ?_;intro w4 r1 r2;have q0:=ah hSt _ hg4;have hne:wr.heap.size≠w.heap.size+2:=(by omega);have hS4:w4.cell? ⟨wr.heap.size,0,none⟩=some (.int .u8 tl)/\w4.cell? ⟨wr.heap.size,1,none⟩=some (.int .i64 tf)/\w4.cell? ⟨w.heap.size+1,0,none⟩=some (.map (some b)):=⟨r2.cell q0.1 (by simpa using hne),r2.cell q0.2.1 (by simpa using hne),r2.cell q0.2.2 (by simp)⟩;refine hK.out _ _ hS4 ?_;clear hK K;refine oH 11 (λK hK=>?_);go_simp;refine hK.out _ _ hS4 (ag5 (by kernel_rfl) ⟨rfl,?_⟩ _);clear hK K
    gi_wp2
    exact⟨⟨k+1,hfit,by go_num,rfl,by rw[ah eG];exact r1,((ah hcb).grow hg5 (λr e=>by cases e)).grow r2 (λr e=>by cases e;exact⟨by omega,by omega,by omega,by omega⟩)⟩,by simp[intOf];omega⟩
  ·have hkk:k=cs.length:=(by omega);have hbd:¬(k:Int)<(cs.length:Int):=(by omega);subst hkk;have hfl:((uX f cs).flatMap lH).take (cs.length*2)=(uX f cs).flatMap lH:=ah5 (by rw[mF qJ,fO];exact ad5 _);rw[hfl]at hrw;have Af:eF wr (w.heap.size+2) (uX f cs):=by
    refine⟨(hrw.lt (w.heap.size+2) rfl).2,λi hi=>?_⟩;have hi':i<cs.length:=(by rw[fO]at hi;exact hi);have hcc:∀c,c<2->wr.cell? ⟨w.heap.size+2,i*2+c,none⟩=(lH (uX f cs)[i])[c]?:=λc hc=>by
     rw[hrw.cellAt (i*2+c) (by omega)];exact flat_get (k:=2) (λ_=>rfl) (by decide) (uX f cs) i hi c hc
    exact⟨hcc 0 (by decide),hcc 1 (by decide)⟩
   have Zc:=hcg.h;have hxh:=hcg.xh;have hbel:=hcg.below;have hkv:∀x∈uX f cs,∃l,keyOf prog 79 (iT x)=some l:=by
    intro x hx;obtain⟨q,hq,rfl⟩:=af9.1 hx;obtain⟨q1,q2⟩:=ah HI q hq;have e1:=(ah HF _ q2).1;exact Uj _ (by simp;omega) (by simp;omega)
   have hag:=BN (w.heap.size+2) cs.length H hl.length (uX f cs) hl wr (by rw[fO];omega) (by rw[fO];exact ah HLH) Af hkv Zc;rw[fO]at hag;clear hfl hrw hcg Af Zc hkv
   gi_wp2
   refine⟨trivial,(ag4.2 hag).mono ?_⟩;rintro e w5 ⟨rfl,hb5⟩;have hb6:Below w.heap.size w w5:=hbel.trans ⟨hb5.os,hb5.tape,hb5.output,hb5.size,λj hj=>hb5.block j (by have:=hbel.size;omega)⟩
   gi_wp2
   refine⟨_,am8 rfl _ _ _,rfl,hb6⟩
end Go.Proofs.YthcppbmkacbbiabGreat
