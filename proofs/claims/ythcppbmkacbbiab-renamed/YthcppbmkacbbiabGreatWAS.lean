import Derived.Test.YthcppbmkacbbiabGreatWAQ
import Derived.Test.YthcppbmkacbbiabGreatWAR
import Derived.Test.YthcppbmkacbbiabGreatSri
set_option linter.unusedSimpArgs false
set_option maxHeartbeats 2000000
set_option maxRecDepth 100000
namespace Go.Proofs.YthcppbmkacbbiabGreat
open Go.Proofs.Tryz
namespace aB
def oJ(cl:List Int)(hl:List Bool)(acc:List Bool)(q:Key):Bool:=
 if q.1=61 then decide (cl.getD q.2.1 0=cl.getD q.2.2 0)
 else if q.1=80\/q.1=81 then hl.getD q.2.1 false
 else if q.1=33 then !(acc.getD q.2.1 false)
 else jn q.1 (acc.getD q.2.1 false) (acc.getD q.2.2 false)
def dY(cl:List Int)(hl:List Bool)(ps:List Key):List Bool:=ps.foldl (λacc q=>acc++[oJ cl hl acc q]) []
section
variable {cl:List Int} {hl:List Bool}
theorem lU(ps:List Key)(q:Key):dY cl hl (ps++[q])=dY cl hl ps++[oJ cl hl (dY cl hl ps) q]:=by
 unfold dY;rw[an8];rfl
theorem G9(ps:List Key):∀qs:List Key,dY cl hl ps <+: dY cl hl (ps++qs):=by
 intro qs
 induction qs generalizing ps with
 |nil=>simp
 |cons q qs ih=>
  have h:=ih (ps++[q]);rw[lU]at h;have e:ps++q::qs=(ps++[q])++qs:=by simp
  rw[e];exact(aq1 _ _).trans h
theorem rE{ps ps1:List Key}(h:ps <+: ps1):dY cl hl ps <+: dY cl hl ps1:=by
 obtain⟨qs,rfl⟩:=h;exact G9 ps qs
theorem iW(ps:List Key):(dY cl hl ps).length=ps.length:=by
 have h:∀qs:List Key,∀ps:List Key,(dY cl hl ps).length=ps.length->(dY cl hl (ps++qs)).length=(ps++qs).length:=by
  intro qs
  induction qs with
  |nil=>intro ps h;simpa using h
  |cons q qs ih=>
   intro ps h;have e:ps++q::qs=(ps++[q])++qs:=(by simp);rw[e];exact ih _ (by rw[lU];simp[h])
 simpa using h ps [] rfl
theorem mg{L L1:List Bool}(h:L <+: L1){i:Nat}(hi:i<L.length):L1.getD i false=L.getD i false:=by
 obtain⟨R,rfl⟩:=h;simp[ag2,aj1 hi]
theorem JM{L L1:List Bool}{nt nc:Nat}{q:Key}(h:L <+: L1)(hq:dJ nt nc L.length q):oJ cl hl L1 q=oJ cl hl L q:=by
 unfold oJ;rcases hq with⟨a,b,_⟩|⟨a,b,c⟩|⟨a,_,_⟩|⟨a,_,_⟩
 ·rw[mg h b,a];simp
 ·rw[mg h b,mg h c]
 ·have h1:q.1≠61:=by omega
  rw[af2 h1,af2 h1,af6 a,af6 a]
 ·rw[af6 a,af6 a]
theorem TQ{nt nc:Nat}{ps:List Key}(h:aQ nt nc ps){j:Nat}(hj:j<ps.length):(dY cl hl ps).getD j false=oJ cl hl (dY cl hl ps) ps[j]:=by
 have e:ps.take (j+1)=ps.take j++[ps[j]]:=by rw[ah1,ad6 hj];rfl
 have hp:dY cl hl (ps.take (j+1)) <+: dY cl hl ps:=rE (List.take_prefix _ _);have hp0:dY cl hl (ps.take j) <+: dY cl hl ps:=rE (List.take_prefix _ _);have hl0:(dY cl hl (ps.take j)).length=j:=by rw[iW,ah6];omega
 rw[e,lU]at hp;rw[mg hp (by simp[hl0]),JM hp0 (by rw[hl0];exact h.ok j hj)];simp[ag2,hl0]
end
end aB
section
open Go.RowKit Go.Maps Go.WideMaps
open aB (Key put dJ oJ jn au)
attribute [local go_sem] Oper.semAt_some
def pv(q:Key):Value:=.agg #[.int .u8 q.1,.int .i64 q.2.1,.int .i64 q.2.2]
theorem cZ(w:World)(o p:Obj):Below w.heap.size w ((w.alloc o).alloc p):=by
 have h:w.grownBy ((w.alloc o).alloc p) none:=(ad4 _ _ none).trans (ad4 _ _ none);exact⟨h.os,h.tape,h.output,h.size,λj hj=>h.block j hj (by simp)⟩
theorem LD(b H x y cap B:Nat)(hl acc:List Bool)(w:World)(hx:x<acc.length)(hB:bY w B acc) :
  Calls prog 79 #[pv (33,x,y),sv b H hl.length,.slice (some ⟨B,0,none⟩) acc.length cap] w λe w'=>e=.returned (.bool (!(acc.getD x false)))/\Below w.heap.size w w':=by
 unfold pv sv;simp only;have hc:=hB.at hx;have hlB:=hB.1;generalize acc.getD x false=bx at hc ⊢;have hxi:(x:Int)<(acc.length:Int):=by omega
 go_enter func79,ntmps79
 go_wp2_with fail
 go_ret
 exact⟨rfl,cZ _ _ _⟩
theorem TU(b H x y cap B:Nat)(hl acc:List Bool)(w:World)(hx:x<hl.length)(hH:bY w H hl) :
  Calls prog 79 #[pv (80,x,y),sv b H hl.length,.slice (some ⟨B,0,none⟩) acc.length cap] w λe w'=>e=.returned (.bool (hl.getD x false))/\Below w.heap.size w w':=by
 unfold pv sv;simp only;have hc:=hH.at hx;have hlB:=hH.1;generalize hl.getD x false=bx at hc ⊢;have hxi:(x:Int)<(hl.length:Int):=by omega
 go_enter func79,ntmps79
 go_wp2_with fail
 go_ret
 exact⟨rfl,cZ _ _ _⟩
theorem TT(b H x y cap B:Nat)(hl acc:List Bool)(w:World)(hx:x<hl.length)(hH:bY w H hl) :
  Calls prog 79 #[pv (81,x,y),sv b H hl.length,.slice (some ⟨B,0,none⟩) acc.length cap] w λe w'=>e=.returned (.bool (hl.getD x false))/\Below w.heap.size w w':=by
 unfold pv sv;simp only;have hc:=hH.at hx;have hlB:=hH.1;generalize hl.getD x false=bx at hc ⊢;have hxi:(x:Int)<(hl.length:Int):=by omega
 go_enter func79,ntmps79
 go_wp2_with fail
 go_ret
 exact⟨rfl,cZ _ _ _⟩
theorem LQ(b H x y cap B:Nat)(hl acc:List Bool)(w:World)(hx:x<acc.length)(hy:y<acc.length)(hB:bY w B acc) :
  Calls prog 79 #[pv (38,x,y),sv b H hl.length,.slice (some ⟨B,0,none⟩) acc.length cap] w λe w'=>e=.returned (.bool (acc.getD x false&&acc.getD y false))/\Below w.heap.size w w':=by
 unfold pv sv;simp only;have hc:=hB.at hx;have hlB:=hB.1;generalize acc.getD x false=bx at hc ⊢;have hxi:(x:Int)<(acc.length:Int):=by omega
 have hc2:=hB.at hy;generalize acc.getD y false=by' at hc2 ⊢;have hyi:(y:Int)<(acc.length:Int):=by omega
 go_enter func79,ntmps79
 cases bx
 ·go_wp2_with fail
  go_ret
  exact⟨by simp,cZ _ _ _⟩
 ·go_wp2_with fail
  go_ret
  exact⟨by simp,cZ _ _ _⟩
theorem O3(b H x y cap B:Nat)(hl acc:List Bool)(w:World)(hx:x<acc.length)(hy:y<acc.length)(hB:bY w B acc) :
  Calls prog 79 #[pv (124,x,y),sv b H hl.length,.slice (some ⟨B,0,none⟩) acc.length cap] w λe w'=>e=.returned (.bool (acc.getD x false||acc.getD y false))/\Below w.heap.size w w':=by
 unfold pv sv;simp only;have hc:=hB.at hx;have hlB:=hB.1;generalize acc.getD x false=bx at hc ⊢;have hxi:(x:Int)<(acc.length:Int):=by omega
 have hc2:=hB.at hy;generalize acc.getD y false=by' at hc2 ⊢;have hyi:(y:Int)<(acc.length:Int):=by omega
 go_enter func79,ntmps79
 cases bx
 ·go_wp2_with fail
  go_ret
  exact⟨by simp,cZ _ _ _⟩
 ·go_wp2_with fail
  go_ret
  exact⟨by simp,cZ _ _ _⟩
theorem LH(b H x y cap B:Nat)(hl acc:List Bool)(w:World)(hx:x<acc.length)(hy:y<acc.length)(hB:bY w B acc) :
  Calls prog 79 #[pv (62,x,y),sv b H hl.length,.slice (some ⟨B,0,none⟩) acc.length cap] w λe w'=>e=.returned (.bool (!(acc.getD x false)||acc.getD y false))/\Below w.heap.size w w':=by
 unfold pv sv;simp only;have hc:=hB.at hx;have hlB:=hB.1;generalize acc.getD x false=bx at hc ⊢;have hxi:(x:Int)<(acc.length:Int):=by omega
 have hc2:=hB.at hy;generalize acc.getD y false=by' at hc2 ⊢;have hyi:(y:Int)<(acc.length:Int):=by omega
 go_enter func79,ntmps79
 cases bx
 ·go_wp2_with fail
  go_ret
  exact⟨by simp,cZ _ _ _⟩
 ·go_wp2_with fail
  go_ret
  exact⟨by simp,cZ _ _ _⟩
theorem O4(b H x y cap B:Nat)(hl acc:List Bool)(w:World)(n c:Nat)(f:Nat->Nat)(hx:x<n)(hy:y<n)(hn:n<=1000)(hle:∀i,i<n->f i<=i/\f (f i)=f i)(hM:dN w b f n c) :
  Calls prog 79 #[pv (61,x,y),sv b H hl.length,.slice (some ⟨B,0,none⟩) acc.length cap] w λe w'=>e=.returned (.bool (decide (f x=f y)))/\Below w.heap.size w w':=by
 unfold pv sv;simp only;have hlB:=hM.lt;have HM:=aj hM;have HL:=aj hle;clear hM hle
 go_enter func79,ntmps79
 go_wp2_with fail
 have hb2:=cZ w (.cells #[.int .u8 61,.int .i64 x,.int .i64 y] 82) (.cells #[.map (some b),.slice (some ⟨H,0,none⟩) hl.length hl.length] 56);refine(OE _ b n c f x y ((ah HM).kept (hb2.block b hlB)) hx hy hn (ah HL)).mono ?_;rintro e w2 ⟨rfl,rfl⟩
 go_wp2_with fail
 go_ret
 exact⟨rfl,hb2⟩
theorem LJ(b H x y cap B:Nat)(hl acc:List Bool)(w:World)(hx:x<acc.length)(hy:y<acc.length)(hB:bY w B acc) :
  Calls prog 79 #[pv (45,x,y),sv b H hl.length,.slice (some ⟨B,0,none⟩) acc.length cap] w λe w'=>e=.returned (.bool (acc.getD x false==acc.getD y false))/\Below w.heap.size w w':=by
 unfold pv sv;simp only;have hc:=hB.at hx;have hlB:=hB.1;generalize acc.getD x false=bx at hc ⊢;have hxi:(x:Int)<(acc.length:Int):=by omega
 have hc2:=hB.at hy;generalize acc.getD y false=by' at hc2 ⊢;have hyi:(y:Int)<(acc.length:Int):=by omega
 go_enter func79,ntmps79
 go_wp2_with fail
 have hb2:=cZ w (.cells #[.int .u8 45,.int .i64 x,.int .i64 y] 82) (.cells #[.map (some b),.slice (some ⟨H,0,none⟩) hl.length hl.length] 56);have hk1:((w.alloc (.cells #[.int .u8 45,.int .i64 x,.int .i64 y] 82)).alloc (.cells #[.map (some b),.slice (some ⟨H,0,none⟩) hl.length hl.length] 56)).cell? ⟨w.heap.size,1,none⟩=some (.int .i64 x):=by simp[go_sem]
 have hk2:((w.alloc (.cells #[.int .u8 45,.int .i64 x,.int .i64 y] 82)).alloc (.cells #[.map (some b),.slice (some ⟨H,0,none⟩) hl.length hl.length] 56)).cell? ⟨w.heap.size,2,none⟩=some (.int .i64 y):=by simp[go_sem]
 generalize ((w.alloc (.cells #[.int .u8 45,.int .i64 x,.int .i64 y] 82)).alloc (.cells #[.map (some b),.slice (some ⟨H,0,none⟩) hl.length hl.length] 56))=W at *;have hS0:W.drew.cell? ⟨w.heap.size,1,none⟩=some (.int .i64 x)/\W.drew.cell? ⟨w.heap.size,2,none⟩=some (.int .i64 y)/\W.drew.cell? ⟨B,x,none⟩=some (.bool bx)/\W.drew.cell? ⟨B,y,none⟩=some (.bool by'):=⟨hk1,hk2,(ae5 (hb2.block B hlB)).trans hc,(ae5 (hb2.block B hlB)).trans hc2⟩;refine ah0 (S:=λW'=>W'.cell? ⟨w.heap.size,1,none⟩=some (.int .i64 x)/\W'.cell? ⟨w.heap.size,2,none⟩=some (.int .i64 y)/\W'.cell? ⟨B,x,none⟩=some (.bool bx)/\W'.cell? ⟨B,y,none⟩=some (.bool by')) rfl ?_;simp only[ae2,ae1,ae8,Nat.reduceAdd,ae0,ad9,ae4,ae7,ae6];refine tH 0 (.slice (some ⟨B,0,none⟩) acc.length cap) (λw' hS=>?_) hS0 ?_
 ·obtain⟨s1,s2,s3,s4⟩:=hS;go_simp
 simp only[aC];refine tH 1 (.pointer (some ⟨w.heap.size,1,none⟩)) (λw' hS=>?_) hS0 ?_
 ·obtain⟨s1,s2,s3,s4⟩:=hS;go_simp
 simp only[aC];refine tH 2 (.int .i64 x) (λw' hS=>?_) hS0 ?_
 ·obtain⟨s1,s2,s3,s4⟩:=hS;go_simp
 simp only[aC];refine tH 3 (.pointer (some ⟨B,x,none⟩)) (λw' hS=>?_) hS0 ?_
 ·obtain⟨s1,s2,s3,s4⟩:=hS;go_simp
 simp only[aC];refine tH 4 (.bool bx) (λw' hS=>?_) hS0 ?_
 ·obtain⟨s1,s2,s3,s4⟩:=hS;go_simp
 simp only[aC];refine tH 5 (.slice (some ⟨B,0,none⟩) acc.length cap) (λw' hS=>?_) hS0 ?_
 ·obtain⟨s1,s2,s3,s4⟩:=hS;go_simp
 simp only[aC];refine tH 6 (.pointer (some ⟨w.heap.size,2,none⟩)) (λw' hS=>?_) hS0 ?_
 ·obtain⟨s1,s2,s3,s4⟩:=hS;go_simp
 simp only[aC];refine tH 7 (.int .i64 y) (λw' hS=>?_) hS0 ?_
 ·obtain⟨s1,s2,s3,s4⟩:=hS;go_simp
 simp only[aC];refine tH 8 (.pointer (some ⟨B,y,none⟩)) (λw' hS=>?_) hS0 ?_
 ·obtain⟨s1,s2,s3,s4⟩:=hS;go_simp
 simp only[aC];refine tH 9 (.bool by') (λw' hS=>?_) hS0 ?_
 ·obtain⟨s1,s2,s3,s4⟩:=hS;go_simp
 simp only[aC];refine tH 10 (.bool (bx==by')) (λw' hS=>?_) hS0 ?_
 ·obtain⟨s1,s2,s3,s4⟩:=hS;cases bx<;>cases by'<;>go_simp
 simp only[aC];refine oH 11 (λK hK=>?_);go_simp;refine hK.out _ _ hS0 (ag5 (by kernel_rfl) ?_ _);clear hK K
 go_wp2_with fail
 go_ret
 exact⟨rfl,⟨hb2.os,hb2.tape,hb2.output,hb2.size,hb2.block⟩⟩
theorem LM(b H cap B nt c:Nat)(q:Key)(cl:List Int)(hl acc:List Bool)(f:Nat->Nat)(w:World)(hq:dJ nt hl.length acc.length q)(hn:nt<=1000)(hle:∀i,i<nt->f i<=i/\f (f i)=f i)(hcl:∀i j,i<nt->j<nt->(f i=f j↔cl.getD i 0=cl.getD j 0))(hM:dN w b f nt c)(hH:bY w H hl)(hB:bY w B acc) :
  Calls prog 79 #[pv q,sv b H hl.length,.slice (some ⟨B,0,none⟩) acc.length cap] w λe w'=>e=.returned (.bool (oJ cl hl acc q))/\Below w.heap.size w w':=by
 obtain⟨s,x,y⟩:=q;unfold oJ;rcases hq with⟨a,h1,h2⟩|⟨a,h1,h2⟩|⟨a,h1,h2⟩|⟨a,h1,h2⟩
 ·simp only at a h1 h2 ⊢;subst a;exact LD b H x y cap B hl acc w h1 hB
 ·simp only at a h1 h2 ⊢;have a':s=38\/s=124\/s=62\/s=45:=by simpa[au,or_assoc]using a
  rcases a' with rfl|rfl|rfl|rfl
  ·exact LQ b H x y cap B hl acc w h1 h2 hB
  ·exact O3 b H x y cap B hl acc w h1 h2 hB
  ·exact LH b H x y cap B hl acc w h1 h2 hB
  ·exact LJ b H x y cap B hl acc w h1 h2 hB
 ·simp only at a h1 h2 ⊢;rcases a with rfl|rfl
  ·exact TU b H x y cap B hl acc w h1 hH
  ·exact TT b H x y cap B hl acc w h1 hH
 ·simp only at a h1 h2 ⊢;subst a;have h:=O4 b H x y cap B hl acc w nt c f h1 h2 hn hle hM;rw[ar0.2 (hcl x y h1 h2)]at h;exact h
end
section
open Go.RowKit Go.Maps Go.WideMaps
open aB (Key put dJ oJ jn au dY aQ)
attribute [local go_sem] Oper.semAt_some
theorem Fv:(prog.info? 4).map (λi=>(i.zero,i.size,i.bytes))=some (some (.bool false),1,1):=by kernel_rfl
theorem EX(w:World)(x:Bool)(t:TypeId)(n:Nat)(hn:w.heap.size=n):∀j u,[Value.bool x][j]?=some u->(w.alloc (.cells #[.bool x] t)).cell? ((⟨n,0,none⟩:Addr).add j)=some u:=by
 subst hn;intro j u hj;cases j with
 |zero=>simp at hj;subst hj;simp[Addr.add]
 |succ j=>simp at hj
theorem Yn(x:Bool):∀u∈[Value.bool x],u.oneCell'=true:=by intro u hu;simp at hu;subst hu;rfl
theorem OY{cl:List Int}{hl:List Bool}{nt nc:Nat}{ps:List Key}(h:aQ nt nc ps){k:Nat}(hk:k<ps.length):((dY cl hl ps).take (k+1))=(dY cl hl ps).take k++[oJ cl hl ((dY cl hl ps).take k) ps[k]]:=by
 have hk':k<(dY cl hl ps).length:=by rw[aB.iW];exact hk
 have e1:=aB.TQ (cl:=cl) (hl:=hl) h hk;have e2:oJ cl hl (dY cl hl ps) ps[k]=oJ cl hl ((dY cl hl ps).take k) ps[k]:=aB.JM (nt:=nt) (nc:=nc) (List.take_prefix _ _) (by rw[ah6,Nat.min_eq_left (Nat.le_of_lt hk')];exact h.ok k hk);rw[ah1,ad6 hk',<-e2,<-e1,ag2,ad6 hk'];rfl
theorem yP(GT GC GP nt nc b c H:Nat)(f:Nat->Nat)(ps:List Key)(cl:List Int)(hl:List Bool)(w:World)(h1:0<ps.length)(h100:ps.length<=100)(hnt:nt<=7)(hrt:bQ w GP ps)(hi:aQ nt hl.length ps)(hf:∀i,i<nt->f i<=i/\f (f i)=f i)(hcl:∀i j,i<nt->j<nt->(f i=f j↔cl.getD i 0=cl.getD j 0))(hM:dN w b f nt c)(hH:bY w H hl) :
  Calls prog 35 #[fv GT GC GP nt nc ps.length,sv b H hl.length] w λe w'=>e=.returned (.bool ((dY cl hl ps).getD (ps.length-1) false))/\Below w.heap.size w w':=by
 unfold fv sv;obtain⟨wb,hwb⟩:∃wb,wb=(w.alloc (.cells #[.slice (some ⟨GT,0,none⟩) nt nt,.slice (some ⟨GC,0,none⟩) nc nc,.slice (some ⟨GP,0,none⟩) ps.length ps.length] 46)).alloc (.cells #[.map (some b),.slice (some ⟨H,0,none⟩) hl.length hl.length] 56):=⟨_,rfl⟩;obtain⟨i0,hin,hz0,hz1,hz2⟩:=ak7 Fv;obtain⟨w1,hmk,hrow,hg1⟩:=as3 (P:=prog) wb wb.heap.size 54 4 i0 (.bool false) 1 underlying54 hin hz0 hz1 .i64 .i64 ps.length (by rw[hz2];omega) (by unfold maxLen;omega) (ad5 _);have Fz:wb.heap.size=w.heap.size+2:=by rw[hwb];simp
 have hlt1:w.heap.size+2<w1.heap.size:=by have h:=(hrow.lt wb.heap.size rfl).2;rw[Fz]at h;exact h
 have hc1:w1.cell? ⟨w.heap.size,2,none⟩=some (.slice (some ⟨GP,0,none⟩) ps.length ps.length):=hg1.cell (by rw[hwb];simp[go_sem]) (by simp);have hs1:w1.cell? ⟨w.heap.size+1,0,none⟩=some (.map (some b)):=hg1.cell (by rw[hwb];simp[go_sem]) (by simp);have hs2:w1.cell? ⟨w.heap.size+1,1,none⟩=some (.slice (some ⟨H,0,none⟩) hl.length hl.length):=hg1.cell (by rw[hwb];simp[go_sem]) (by simp);have hb1:Below w.heap.size w w1:=by
  have h1:Below w.heap.size w wb:=by rw[hwb];exact cZ _ _ _
  exact h1.trans ⟨hg1.os,hg1.tape,hg1.output,hg1.size,λj hj=>hg1.block j (by omega) (by simp)⟩
 have hlG:=hrt.1;have hlM:=hM.lt;have hlH:=hH.1;rw[Fz]at hrow;rw[hwb]at hmk;have HI:=aj hi;have HRT:=aj hrt;have HWB:=aj Fz;have HF:=aj hf;have HCL:=aj hcl;have HM:=aj hM;have HH:=aj hH;clear hwb hi hrt hg1 Fz hf hcl hM hH
 go_enter func35,ntmps35
 go_wp2_with fail
 have hrow0:w1.ownsRow 0 4 1 (.slice (some ⟨w.heap.size+2,0,none⟩) 0 ps.length) 0 []:=fK hrow (ah2 _);clear hmk hrow
 go_loopw [5,15] (λt i wr=>∃k:Nat,k<=ps.length/\i=.int .i64 k/\t=.slice (some ⟨w.heap.size+2,0,none⟩) k ps.length/\wr.ownsRow 0 4 1 (.slice (some ⟨w.heap.size+2,0,none⟩) k ps.length) k (((dY cl hl ps).take k).map Value.bool)/\Below w.heap.size w wr/\wr.cell? ⟨w.heap.size+1,0,none⟩=some (.map (some b))/\wr.cell? ⟨w.heap.size+1,1,none⟩=some (.slice (some ⟨H,0,none⟩) hl.length hl.length)) (λ_ i _=>ps.length-(intOf i).toNat)
 case atStart=>exact⟨0,ah2 _,rfl,rfl,hrow0,hb1,hs1,hs2⟩
 case round=>
  obtain⟨k,hk,rfl,rfl,hrw,hb,hx1,hx2⟩:=hrel;by_cases hlt:k<ps.length
  ·have hbd:(k:Int)<(ps.length:Int):=(by omega);obtain⟨c0,c1,c2⟩:=((ah HRT).below hb hlG).2 k hlt;have hfit:k+1<=ps.length:=hlt;have hGr:w.heap.size+2<wr.heap.size:=(hrw.lt (w.heap.size+2) rfl).2;have Dh:((dY cl hl ps).take k).length=k:=(by rw[ah6,aB.iW];omega);have hok:dJ nt hl.length ((dY cl hl ps).take k).length ps[k]:=(by rw[Dh];exact(ah HI).ok k hlt);have hpt:Hid (∀W2:World,wr.grownBy W2 none->Calls prog 79 #[pv ps[k],sv b H hl.length,.slice (some ⟨w.heap.size+2,0,none⟩) k ps.length] W2 λe w'=>e=.returned (.bool (oJ cl hl ((dY cl hl ps).take k) ps[k]))/\W2.grownBy w' none):=λW2 h=>by
    have hB:bY W2 (w.heap.size+2) ((dY cl hl ps).take k):=by
     refine⟨af5 hGr h.size,λi hi=>?_⟩;have hi':i<k:=(by omega);have e:=(hrw.kept h (Or.inr (by simp[Value.ownBlock]))).cellAt i (by omega);rw[e];rw[aj8,ad6 hi];rfl
    have hbw:Below w.heap.size w W2:=hb.grown h hb.size (λk e=>by cases e);have hc:=LM b H ps.length (w.heap.size+2) nt c ps[k] cl hl ((dY cl hl ps).take k) f W2 hok (by omega) (ah HF) (ah HCL) ((ah HM).kept (hbw.block b hlM)) ((ah HH).same (hbw.block H hlH)) hB;rw[Dh]at hc;exact hc.mono λe w' ⟨h1,h2⟩=>⟨h1,⟨h2.os,h2.tape,h2.output,h2.size,λq hq _=>h2.block q hq⟩⟩
   have hts:((dY cl hl ps).take (k+1)).map Value.bool=((dY cl hl ps).take k).map Value.bool++[.bool (oJ cl hl ((dY cl hl ps).take k) ps[k])]:=(by rw[OY (ah HI) hlt,ak3];rfl);have HTS:=aj hts;have hap:Hid (∀W2:World,wr.grownBy W2 none->W2.ownsRow 0 4 1 (.slice (some ⟨w.heap.size+2,0,none⟩) k ps.length) k (((dY cl hl ps).take k).map Value.bool)):=λW2 h=>hrw.kept h (Or.inr (by simp[Value.ownBlock]));clear hts hok Dh;generalize oJ cl hl ((dY cl hl ps).take k) ps[k]=bn at HTS hpt;generalize ps[k]=key at c0 c1 c2 hpt;obtain⟨kl,kf,ks⟩:=key;simp only at c0 c1 c2;unfold pv sv at hpt;simp only at hpt;have hy1:(wr.alloc (.cells #[.int .u8 kl,.int .i64 kf,.int .i64 ks] 82)).cell? ⟨w.heap.size+1,0,none⟩=some (.map (some b)):=(ad4 _ _ none).cell hx1 (by simp);have hy2:(wr.alloc (.cells #[.int .u8 kl,.int .i64 kf,.int .i64 ks] 82)).cell? ⟨w.heap.size+1,1,none⟩=some (.slice (some ⟨H,0,none⟩) hl.length hl.length):=(ad4 _ _ none).cell hx2 (by simp);have hga:wr.grownBy (wr.alloc (.cells #[.int .u8 kl,.int .i64 kf,.int .i64 ks] 82)) none:=ad4 _ _ none
   go_wp2_with fail
   refine(ah hpt _ hga).mono ?_;rintro e w3 ⟨rfl,hg3⟩;have hg4:wr.grownBy w3 none:=hga.trans hg3
   go_wp2_with (refine wpList_append_fits _ rfl (.tmp 19) (.tmp 24) 54 rfl 0 4 i0 1 underlying54 hin hz1 _ _ _ _ rfl (ah hap _ (hg4.trans (ad4 _ _ none))) _ 1 1 [.bool bn] rfl rfl (EX _ _ _ _ rfl) (Yn _) hfit ?_;intro w4 r1 r2)
   have hg5:=hg4.trans (ad4 w3 (.cells #[.bool bn] 4) none);exact⟨⟨k+1,hfit,by go_num,rfl,by rw[ah HTS];exact r1,Oj hb hg5 r2 (by omega),r2.cell (hg5.cell hx1 (by simp)) (by simp),r2.cell (hg5.cell hx2 (by simp)) (by simp)⟩,by simp[intOf];omega⟩
  ·have hkk:k=ps.length:=(by omega);subst hkk;have hbd:¬(ps.length:Int)<(ps.length:Int):=(by omega);have hcn:wr.cell? ⟨w.heap.size+2,ps.length-1,none⟩=some (.bool ((dY cl hl ps).getD (ps.length-1) false)):=by
    rw[hrw.cellAt (ps.length-1) (by omega)];have:ps.length-1<(dY cl hl ps).length:=(by rw[aB.iW];omega);rw[ah5 (by rw[aB.iW];exact ad5 _),aj8,ag2,ad6 this];rfl
   have hdi:((ps.length:Int)-1)=((ps.length-1:Nat):Int):=(by omega);have hle1:((ps.length-1:Nat):Int)<(ps.length:Int):=(by omega);obtain⟨bn,hbn⟩:∃bn,(dY cl hl ps).getD (ps.length-1) false=bn:=⟨_,rfl⟩;rw[hbn]at hcn;have HBN:=aj hbn;clear hbn
   go_wp2_with fail
   go_ret
   refine⟨?_,hb⟩;have hbn:=ah HBN;rw[ag2]at hbn;simp[hbn]
end
section
open Go.RowKit Go.Maps Go.WideMaps
open aB (Key put dJ oJ jn au dY aQ)
def Vt(f:Nat->Nat)(ts:List Key)(cs:List (Int×Nat))(ps:List Key)(cl:List Int)(hl:List Bool):Bool:=
 decide (∀p∈aO (mkd f ts) ts.length,f p.1=f p.2)&&decide (∀p∈aO (uX f cs) cs.length,hl.getD p.1 false=hl.getD p.2 false)&&(dY cl hl ps).getD (ps.length-1) false
def SC(GT GC GP nt nc np b H nh n:Nat)(W:World):Prop:=
 W.cell? ⟨n,0,none⟩=some (.slice (some ⟨GT,0,none⟩) nt nt)/\W.cell? ⟨n,1,none⟩=some (.slice (some ⟨GC,0,none⟩) nc nc)/\W.cell? ⟨n,2,none⟩=some (.slice (some ⟨GP,0,none⟩) np np)/\W.cell? ⟨n+1,0,none⟩=some (.map (some b))/\W.cell? ⟨n+1,1,none⟩=some (.slice (some ⟨H,0,none⟩) nh nh)
theorem SC.step{GT GC GP nt nc np b H nh n:Nat}{W W':World}(k:SC GT GC GP nt nc np b H nh n W)(hs:n+1<W.heap.size)(h:Below W.heap.size W W'):SC GT GC GP nt nc np b H nh n W':=
 ⟨(h.cell (p:=⟨n,0,none⟩) (by show n<_;omega)).trans k.1,(h.cell (p:=⟨n,1,none⟩) (by show n<_;omega)).trans k.2.1,(h.cell (p:=⟨n,2,none⟩) (by show n<_;omega)).trans k.2.2.1,(h.cell (p:=⟨n+1,0,none⟩) hs).trans k.2.2.2.1,(h.cell (p:=⟨n+1,1,none⟩) hs).trans k.2.2.2.2⟩
theorem Fq(GT GC GP b c H:Nat)(f:Nat->Nat)(ts:List Key)(cs:List (Int×Nat))(ps:List Key)(cl:List Int)(hl:List Bool)(w:World)(h7:ts.length<=7)(h4:cs.length<=4)(h1:0<ps.length)(h100:ps.length<=100)(hlh:hl.length=cs.length)
 (hrt:bQ w GT ts)(hrc:eF w GC cs)(hrp:bQ w GP ps)(hit:aB.Inv ts)(hic:∀x∈cs,(x.1=80\/x.1=81)/\x.2<ts.length)(kR:aQ ts.length cs.length ps)(hf:∀i,i<ts.length->f i<=i/\f (f i)=f i)(hcl:∀i j,i<ts.length->j<ts.length->(f i=f j↔cl.getD i 0=cl.getD j 0))(hM:dN w b f ts.length c)(hH:bY w H hl) :
  Calls prog 21 #[fv GT GC GP ts.length cs.length ps.length,sv b H hl.length] w λe w'=>e=.returned (.bool (Vt f ts cs ps cl hl))/\Below w.heap.size w w':=by
 have hA:Hid (∀W:World,Below w.heap.size w W->Calls prog 33 #[fv GT GC GP ts.length cs.length ps.length,.map (some b)] W λe w'=>e=.returned (.bool (decide (∀p∈aO (mkd f ts) ts.length,f p.1=f p.2)))/\Below W.heap.size W w'):=λW h=>
  lI GT GC GP cs.length ps.length b c f ts W h7 (hrt.below h hrt.1) hit (λi h=>Nat.lt_of_le_of_lt (hf i h).1 h) (gG.of (hM.kept (h.block b hM.lt)) hf)
 have hB:Hid (∀W:World,Below w.heap.size w W->Calls prog 34 #[fv GT GC GP ts.length cs.length ps.length,sv b H hl.length] W λe w'=>e=.returned (.bool (decide (∀p∈aO (uX f cs) cs.length,hl.getD p.1 false=hl.getD p.2 false)))/\Below W.heap.size W w'):=λW h=>
  zS GT GC GP ts.length ps.length b c H f cs hl W h4 h7 hlh (hrc.below h hrc.1) hic hf (hM.kept (h.block b hM.lt)) (hH.same (h.block H hH.1))
 have hC:Hid (∀W:World,Below w.heap.size w W->Calls prog 35 #[fv GT GC GP ts.length cs.length ps.length,sv b H hl.length] W λe w'=>e=.returned (.bool ((dY cl hl ps).getD (ps.length-1) false))/\Below W.heap.size W w'):=λW h=>
  yP GT GC GP ts.length cs.length b c H f ps cl hl W h1 h100 h7 (hrp.below h hrp.1) (by rw[hlh];exact kR) hf hcl (hM.kept (h.block b hM.lt)) (hH.same (h.block H hH.1))
 unfold Vt;generalize decide (∀p∈aO (mkd f ts) ts.length,f p.1=f p.2)=b1 at hA ⊢;generalize decide (∀p∈aO (uX f cs) cs.length,hl.getD p.1 false=hl.getD p.2 false)=b2 at hB ⊢;generalize (dY cl hl ps).getD (ps.length-1) false=b3 at hC ⊢;generalize ts.length=nt at *;generalize cs.length=nc at *;generalize ps.length=np at *;generalize hl.length=nh at *;clear hrt hrc hrp hit hic kR hf hcl hM hH;unfold fv sv at *;have HLH:=aj hlh;clear hlh;have hAl:∃wa,(w.alloc (.cells #[.slice (some ⟨GT,0,none⟩) nt nt,.slice (some ⟨GC,0,none⟩) nc nc,.slice (some ⟨GP,0,none⟩) np np] 46)).alloc (.cells #[.map (some b),.slice (some ⟨H,0,none⟩) nh nh] 56)=wa:=⟨_,rfl⟩;obtain⟨wa,hwa⟩:=hAl;have hba:Below w.heap.size w wa:=by rw[<-hwa];exact cZ _ _ _
 have hsa:wa.heap.size=w.heap.size+2:=by rw[<-hwa];simp
 have ka:SC GT GC GP nt nc np b H nh w.heap.size wa:=by
  rw[<-hwa];exact⟨by simp[go_sem],by simp[go_sem],by simp[go_sem],by simp[go_sem],by simp[go_sem]⟩
 have hsz:w.heap.size+1<wa.heap.size:=by omega
 have HWA:=aj hwa;have KA':=aj ka;have HSA:=aj hsa;have nZ:=aj hsz;clear hsz hsa hwa ka
 go_enter func21,ntmps21
 go_wp2_with fail
 rw[ah HWA];refine(ah hA _ hba).mono ?_;rintro e w1 ⟨rfl,hb1⟩;have k1:=(ah KA').step (ah nZ) hb1;have hs1:wa.heap.size<=w1.heap.size:=hb1.size;have Xg:Below w.heap.size w w1:=hba.trans ⟨hb1.os,hb1.tape,hb1.output,hb1.size,λj hj=>hb1.block j (by have:=ah HSA;omega)⟩;obtain⟨p1,p2,p3,p4,p5⟩:=k1;cases b1
 ·go_wp2_with fail
  go_ret
  exact⟨by simp,Xg⟩
 go_wp2_with fail
 refine(ah hB _ Xg).mono ?_;rintro e w2 ⟨rfl,hb2⟩;have k2:=SC.step (W:=w1) ⟨p1,p2,p3,p4,p5⟩ (af5 (ah nZ) hs1) hb2;have hs2:wa.heap.size<=w2.heap.size:=af7 hs1 hb2.size;have Xf:Below w.heap.size w w2:=Xg.trans ⟨hb2.os,hb2.tape,hb2.output,hb2.size,λj hj=>hb2.block j (by have:=ah HSA;omega)⟩;obtain⟨r1,r2,r3,r4,r5⟩:=k2;cases b2
 ·go_wp2_with fail
  go_ret
  exact⟨by simp,Xf⟩
 go_wp2_with fail
 refine(ah hC _ Xf).mono ?_;rintro e w3 ⟨rfl,hb3⟩;have aa0:Below w.heap.size w w3:=Xf.trans ⟨hb3.os,hb3.tape,hb3.output,hb3.size,λj hj=>hb3.block j (by have:=ah HSA;omega)⟩
 go_wp2_with fail
 go_ret
 exact⟨by simp,aa0⟩
end
section
open Go.RowKit
open aB (St put cut)
theorem Qa:(prog.info? 3).map (λi=>(i.zero,i.size,i.bytes))=some (some (.int .i64 0),1,8):=by kernel_rfl
def vI(x:Int):Value:=.int .i64 x
theorem EU(w:World)(x:Int)(t:TypeId)(n:Nat)(hn:w.heap.size=n):∀j u,[vI x][j]?=some u->(w.alloc (.cells #[vI x] t)).cell? ((⟨n,0,none⟩:Addr).add j)=some u:=by
 subst hn;intro j u hj;cases j with
 |zero=>simp at hj;subst hj;simp[Addr.add]
 |succ j=>simp at hj
theorem Ym(x:Int):∀u∈[vI x],u.oneCell'=true:=by intro u hu;simp at hu;subst hu;rfl
theorem TV{w:World}{base e n:Nat}{v:Value}{xs:List Value}(h:w.ownsRow base e 1 v n xs):∃ao cap,v=.slice ao n cap:=by
 obtain⟨_,h2⟩:=h;rcases h2 with⟨e,e2⟩|⟨g,cap,cur,e,_⟩
 ·subst e2;exact⟨_,_,e⟩
 ·exact⟨_,_,e⟩
end
section
open Go.RowKit
open aB (St put cut)
attribute [local go_sem] Oper.semAt_some
theorem kV{P:Program}{Q:Exit->Act->World->Prop}{o:Oper}{a:Act}{w:World}{K:Act->World->Prop}(s x:Operand)(t:TypeId)(hop:o.op=Op.call {callee:=Callee.builtin Builtin.append,args:=#[s,x],argTypes:=#[t,t]})
 (base:Nat)(e:TypeId)(i:TypeInfo)(z:Value)(size bytes:Nat)(ht:P.underlying t=some (.slice e))(hi:P.info? e=some i)(hz:i.zero=some z)
 (hsize:i.size=size)(hby:i.bytes=bytes)(hzs:z.cells.size=size)(hsz:0<size)
 (v:Value)(n:Nat)(xs:List Value)(hs:a.eval s=v)(hown:w.ownsRow base e size v n xs)
 (ad:Addr)(m c:Nat)(news:List Value)(hx:a.eval x=.slice (some ad) m c)(hl:news.length=m*size)(hnews:∀j u,news[j]?=some u->w.cell? (ad.add j)=some u)(h1:∀u∈news,u.oneCell'=true)
 (h63:n+m<=maxLen)(hbytes:(n+m)*bytes<=140737488355328)(hbase:base<=w.heap.size)
 (hK:∀v' w',w'.ownsRow base e size v' (n+m) (xs++news)->w.grownBy w' v.ownBlock->K (a.put o.dst v') w'):Oper.wp P o a w K Q:=by
 obtain⟨v',w',hr,h2,h3,_,_⟩:=run_append_own_at (P:=P) w base t o.type e i z size bytes ht hi hz hsize hby hzs hsz v n xs hown ad m c news hl hnews h1 h63 hbytes hbase;unfold Oper.wp;simp[execOp,hop,resolve,invoke,builtin,hs,hx,hr,Result.andThen];exact hK v' w' h2 h3
theorem Eb{a:Int}(h0:0<=a)(h1:a<=1000000):IntKind.i64.wrap a=a:=by
 simp[IntKind.wrap,IntKind.bits,IntKind.signed];omega
end
open Go.RowKit Go.Maps Go.WideMaps
open Sat (View Rule jk bG)
structure kU(w:World)(m:Nat)(τ:List Tr):Prop where
 map:∃es,w.ownsMap prog 3 uU m τ.length (.map es)/\es.Perm (ents τ)
 le:∀q∈τ,q.1<=1000
 shape:∀q∈τ,∃p l c,q.2.2.1=.slice p l c
 nodup:(τ.map (·.1)).Nodup
theorem bD.m{w:World}{m:Nat}{τ:List Tr}(h:bD w m τ):kU w m τ:=
 ⟨h.map,h.le,λq hq=>by obtain⟨p,c,e⟩:=(h.NY q hq).len;exact⟨p,_,c,e⟩,h.nodup⟩
theorem kU.lt{w:World}{m:Nat}{τ:List Tr}(h:kU w m τ):m<w.heap.size:=by
 obtain⟨es,h1,_⟩:=h.map;exact h1.lt
theorem kU.kept{w w':World}{m:Nat}{τ:List Tr}(h:kU w m τ)(hb:w'.heap[m]?=w.heap[m]?):kU w' m τ:=by
 obtain⟨es,⟨e1,c1,h1,h2⟩,h3⟩:=h.map;exact⟨⟨es,⟨e1,c1,hb.trans h1,h2⟩,h3⟩,h.le,h.shape,h.nodup⟩
theorem kU.look1{w:World}{m:Nat}{τ:List Tr}(h:kU w m τ){x:Nat}(hx:x<=1000):(Instr.lookup 128 (.map (some m)) (.int .i64 x) false).run prog w=.ok (uN τ x) w:=by
 obtain⟨es,h1,h2⟩:=h.map;obtain⟨es',e1,e2,_⟩:=h1.entries dV;cases e1;obtain⟨v,ps,hrun,hv⟩:=h1.lookup dV underlying128 (Oi w) (zd:=.held (.agg #[.bool false,.int .i64 0,.slice none 0 0])) (zp:=[]) rfl (pJ hx);rw[bD.atKey h2 e2 x]at hv;cases hv;exact hrun
theorem Fb{key:Value}{kl:Lit}(h:keyOf prog 3 key=some kl):∃x,key=Value.int .i64 x:=by
 unfold keyOf at h;simp only[underlying3]at h;unfold mapKey at h;simp only[underlying3]at h;cases key<;>simp at h;obtain⟨⟨rfl,_⟩,_⟩:=h;exact⟨_,rfl⟩
theorem LY{τ:List Tr}{es:List (Lit×DataW Value)}(hp:es.Perm (ents τ)){kl:Lit}{d:DataW Value}(hat:∀zd,(DataW.map es).atKey kl zd=d):∃x:Nat,kl=.int .i64 x/\x∈τ.map (·.1):=by
 cases e:es.find? (λp=>p.1.sameKey kl)with
 |none=>
  have h1:=hat .nil;have h2:=hat (.held undef);simp only[DataW.atKey,e]at h1 h2;rw[<-h1]at h2;cases h2
 |some p=>
  have h1:=List.find?_some e;have h2:=List.mem_of_find?_eq_some e;have h3:=hp.mem_iff.1 h2;obtain⟨⟨q,k⟩,hq,rfl⟩:=af9.1 h3;have:=(ar5 hq).2.2;refine⟨q.1,(WideAt.sameKey_eq h1).symm,af9.2 ⟨q,?_,rfl⟩⟩;rw[this];simp
theorem ML(F:Fence)(n:Nat)(hf:F.fn 189)(hro:F.round=none)(hn:1<=n)(Bm BT:Nat)(τ:List Tr)(ys:List Nat)(w:World)(hp:ys.Perm (τ.map (·.1)))
 (hBm:w.cell? ⟨Bm,0,none⟩=some (.map (some BT)))(hM:kU w BT τ) :
  ji F n prog 189 #[.pointer (some ⟨Bm,0,none⟩)] (λi:Fin ys.length=>#[gV ys[i]]) (λss=>ss.Perm (List.finRange ys.length)) ys.length KeepsWalks w:=by
 have hnd:ys.Nodup:=hp.nodup_iff.2 hM.nodup;have hle:∀x∈ys,x<=1000:=λx hx=>by
  obtain⟨q,hq,rfl⟩:=af9.1 (hp.mem_iff.1 hx);exact hM.le q hq
 intro l J W hW hJ hY h0;have Xv:W.cell? ⟨Bm,0,none⟩=some (.map (some BT)):=(hW.cell (p:=⟨Bm,0,none⟩) (ad7 w _ hBm)).trans hBm;have hMW:kU W BT τ:=hM.kept (hW.block BT hM.lt);obtain⟨es,hown,hpe⟩:=hMW.map;obtain⟨w2,hrg,rg,hg2,hs2⟩:=hown.range dV underlying128;have hel:es.length=ys.length:=by rw[hpe.length_eq,hp.length_eq];simp[ents]
 have HPE:=aj hpe;have HP:=aj hp;have HEL:=aj hel;have HM:=aj hM;have HS2:=aj hs2;clear hpe hp hel hM hs2;refine aj3 func189 rfl hf ?_ hro;simp only[ntmps189,ae2,ae1,ae8,Nat.reduceAdd,Nat.reduceSub,ae0,ad9,ae4,ag1,ae7,ae6]
 gi_wp2
 gi_loopw [3] (λ_ wr=>∃left cnt,∃ss:List (Fin ys.length),wr.ranges prog 3 uU BT W.heap.size τ.length (.map es) left cnt/\Hid (ss.length+cnt<=ys.length)/\Hid (Coll 3 gV ys left ss)/\J ss wr) (λ_ wr=>wr.rangeLeft BT W.heap.size)
 case atStart=>
  refine⟨_,_,[],rg,?_,?_,hJ [] W w2 none h0 hg2 (λr e=>by cases e)⟩
  ·have:=ah HEL
   show([]:List (Fin ys.length)).length+es.length<=ys.length
   simp;omega
  ·refine Coll.start λi lt hk=>?_;have hx:=hle ys[i] (ad8 i.isLt);have e:lt=.int .i64 ys[i]:=by
    have h:=(pJ hx).symm.trans hk;cases h;rfl
   rw[e,bD.has (ah HPE)];have hm:=(ah HP).mem_iff.1 (ad8 i.isLt);cases e2:kX τ ys[i]
   ·exfalso;have:mD τ ys[i]=none:=(by simpa[kX]using e2);exact jA.1 this hm
   ·rfl
 case round=>
  obtain⟨left,cnt,ss,rH,hlen,pO,hJs⟩:=hrel
  gi_wp2_with (gi_at_next;refine wpListIn_next_ranges _ rfl _ rfl 3 dV uU (Value.int .i64) id (λkey kl h=>Fb h) (λv _ _=>⟨v,rfl⟩) BT W.heap.size τ.length (.map es) left cnt rfl rH ?_ ?_)
  ·intro hc0 hl0;have hp:=(ah pO).perm (λx hx=>⟨_,pJ (hle x hx)⟩) hl0
   gi_wp2
   go_end0
   exact⟨⟨_,rfl⟩,ss,hp,hJs⟩
  ·intro xi c kl y1 y2 w' cnt' hkey hlk hy hat Il hlt hgr hsz' hen;obtain⟨x,rfl,hx⟩:=LY (ah HPE) hat;have hxm:=(ah HP).mem_iff.2 hx;have hxi:xi=(x:Int):=by
    have h:=dV.inj hkey (pJ (hle x hxm));cases h;rfl
   subst hxi;have hit:=ah9 hxm;obtain⟨i,hi⟩:∃i:Fin ys.length,ys[i]=x:=⟨⟨ys.idxOf x,hit⟩,ai2 hit⟩;have HC2:=aj ((ah pO).step dV (λ_ _=>CS) hnd (i:=i) (by rw[hi];exact hkey) hlk);have hlen':Hid ((ss++[i]).length+cnt'<=ys.length):=by
    have:=ah hlen
    show(ss++[i]).length+cnt'<=ys.length
    simp;omega
   have hyk:=hY ss i;rw[hi]at hyk;have hlt2:ss.length<ys.length:=(by have:=ah hlen;omega);clear hy hat hlk hit;simp only[gV]at hen hyk ⊢;obtain⟨fn,tmps,assign,body,hy,hR⟩:=hyk w' (hJ ss wr w' (some W.heap.size) hJs hgr (λr e=>by cases e;exact⟨ad5 _,rH.iter_walk⟩)) hlt2;clear hyk hlt2;have HS:=aj hsz';clear hsz'
   gi_wp2
   refine hR.mono ?_;rintro e W3 ⟨rfl,hJ3,hk3⟩;have hrg3:=Il.of_walks hk3;clear hy hR
   gi_wp2
   go_roundw
   case rel=>exact⟨_,cnt',_,hrg3,hlen',HC2,hJ3⟩
   case measure=>rw[hrg3.left_eq,rH.left_eq];exact hlt
end Go.Proofs.YthcppbmkacbbiabGreat
