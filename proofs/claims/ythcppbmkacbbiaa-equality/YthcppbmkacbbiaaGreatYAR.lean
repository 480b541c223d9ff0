import Derived.Test.YthcppbmkacbbiaaGreatYAP
import Derived.Test.YthcppbmkacbbiaaGreatYAQ
set_option linter.unusedSimpArgs false
set_option maxHeartbeats 2000000
set_option maxRecDepth 100000
namespace Go.Proofs.YthcppbmkacbbiaaGreat
open Go.Proofs.Tryz
namespace aB
def lY(cl:List Int)(hl:List Bool)(acc:List Bool)(q:Key):Bool:=
 if q.1=61 then decide (cl.getD q.2.1 0=cl.getD q.2.2 0)
 else if q.1=80\/q.1=81 then hl.getD q.2.1 false
 else if q.1=33 then !(acc.getD q.2.1 false)
 else jn q.1 (acc.getD q.2.1 false) (acc.getD q.2.2 false)
def dP(cl:List Int)(hl:List Bool)(ps:List Key):List Bool:=ps.foldl (λacc q=>acc++[lY cl hl acc q]) []
section
variable {cl:List Int} {hl:List Bool}
theorem kM(ps:List Key)(q:Key):dP cl hl (ps++[q])=dP cl hl ps++[lY cl hl (dP cl hl ps) q]:=by
 unfold dP;rw[an0];rfl
theorem Gs(ps:List Key):∀qs:List Key,dP cl hl ps <+: dP cl hl (ps++qs):=by
 intro qs
 induction qs generalizing ps with
 |nil=>simp
 |cons q qs ih=>
  have h:=ih (ps++[q]);rw[kM]at h;have e:ps++q::qs=(ps++[q])++qs:=by simp
  rw[e];exact(an6 _ _).trans h
theorem nK{ps ps1:List Key}(h:ps <+: ps1):dP cl hl ps <+: dP cl hl ps1:=by
 obtain⟨qs,rfl⟩:=h;exact Gs ps qs
theorem fQ(ps:List Key):(dP cl hl ps).length=ps.length:=by
 have h:∀qs:List Key,∀ps:List Key,(dP cl hl ps).length=ps.length->(dP cl hl (ps++qs)).length=(ps++qs).length:=by
  intro qs
  induction qs with
  |nil=>intro ps h;simpa using h
  |cons q qs ih=>
   intro ps h;have e:ps++q::qs=(ps++[q])++qs:=(by simp);rw[e];exact ih _ (by rw[kM];simp[h])
 simpa using h ps [] rfl
theorem kX{L L1:List Bool}(h:L <+: L1){i:Nat}(hi:i<L.length):L1.getD i false=L.getD i false:=by
 obtain⟨R,rfl⟩:=h;simp[ae7,aj9 hi]
theorem Jj{L L1:List Bool}{nt nc:Nat}{q:Key}(h:L <+: L1)(hq:dH nt nc L.length q):lY cl hl L1 q=lY cl hl L q:=by
 unfold lY;rcases hq with⟨a,b,_⟩|⟨a,b,c⟩|⟨a,_,_⟩|⟨a,_,_⟩
 ·rw[kX h b,a];simp
 ·rw[kX h b,kX h c]
 ·have h1:q.1≠61:=by omega
  rw[ad6 h1,ad6 h1,ae2 a,ae2 a]
 ·rw[ae2 a,ae2 a]
theorem Ji{nt nc:Nat}{ps:List Key}(h:aP nt nc ps){j:Nat}(hj:j<ps.length):(dP cl hl ps).getD j false=lY cl hl (dP cl hl ps) ps[j]:=by
 have e:ps.take (j+1)=ps.take j++[ps[j]]:=by rw[ag5,ac3 hj];rfl
 have hp:dP cl hl (ps.take (j+1)) <+: dP cl hl ps:=nK (List.take_prefix _ _);have hp0:dP cl hl (ps.take j) <+: dP cl hl ps:=nK (List.take_prefix _ _);have hl0:(dP cl hl (ps.take j)).length=j:=by rw[fQ,ai6];omega
 rw[e,kM]at hp;rw[kX hp (by simp[hl0]),Jj hp0 (by rw[hl0];exact h.ok j hj)];simp[ae7,hl0]
theorem SL{nt nc:Nat}{ps:List Key}(h:aP nt nc ps){q:Key}(_hq:dH nt nc ps.length q):(dP cl hl (put ps q)).getD (ps.idxOf q) false=lY cl hl (dP cl hl ps) q:=by
 by_cases hm:q∈ps
 ·have e:put ps q=ps:=by unfold aB.put;rw[ae2 (by simpa using hm)]
  have hlt:=af8 hm;rw[e,Ji h hlt,ag2 hlt]
 ·have e:put ps q=ps++[q]:=by unfold aB.put;rw[ad6 (by simpa using hm)]
  rw[e,kM,ag4 hm];simp[ae7,fQ]
end
end aB
section
open Go.RowKit Go.Maps Go.WideMaps
open aB (Key put dH lY jn au)
attribute [local go_sem] Oper.semAt_some
def pv(q:Key):Value:=.agg #[.int .u8 q.1,.int .i64 q.2.1,.int .i64 q.2.2]
theorem dB(w:World)(o p:Obj):Below w.heap.size w ((w.alloc o).alloc p):=by
 have h:w.grownBy ((w.alloc o).alloc p) none:=(ac1 _ _ none).trans (ac1 _ _ none);exact⟨h.os,h.tape,h.output,h.size,λj hj=>h.block j hj (by simp)⟩
theorem KU(b H x y cap B:Nat)(hl acc:List Bool)(w:World)(hx:x<acc.length)(hB:dw w B acc) :
  Calls prog 84 #[pv (33,x,y),sv b H hl.length,.slice (some ⟨B,0,none⟩) acc.length cap] w λe w'=>e=.returned (.bool (!(acc.getD x false)))/\Below w.heap.size w w':=by
 unfold pv sv;simp only;have hc:=hB.at hx;have hlB:=hB.1;generalize acc.getD x false=bx at hc ⊢;have hxi:(x:Int)<(acc.length:Int):=by omega
 go_enter func84,ntmps84
 go_wp2_with fail
 go_ret
 exact⟨rfl,dB _ _ _⟩
theorem SV(b H x y cap B:Nat)(hl acc:List Bool)(w:World)(hx:x<hl.length)(hH:dw w H hl) :
  Calls prog 84 #[pv (80,x,y),sv b H hl.length,.slice (some ⟨B,0,none⟩) acc.length cap] w λe w'=>e=.returned (.bool (hl.getD x false))/\Below w.heap.size w w':=by
 unfold pv sv;simp only;have hc:=hH.at hx;have hlB:=hH.1;generalize hl.getD x false=bx at hc ⊢;have hxi:(x:Int)<(hl.length:Int):=by omega
 go_enter func84,ntmps84
 go_wp2_with fail
 go_ret
 exact⟨rfl,dB _ _ _⟩
theorem SS(b H x y cap B:Nat)(hl acc:List Bool)(w:World)(hx:x<hl.length)(hH:dw w H hl) :
  Calls prog 84 #[pv (81,x,y),sv b H hl.length,.slice (some ⟨B,0,none⟩) acc.length cap] w λe w'=>e=.returned (.bool (hl.getD x false))/\Below w.heap.size w w':=by
 unfold pv sv;simp only;have hc:=hH.at hx;have hlB:=hH.1;generalize hl.getD x false=bx at hc ⊢;have hxi:(x:Int)<(hl.length:Int):=by omega
 go_enter func84,ntmps84
 go_wp2_with fail
 go_ret
 exact⟨rfl,dB _ _ _⟩
theorem KZ(b H x y cap B:Nat)(hl acc:List Bool)(w:World)(hx:x<acc.length)(hy:y<acc.length)(hB:dw w B acc) :
  Calls prog 84 #[pv (38,x,y),sv b H hl.length,.slice (some ⟨B,0,none⟩) acc.length cap] w λe w'=>e=.returned (.bool (acc.getD x false&&acc.getD y false))/\Below w.heap.size w w':=by
 unfold pv sv;simp only;have hc:=hB.at hx;have hlB:=hB.1;generalize acc.getD x false=bx at hc ⊢;have hxi:(x:Int)<(acc.length:Int):=by omega
 have hc2:=hB.at hy;generalize acc.getD y false=by' at hc2 ⊢;have hyi:(y:Int)<(acc.length:Int):=by omega
 go_enter func84,ntmps84
 cases bx
 ·go_wp2_with fail
  go_ret
  exact⟨by simp,dB _ _ _⟩
 ·go_wp2_with fail
  go_ret
  exact⟨by simp,dB _ _ _⟩
theorem OA(b H x y cap B:Nat)(hl acc:List Bool)(w:World)(hx:x<acc.length)(hy:y<acc.length)(hB:dw w B acc) :
  Calls prog 84 #[pv (124,x,y),sv b H hl.length,.slice (some ⟨B,0,none⟩) acc.length cap] w λe w'=>e=.returned (.bool (acc.getD x false||acc.getD y false))/\Below w.heap.size w w':=by
 unfold pv sv;simp only;have hc:=hB.at hx;have hlB:=hB.1;generalize acc.getD x false=bx at hc ⊢;have hxi:(x:Int)<(acc.length:Int):=by omega
 have hc2:=hB.at hy;generalize acc.getD y false=by' at hc2 ⊢;have hyi:(y:Int)<(acc.length:Int):=by omega
 go_enter func84,ntmps84
 cases bx
 ·go_wp2_with fail
  go_ret
  exact⟨by simp,dB _ _ _⟩
 ·go_wp2_with fail
  go_ret
  exact⟨by simp,dB _ _ _⟩
theorem KW(b H x y cap B:Nat)(hl acc:List Bool)(w:World)(hx:x<acc.length)(hy:y<acc.length)(hB:dw w B acc) :
  Calls prog 84 #[pv (62,x,y),sv b H hl.length,.slice (some ⟨B,0,none⟩) acc.length cap] w λe w'=>e=.returned (.bool (!(acc.getD x false)||acc.getD y false))/\Below w.heap.size w w':=by
 unfold pv sv;simp only;have hc:=hB.at hx;have hlB:=hB.1;generalize acc.getD x false=bx at hc ⊢;have hxi:(x:Int)<(acc.length:Int):=by omega
 have hc2:=hB.at hy;generalize acc.getD y false=by' at hc2 ⊢;have hyi:(y:Int)<(acc.length:Int):=by omega
 go_enter func84,ntmps84
 cases bx
 ·go_wp2_with fail
  go_ret
  exact⟨by simp,dB _ _ _⟩
 ·go_wp2_with fail
  go_ret
  exact⟨by simp,dB _ _ _⟩
theorem OB(b H x y cap B:Nat)(hl acc:List Bool)(w:World)(n c:Nat)(f:Nat->Nat)(hx:x<n)(hy:y<n)(hn:n<=1000)(hle:∀i,i<n->f i<=i/\f (f i)=f i)(hM:gQ w b f n c) :
  Calls prog 84 #[pv (61,x,y),sv b H hl.length,.slice (some ⟨B,0,none⟩) acc.length cap] w λe w'=>e=.returned (.bool (decide (f x=f y)))/\Below w.heap.size w w':=by
 unfold pv sv;simp only;have hlB:=hM.lt;have HM:=aj hM;have HL:=aj hle;clear hM hle
 go_enter func84,ntmps84
 go_wp2_with fail
 have hb2:=dB w (.cells #[.int .u8 61,.int .i64 x,.int .i64 y] 93) (.cells #[.map (some b),.slice (some ⟨H,0,none⟩) hl.length hl.length] 105);refine(Og _ b n c f x y ((ah HM).kept (hb2.block b hlB)) hx hy hn (ah HL)).mono ?_;rintro e w2 ⟨rfl,rfl⟩
 go_wp2_with fail
 go_ret
 exact⟨rfl,hb2⟩
theorem KX(b H x y cap B:Nat)(hl acc:List Bool)(w:World)(hx:x<acc.length)(hy:y<acc.length)(hB:dw w B acc) :
  Calls prog 84 #[pv (45,x,y),sv b H hl.length,.slice (some ⟨B,0,none⟩) acc.length cap] w λe w'=>e=.returned (.bool (acc.getD x false==acc.getD y false))/\Below w.heap.size w w':=by
 unfold pv sv;simp only;have hc:=hB.at hx;have hlB:=hB.1;generalize acc.getD x false=bx at hc ⊢;have hxi:(x:Int)<(acc.length:Int):=by omega
 have hc2:=hB.at hy;generalize acc.getD y false=by' at hc2 ⊢;have hyi:(y:Int)<(acc.length:Int):=by omega
 go_enter func84,ntmps84
 go_wp2_with fail
 have hb2:=dB w (.cells #[.int .u8 45,.int .i64 x,.int .i64 y] 93) (.cells #[.map (some b),.slice (some ⟨H,0,none⟩) hl.length hl.length] 105);have hk1:((w.alloc (.cells #[.int .u8 45,.int .i64 x,.int .i64 y] 93)).alloc (.cells #[.map (some b),.slice (some ⟨H,0,none⟩) hl.length hl.length] 105)).cell? ⟨w.heap.size,1,none⟩=some (.int .i64 x):=by simp[go_sem]
 have hk2:((w.alloc (.cells #[.int .u8 45,.int .i64 x,.int .i64 y] 93)).alloc (.cells #[.map (some b),.slice (some ⟨H,0,none⟩) hl.length hl.length] 105)).cell? ⟨w.heap.size,2,none⟩=some (.int .i64 y):=by simp[go_sem]
 generalize ((w.alloc (.cells #[.int .u8 45,.int .i64 x,.int .i64 y] 93)).alloc (.cells #[.map (some b),.slice (some ⟨H,0,none⟩) hl.length hl.length] 105))=W at *;have hS0:W.drew.cell? ⟨w.heap.size,1,none⟩=some (.int .i64 x)/\W.drew.cell? ⟨w.heap.size,2,none⟩=some (.int .i64 y)/\W.drew.cell? ⟨B,x,none⟩=some (.bool bx)/\W.drew.cell? ⟨B,y,none⟩=some (.bool by'):=⟨hk1,hk2,(ae0 (hb2.block B hlB)).trans hc,(ae0 (hb2.block B hlB)).trans hc2⟩;refine ag0 (S:=λW'=>W'.cell? ⟨w.heap.size,1,none⟩=some (.int .i64 x)/\W'.cell? ⟨w.heap.size,2,none⟩=some (.int .i64 y)/\W'.cell? ⟨B,x,none⟩=some (.bool bx)/\W'.cell? ⟨B,y,none⟩=some (.bool by')) rfl ?_;simp only[ad3,ac9,ae1,Nat.reduceAdd,ac7,ac6,ad5,ad9,ad8];refine tH 0 (.slice (some ⟨B,0,none⟩) acc.length cap) (λw' hS=>?_) hS0 ?_
 ·obtain⟨s1,s2,s3,s4⟩:=hS;go_simp
 simp only[aC];refine tH 1 (.pointer (some ⟨w.heap.size,1,none⟩)) (λw' hS=>?_) hS0 ?_
 ·obtain⟨s1,s2,s3,s4⟩:=hS;go_simp
 simp only[aC];refine tH 2 (.int .i64 x) (λw' hS=>?_) hS0 ?_
 ·obtain⟨s1,s2,s3,s4⟩:=hS;go_simp
 simp only[aC];refine tH 3 (.pointer (some ⟨B,x,none⟩)) (λw' hS=>?_) hS0 ?_
 ·obtain⟨s1,s2,s3,s4⟩:=hS;go_simp
 simp only[aC];refine tH 4 (.bool bx) (λw' hS=>?_) hS0 ?_
 ·obtain⟨s1,s2,s3,s4⟩:=hS;go_simp
 simp only[aC];refine tH 5 (.slice (some ⟨B,0,none⟩) acc.length cap) (λw' hS=>?_) hS0 ?_
 ·obtain⟨s1,s2,s3,s4⟩:=hS;go_simp
 simp only[aC];refine tH 6 (.pointer (some ⟨w.heap.size,2,none⟩)) (λw' hS=>?_) hS0 ?_
 ·obtain⟨s1,s2,s3,s4⟩:=hS;go_simp
 simp only[aC];refine tH 7 (.int .i64 y) (λw' hS=>?_) hS0 ?_
 ·obtain⟨s1,s2,s3,s4⟩:=hS;go_simp
 simp only[aC];refine tH 8 (.pointer (some ⟨B,y,none⟩)) (λw' hS=>?_) hS0 ?_
 ·obtain⟨s1,s2,s3,s4⟩:=hS;go_simp
 simp only[aC];refine tH 9 (.bool by') (λw' hS=>?_) hS0 ?_
 ·obtain⟨s1,s2,s3,s4⟩:=hS;go_simp
 simp only[aC];refine tH 10 (.bool (bx==by')) (λw' hS=>?_) hS0 ?_
 ·obtain⟨s1,s2,s3,s4⟩:=hS;cases bx<;>cases by'<;>go_simp
 simp only[aC];refine oH 11 (λK hK=>?_);go_simp;refine hK.out _ _ hS0 (af4 (by kernel_rfl) ?_ _);clear hK K
 go_wp2_with fail
 go_ret
 exact⟨rfl,⟨hb2.os,hb2.tape,hb2.output,hb2.size,hb2.block⟩⟩
theorem KY(b H cap B nt c:Nat)(q:Key)(cl:List Int)(hl acc:List Bool)(f:Nat->Nat)(w:World)(hq:dH nt hl.length acc.length q)(hn:nt<=1000)(hle:∀i,i<nt->f i<=i/\f (f i)=f i)(hcl:∀i j,i<nt->j<nt->(f i=f j↔cl.getD i 0=cl.getD j 0))(hM:gQ w b f nt c)(hH:dw w H hl)(hB:dw w B acc) :
  Calls prog 84 #[pv q,sv b H hl.length,.slice (some ⟨B,0,none⟩) acc.length cap] w λe w'=>e=.returned (.bool (lY cl hl acc q))/\Below w.heap.size w w':=by
 obtain⟨s,x,y⟩:=q;unfold lY;rcases hq with⟨a,h1,h2⟩|⟨a,h1,h2⟩|⟨a,h1,h2⟩|⟨a,h1,h2⟩
 ·simp only at a h1 h2 ⊢;subst a;exact KU b H x y cap B hl acc w h1 hB
 ·simp only at a h1 h2 ⊢;have a':s=38\/s=124\/s=62\/s=45:=by simpa[au,or_assoc]using a
  rcases a' with rfl|rfl|rfl|rfl
  ·exact KZ b H x y cap B hl acc w h1 h2 hB
  ·exact OA b H x y cap B hl acc w h1 h2 hB
  ·exact KW b H x y cap B hl acc w h1 h2 hB
  ·exact KX b H x y cap B hl acc w h1 h2 hB
 ·simp only at a h1 h2 ⊢;rcases a with rfl|rfl
  ·exact SV b H x y cap B hl acc w h1 hH
  ·exact SS b H x y cap B hl acc w h1 hH
 ·simp only at a h1 h2 ⊢;subst a;have h:=OB b H x y cap B hl acc w nt c f h1 h2 hn hle hM;rw[ao6.2 (hcl x y h1 h2)]at h;exact h
end
section
open Go.RowKit Go.Maps Go.WideMaps
open aB (Key put dH lY jn au dP aP)
attribute [local go_sem] Oper.semAt_some
theorem JC:(prog.info? 4).map (λi=>(i.zero,i.size,i.bytes))=some (some (.bool false),1,1):=by kernel_rfl
theorem EC(w:World)(x:Bool)(t:TypeId)(n:Nat)(hn:w.heap.size=n):∀j u,[Value.bool x][j]?=some u->(w.alloc (.cells #[.bool x] t)).cell? ((⟨n,0,none⟩:Addr).add j)=some u:=by
 subst hn;intro j u hj;cases j with
 |zero=>simp at hj;subst hj;simp[Addr.add]
 |succ j=>simp at hj
theorem XI(x:Bool):∀u∈[Value.bool x],u.oneCell'=true:=by intro u hu;simp at hu;subst hu;rfl
theorem Ov{cl:List Int}{hl:List Bool}{nt nc:Nat}{ps:List Key}(h:aP nt nc ps){k:Nat}(hk:k<ps.length):((dP cl hl ps).take (k+1))=(dP cl hl ps).take k++[lY cl hl ((dP cl hl ps).take k) ps[k]]:=by
 have hk':k<(dP cl hl ps).length:=by rw[aB.fQ];exact hk
 have e1:=aB.Ji (cl:=cl) (hl:=hl) h hk;have e2:lY cl hl (dP cl hl ps) ps[k]=lY cl hl ((dP cl hl ps).take k) ps[k]:=aB.Jj (nt:=nt) (nc:=nc) (List.take_prefix _ _) (by rw[ai6,Nat.min_eq_left (Nat.le_of_lt hk')];exact h.ok k hk);rw[ag5,ac3 hk',<-e2,<-e1,ae7,ac3 hk'];rfl
theorem GZ(GT GC GP nt nc b c H:Nat)(f:Nat->Nat)(ps:List Key)(cl:List Int)(hl:List Bool)(w:World)(h1:0<ps.length)(h100:ps.length<=100)(hnt:nt<=7)(hrt:cO w GP ps)(hi:aP nt hl.length ps)(hf:∀i,i<nt->f i<=i/\f (f i)=f i)(hcl:∀i j,i<nt->j<nt->(f i=f j↔cl.getD i 0=cl.getD j 0))(hM:gQ w b f nt c)(hH:dw w H hl) :
  Calls prog 51 #[fv GT GC GP nt nc ps.length,sv b H hl.length] w λe w'=>e=.returned (.bool ((dP cl hl ps).getD (ps.length-1) false))/\Below w.heap.size w w':=by
 unfold fv sv;obtain⟨wb,hwb⟩:∃wb,wb=(w.alloc (.cells #[.slice (some ⟨GT,0,none⟩) nt nt,.slice (some ⟨GC,0,none⟩) nc nc,.slice (some ⟨GP,0,none⟩) ps.length ps.length] 54)).alloc (.cells #[.map (some b),.slice (some ⟨H,0,none⟩) hl.length hl.length] 105):=⟨_,rfl⟩;obtain⟨i0,hin,hz0,hz1,hz2⟩:=ak1 JC;obtain⟨w1,hmk,hrow,hg1⟩:=ar2 (P:=prog) wb wb.heap.size 103 4 i0 (.bool false) 1 underlying103 hin hz0 hz1 .i64 .i64 ps.length (by rw[hz2];omega) (by unfold maxLen;omega) (ac2 _);have ER:wb.heap.size=w.heap.size+2:=by rw[hwb];simp
 have hlt1:w.heap.size+2<w1.heap.size:=by have h:=(hrow.lt wb.heap.size rfl).2;rw[ER]at h;exact h
 have hc1:w1.cell? ⟨w.heap.size,2,none⟩=some (.slice (some ⟨GP,0,none⟩) ps.length ps.length):=hg1.cell (by rw[hwb];simp[go_sem]) (by simp);have hs1:w1.cell? ⟨w.heap.size+1,0,none⟩=some (.map (some b)):=hg1.cell (by rw[hwb];simp[go_sem]) (by simp);have hs2:w1.cell? ⟨w.heap.size+1,1,none⟩=some (.slice (some ⟨H,0,none⟩) hl.length hl.length):=hg1.cell (by rw[hwb];simp[go_sem]) (by simp);have hb1:Below w.heap.size w w1:=by
  have h1:Below w.heap.size w wb:=by rw[hwb];exact dB _ _ _
  exact h1.trans ⟨hg1.os,hg1.tape,hg1.output,hg1.size,λj hj=>hg1.block j (by omega) (by simp)⟩
 have hlG:=hrt.1;have hlM:=hM.lt;have hlH:=hH.1;rw[ER]at hrow;rw[hwb]at hmk;have HI:=aj hi;have HRT:=aj hrt;have HWB:=aj ER;have HF:=aj hf;have HCL:=aj hcl;have HM:=aj hM;have HH:=aj hH;clear hwb hi hrt hg1 ER hf hcl hM hH
 go_enter func51,ntmps51
 go_wp2_with fail
 have hrow0:w1.ownsRow 0 4 1 (.slice (some ⟨w.heap.size+2,0,none⟩) 0 ps.length) 0 []:=fO hrow (ag3 _);clear hmk hrow
 go_loopw [5,15] (λt i wr=>∃k:Nat,k<=ps.length/\i=.int .i64 k/\t=.slice (some ⟨w.heap.size+2,0,none⟩) k ps.length/\wr.ownsRow 0 4 1 (.slice (some ⟨w.heap.size+2,0,none⟩) k ps.length) k (((dP cl hl ps).take k).map Value.bool)/\Below w.heap.size w wr/\wr.cell? ⟨w.heap.size+1,0,none⟩=some (.map (some b))/\wr.cell? ⟨w.heap.size+1,1,none⟩=some (.slice (some ⟨H,0,none⟩) hl.length hl.length)) (λ_ i _=>ps.length-(intOf i).toNat)
 case atStart=>exact⟨0,ag3 _,rfl,rfl,hrow0,hb1,hs1,hs2⟩
 case round=>
  obtain⟨k,hk,rfl,rfl,hrw,hb,hx1,hx2⟩:=hrel;by_cases hlt:k<ps.length
  ·have hbd:(k:Int)<(ps.length:Int):=(by omega);obtain⟨c0,c1,c2⟩:=((ah HRT).below hb hlG).2 k hlt;have hfit:k+1<=ps.length:=hlt;have hGr:w.heap.size+2<wr.heap.size:=(hrw.lt (w.heap.size+2) rfl).2;have CB:((dP cl hl ps).take k).length=k:=(by rw[ai6,aB.fQ];omega);have hok:dH nt hl.length ((dP cl hl ps).take k).length ps[k]:=(by rw[CB];exact(ah HI).ok k hlt);have hpt:Hid (∀W2:World,wr.grownBy W2 none->Calls prog 84 #[pv ps[k],sv b H hl.length,.slice (some ⟨w.heap.size+2,0,none⟩) k ps.length] W2 λe w'=>e=.returned (.bool (lY cl hl ((dP cl hl ps).take k) ps[k]))/\W2.grownBy w' none):=λW2 h=>by
    have hB:dw W2 (w.heap.size+2) ((dP cl hl ps).take k):=by
     refine⟨ac8 hGr h.size,λi hi=>?_⟩;have hi':i<k:=(by omega);have e:=(hrw.kept h (Or.inr (by simp[Value.ownBlock]))).cellAt i (by omega);rw[e];rw[ak3,ac3 hi];rfl
    have hbw:Below w.heap.size w W2:=hb.grown h hb.size (λk e=>by cases e);have hc:=KY b H ps.length (w.heap.size+2) nt c ps[k] cl hl ((dP cl hl ps).take k) f W2 hok (by omega) (ah HF) (ah HCL) ((ah HM).kept (hbw.block b hlM)) ((ah HH).same (hbw.block H hlH)) hB;rw[CB]at hc;exact hc.mono λe w' ⟨h1,h2⟩=>⟨h1,⟨h2.os,h2.tape,h2.output,h2.size,λq hq _=>h2.block q hq⟩⟩
   have hts:((dP cl hl ps).take (k+1)).map Value.bool=((dP cl hl ps).take k).map Value.bool++[.bool (lY cl hl ((dP cl hl ps).take k) ps[k])]:=(by rw[Ov (ah HI) hlt,ak0];rfl);have HTS:=aj hts;have hap:Hid (∀W2:World,wr.grownBy W2 none->W2.ownsRow 0 4 1 (.slice (some ⟨w.heap.size+2,0,none⟩) k ps.length) k (((dP cl hl ps).take k).map Value.bool)):=λW2 h=>hrw.kept h (Or.inr (by simp[Value.ownBlock]));clear hts hok CB;generalize lY cl hl ((dP cl hl ps).take k) ps[k]=bn at HTS hpt;generalize ps[k]=key at c0 c1 c2 hpt;obtain⟨kl,kf,ks⟩:=key;simp only at c0 c1 c2;unfold pv sv at hpt;simp only at hpt;have hy1:(wr.alloc (.cells #[.int .u8 kl,.int .i64 kf,.int .i64 ks] 93)).cell? ⟨w.heap.size+1,0,none⟩=some (.map (some b)):=(ac1 _ _ none).cell hx1 (by simp);have hy2:(wr.alloc (.cells #[.int .u8 kl,.int .i64 kf,.int .i64 ks] 93)).cell? ⟨w.heap.size+1,1,none⟩=some (.slice (some ⟨H,0,none⟩) hl.length hl.length):=(ac1 _ _ none).cell hx2 (by simp);have hga:wr.grownBy (wr.alloc (.cells #[.int .u8 kl,.int .i64 kf,.int .i64 ks] 93)) none:=ac1 _ _ none
   go_wp2_with fail
   refine(ah hpt _ hga).mono ?_;rintro e w3 ⟨rfl,hg3⟩;have hg4:wr.grownBy w3 none:=hga.trans hg3
   go_wp2_with (refine wpList_append_fits _ rfl (.tmp 19) (.tmp 24) 103 rfl 0 4 i0 1 underlying103 hin hz1 _ _ _ _ rfl (ah hap _ (hg4.trans (ac1 _ _ none))) _ 1 1 [.bool bn] rfl rfl (EC _ _ _ _ rfl) (XI _) hfit ?_;intro w4 r1 r2)
   have hg5:=hg4.trans (ac1 w3 (.cells #[.bool bn] 4) none);exact⟨⟨k+1,hfit,by go_num,rfl,by rw[ah HTS];exact r1,NT hb hg5 r2 (by omega),r2.cell (hg5.cell hx1 (by simp)) (by simp),r2.cell (hg5.cell hx2 (by simp)) (by simp)⟩,by simp[intOf];omega⟩
  ·have hkk:k=ps.length:=(by omega);subst hkk;have hbd:¬(ps.length:Int)<(ps.length:Int):=(by omega);have hcn:wr.cell? ⟨w.heap.size+2,ps.length-1,none⟩=some (.bool ((dP cl hl ps).getD (ps.length-1) false)):=by
    rw[hrw.cellAt (ps.length-1) (by omega)];have:ps.length-1<(dP cl hl ps).length:=(by rw[aB.fQ];omega);rw[ah2 (by rw[aB.fQ];exact ac2 _),ak3,ae7,ac3 this];rfl
   have hdi:((ps.length:Int)-1)=((ps.length-1:Nat):Int):=(by omega);have hle1:((ps.length-1:Nat):Int)<(ps.length:Int):=(by omega);obtain⟨bn,hbn⟩:∃bn,(dP cl hl ps).getD (ps.length-1) false=bn:=⟨_,rfl⟩;rw[hbn]at hcn;have HBN:=aj hbn;clear hbn
   go_wp2_with fail
   go_ret
   refine⟨?_,hb⟩;have hbn:=ah HBN;rw[ae7]at hbn;simp[hbn]
end
open Go.RowKit Go.Maps Go.WideMaps
open aB (Key put dH lY jn au dP aP)
def UL(f:Nat->Nat)(ts:List Key)(cs:List (Int×Nat))(ps:List Key)(cl:List Int)(hl:List Bool):Bool:=
 decide (∀p∈bg (mkd f ts) ts.length,f p.1=f p.2)&&decide (∀p∈bg (xF f cs) cs.length,hl.getD p.1 false=hl.getD p.2 false)&&(dP cl hl ps).getD (ps.length-1) false
def Rx(GT GC GP nt nc np b H nh n:Nat)(W:World):Prop:=
 W.cell? ⟨n,0,none⟩=some (.slice (some ⟨GT,0,none⟩) nt nt)/\W.cell? ⟨n,1,none⟩=some (.slice (some ⟨GC,0,none⟩) nc nc)/\W.cell? ⟨n,2,none⟩=some (.slice (some ⟨GP,0,none⟩) np np)/\W.cell? ⟨n+1,0,none⟩=some (.map (some b))/\W.cell? ⟨n+1,1,none⟩=some (.slice (some ⟨H,0,none⟩) nh nh)
theorem Rx.step{GT GC GP nt nc np b H nh n:Nat}{W W':World}(k:Rx GT GC GP nt nc np b H nh n W)(hs:n+1<W.heap.size)(h:Below W.heap.size W W'):Rx GT GC GP nt nc np b H nh n W':=
 ⟨(h.cell (p:=⟨n,0,none⟩) (by show n<_;omega)).trans k.1,(h.cell (p:=⟨n,1,none⟩) (by show n<_;omega)).trans k.2.1,(h.cell (p:=⟨n,2,none⟩) (by show n<_;omega)).trans k.2.2.1,(h.cell (p:=⟨n+1,0,none⟩) hs).trans k.2.2.2.1,(h.cell (p:=⟨n+1,1,none⟩) hs).trans k.2.2.2.2⟩
theorem EP(GT GC GP b c H:Nat)(f:Nat->Nat)(ts:List Key)(cs:List (Int×Nat))(ps:List Key)(cl:List Int)(hl:List Bool)(w:World)(h7:ts.length<=7)(h4:cs.length<=4)(h1:0<ps.length)(h100:ps.length<=100)(hlh:hl.length=cs.length)
 (hrt:cO w GT ts)(hrc:eP w GC cs)(hrp:cO w GP ps)(hit:aB.Inv ts)(hic:∀x∈cs,(x.1=80\/x.1=81)/\x.2<ts.length)(ny:aP ts.length cs.length ps)(hf:∀i,i<ts.length->f i<=i/\f (f i)=f i)(hcl:∀i j,i<ts.length->j<ts.length->(f i=f j↔cl.getD i 0=cl.getD j 0))(hM:gQ w b f ts.length c)(hH:dw w H hl) :
  Calls prog 55 #[fv GT GC GP ts.length cs.length ps.length,sv b H hl.length] w λe w'=>e=.returned (.bool (UL f ts cs ps cl hl))/\Below w.heap.size w w':=by
 have hA:Hid (∀W:World,Below w.heap.size w W->Calls prog 48 #[fv GT GC GP ts.length cs.length ps.length,.map (some b)] W λe w'=>e=.returned (.bool (decide (∀p∈bg (mkd f ts) ts.length,f p.1=f p.2)))/\Below W.heap.size W w'):=λW h=>
  rG GT GC GP cs.length ps.length b c f ts W h7 (hrt.below h hrt.1) hit (λi h=>Nat.lt_of_le_of_lt (hf i h).1 h) (gU.of (hM.kept (h.block b hM.lt)) hf)
 have hB:Hid (∀W:World,Below w.heap.size w W->Calls prog 50 #[fv GT GC GP ts.length cs.length ps.length,sv b H hl.length] W λe w'=>e=.returned (.bool (decide (∀p∈bg (xF f cs) cs.length,hl.getD p.1 false=hl.getD p.2 false)))/\Below W.heap.size W w'):=λW h=>
  I7 GT GC GP ts.length ps.length b c H f cs hl W h4 h7 hlh (hrc.below h hrc.1) hic hf (hM.kept (h.block b hM.lt)) (hH.same (h.block H hH.1))
 have hC:Hid (∀W:World,Below w.heap.size w W->Calls prog 51 #[fv GT GC GP ts.length cs.length ps.length,sv b H hl.length] W λe w'=>e=.returned (.bool ((dP cl hl ps).getD (ps.length-1) false))/\Below W.heap.size W w'):=λW h=>
  GZ GT GC GP ts.length cs.length b c H f ps cl hl W h1 h100 h7 (hrp.below h hrp.1) (by rw[hlh];exact ny) hf hcl (hM.kept (h.block b hM.lt)) (hH.same (h.block H hH.1))
 unfold UL;generalize decide (∀p∈bg (mkd f ts) ts.length,f p.1=f p.2)=b1 at hA ⊢;generalize decide (∀p∈bg (xF f cs) cs.length,hl.getD p.1 false=hl.getD p.2 false)=b2 at hB ⊢;generalize (dP cl hl ps).getD (ps.length-1) false=b3 at hC ⊢;generalize ts.length=nt at *;generalize cs.length=nc at *;generalize ps.length=np at *;generalize hl.length=nh at *;clear hrt hrc hrp hit hic ny hf hcl hM hH;unfold fv sv at *;have HLH:=aj hlh;clear hlh;have hAl:∃wa,(w.alloc (.cells #[.slice (some ⟨GT,0,none⟩) nt nt,.slice (some ⟨GC,0,none⟩) nc nc,.slice (some ⟨GP,0,none⟩) np np] 54)).alloc (.cells #[.map (some b),.slice (some ⟨H,0,none⟩) nh nh] 105)=wa:=⟨_,rfl⟩;obtain⟨wa,hwa⟩:=hAl;have hba:Below w.heap.size w wa:=by rw[<-hwa];exact dB _ _ _
 have hsa:wa.heap.size=w.heap.size+2:=by rw[<-hwa];simp
 have ka:Rx GT GC GP nt nc np b H nh w.heap.size wa:=by
  rw[<-hwa];exact⟨by simp[go_sem],by simp[go_sem],by simp[go_sem],by simp[go_sem],by simp[go_sem]⟩
 have hsz:w.heap.size+1<wa.heap.size:=by omega
 have HWA:=aj hwa;have KA':=aj ka;have HSA:=aj hsa;have oK:=aj hsz;clear hsz hsa hwa ka
 go_enter func55,ntmps55
 go_wp2_with fail
 rw[ah HWA];refine(ah hA _ hba).mono ?_;rintro e w1 ⟨rfl,hb1⟩;have k1:=(ah KA').step (ah oK) hb1;have hs1:wa.heap.size<=w1.heap.size:=hb1.size;have V4:Below w.heap.size w w1:=hba.trans ⟨hb1.os,hb1.tape,hb1.output,hb1.size,λj hj=>hb1.block j (by have:=ah HSA;omega)⟩;obtain⟨p1,p2,p3,p4,p5⟩:=k1;cases b1
 ·go_wp2_with fail
  go_ret
  exact⟨by simp,V4⟩
 go_wp2_with fail
 refine(ah hB _ V4).mono ?_;rintro e w2 ⟨rfl,hb2⟩;have k2:=Rx.step (W:=w1) ⟨p1,p2,p3,p4,p5⟩ (ac8 (ah oK) hs1) hb2;have hs2:wa.heap.size<=w2.heap.size:=ae4 hs1 hb2.size;have VZ:Below w.heap.size w w2:=V4.trans ⟨hb2.os,hb2.tape,hb2.output,hb2.size,λj hj=>hb2.block j (by have:=ah HSA;omega)⟩;obtain⟨r1,r2,r3,r4,r5⟩:=k2;cases b2
 ·go_wp2_with fail
  go_ret
  exact⟨by simp,VZ⟩
 go_wp2_with fail
 refine(ah hC _ VZ).mono ?_;rintro e w3 ⟨rfl,hb3⟩;have aax:Below w.heap.size w w3:=VZ.trans ⟨hb3.os,hb3.tape,hb3.output,hb3.size,λj hj=>hb3.block j (by have:=ah HSA;omega)⟩
 go_wp2_with fail
 go_ret
 exact⟨by simp,aax⟩
end Go.Proofs.YthcppbmkacbbiaaGreat
