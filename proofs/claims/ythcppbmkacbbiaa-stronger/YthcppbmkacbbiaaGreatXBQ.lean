import Derived.Test.YthcppbmkacbbiaaGreatXBO
import Derived.Test.YthcppbmkacbbiaaGreatXBE
import Derived.Lib.AppendZerosOnto
set_option linter.unusedSimpArgs false
set_option maxHeartbeats 2000000
set_option maxRecDepth 100000
namespace Go.Proofs.YthcppbmkacbbiaaGreat
open Go.Proofs.Tryz
section
open Go.RowKit Go.Maps Go.WideMaps
open aB (Key put)
attribute [local go_sem] Oper.semAt_some
theorem MB(n:Nat)(w:World)(hn:n<=1000) :
  Calls prog 188 #[.slice none 0 0,.int .i64 n] w λe w'=>∃v,e=.returned v/\w'.ownsRow w.heap.size 224 5 v 0 []/\w.grownBy w' none:=by
 obtain⟨i0,hin,hz0,hz1,hz2⟩:=ai8 BM;have hneg:¬((n:Int)<0):=by omega
 rcases aj3 n with h0|h0
 ·subst h0
  go_enter func188,ntmps188
  go_wp2_with fail
  go_ret
  exact⟨_,rfl,ak5 _ _ _ _,af9 _ _⟩
 ·have hpos:(n:Int)>0:=by omega
  have hrz:∀ty,(Builtin.append_ #[165,3] ty #[.slice none 0 0,.int .i64 n]).run prog w =
    .ok (.slice (some ⟨w.heap.size,0,none⟩) n (grownCap w n 0 224)) (w.drew.alloc (.cells (#[]++Builtin.zeroCells (Value.agg #[.int .i64 0,.bool false,.int .u8 0,.int .i64 0,.int .i64 0]).cells n++Builtin.zeroCells (Value.agg #[.int .i64 0,.bool false,.int .u8 0,.int .i64 0,.int .i64 0]).cells (grownCap w n 0 224-n)) 224)):=λty=>by
   have h:=Lib.run_append_grow_zeros w 165 3 ty 224 i0 _ .i64 .i64 underlying165 underlying3 hin hz0 none 0 0 [] (run_firstCells_none w.drew i0.size 0 0 0) n h0 (by rw[hz1];decide) (by omega) (by omega) (by rw[hz2];omega) (by rw[ak2];exact growslice_fits (by omega) (by rw[hz2];omega));rw[ak2]at h;exact h
  have hGn:n<=grownCap w n 0 224:=grownCap_ge w _ _ _;have hGm:=grownCap_le_maxLen w n 0 224 (by unfold maxLen;omega);obtain⟨G,hG⟩:∃G,G=grownCap w n 0 224:=⟨_,rfl⟩;rw[<-hG]at hrz hGn hGm;have hG63:G<=9223372036854775807:=by unfold maxLen at hGm;omega
  clear hG
  go_enter func188,ntmps188
  go_wp2_with (at_builtin;refine Lib.wpList_append_run _ rfl _ _ _ _ rfl _ _ rfl rfl _ _ (hrz _) ?_)
  go_ret
  refine⟨_,rfl,⟨rfl,Or.inr ⟨w.heap.size,G,Builtin.zeroCells #[.int .i64 0,.bool false,.int .u8 0,.int .i64 0,.int .i64 0] n++Builtin.zeroCells #[.int .i64 0,.bool false,.int .u8 0,.int .i64 0,.int .i64 0] (G-n),rfl,ab3 _,?_,af4 _,hGm,?_,by simp⟩⟩,?_⟩
  ·exact ac4 w.drew _
  ·rw[Array.size_append,size_zeroCells,size_zeroCells];simp;omega
  ·exact(⟨rfl,rfl,rfl,ab3 _,λ_ _ _=>rfl⟩:w.grownBy w.drew none).trans (ab2 _ _ none)
theorem lH{W:World}{base e size n:Nat}{v:Value}{xs:List Value}(h:W.ownsRow base e size v n xs):∃p cap,v=.slice p n cap:=by
 rcases h.2 with⟨rfl,h0⟩|⟨g,cap,cur,rfl,_⟩
 ·subst h0;exact⟨_,_,rfl⟩
 ·exact⟨_,_,rfl⟩
theorem Iw(w:World)(B m1 c1 m2 c2:Nat)(ad1 ad2:Addr)(n1 n2:List Value)(hB:w.heap[B]?=some (.cells #[.slice (some ad1) m1 c1,.slice (some ad2) m2 c2] 165 (0,0)))(h1:m1<=100)(h2:m2<=100)
 (hl1:n1.length=m1*5)(hl2:n2.length=m2*5)(hc1:∀j u,n1[j]?=some u->w.cell? (ad1.add j)=some u)(hc2:∀j u,n2[j]?=some u->w.cell? (ad2.add j)=some u)(ho1:∀u∈n1,u.oneCell'=true)(ho2:∀u∈n2,u.oneCell'=true) :
  Calls prog 147 #[.slice (some ⟨B,0,none⟩) 2 2] w λe w'=>∃v,e=.returned v/\w'.ownsRow w.heap.size 224 5 v (m1+m2) (n1++n2)/\Below w.heap.size w w':=by
 obtain⟨i0,hin,hz0,hz1,hz2⟩:=ai8 BM;have b0:w.cell? ⟨B,0,none⟩=some (.slice (some ad1) m1 c1):=by rw[cell_of hB];rfl
 have b1:w.cell? ⟨B,1,none⟩=some (.slice (some ad2) m2 c2):=by rw[cell_of hB];rfl
 have hBl:=(ab1.1 hB).1;have hn1:¬((m1:Int)<0):=by omega
 have hn2:¬((m1:Int)+(m2:Int)<0):=by omega
 have hgr:=MB (m1+m2) w (by omega);rw[Int.natCast_add]at hgr;have HC1:Hid (∀W,Below w.heap.size w W->∀j u,n1[j]?=some u->W.cell? (ad1.add j)=some u):=λW hW j u hj=>by
  have:=hc1 j u hj;exact(hW.cell (p:=ad1.add j) (ab6 w _ this)).trans this
 have HC2:Hid (∀W,Below w.heap.size w W->∀j u,n2[j]?=some u->W.cell? (ad2.add j)=some u):=λW hW j u hj=>by
  have:=hc2 j u hj;exact(hW.cell (p:=ad2.add j) (ab6 w _ this)).trans this
 have HL1:=aj hl1;have HL2:=aj hl2;clear hc1 hc2 hl1 hl2 hB
 go_enter func147,ntmps147
 go_wp2_with fail
 refine wp_loop_rounds 3 ?_;rw[al6]
 go_wp2_with fail
 rw[al6]
 go_wp2_with fail
 rw[al6]
 go_wp2_with fail
 refine hgr.mono ?_;rintro e w1 ⟨v0,rfl,hrow0,hg1⟩;obtain⟨p0,cap0,rfl⟩:=lH hrow0;have hb1:Below w.heap.size w w1:=(af0 _ w).grown hg1 (ab3 _) (λk e=>by cases e);have q0:w1.cell? ⟨B,0,none⟩=some (.slice (some ad1) m1 c1):=hg1.cell b0 (by simp);have q1:w1.cell? ⟨B,1,none⟩=some (.slice (some ad2) m2 c2):=hg1.cell b1 (by simp);have HB1:=aj hb1;have hs1:=hb1.size;clear hgr hb1 hg1
 go_wp2_with fail
 refine wp_loop_rounds 3 ?_;rw[al6]
 go_wp2_with (at_builtin;refine aj9 _ rfl _ _ 165 rfl w.heap.size 224 i0 _ 5 40 underlying165 hin hz0 hz1 hz2 rfl (by decide) (.slice p0 0 cap0) 0 [] rfl hrow0 ad1 m1 c1 n1 rfl (ah HL1) (ah HC1 _ (ah HB1)) ho1 (by unfold maxLen;omega) (by omega) hs1 ?_;intro v1 w2 hown1 hg2 hnil2 aad;obtain⟨p1,cap1,hv1⟩:=lH hown1;subst hv1)
 have hb2:Below w.heap.size w w2:=(ah HB1).grown hg2 (ah HB1).size (λk e=>(hrow0.lt k e).1);have r1:w2.cell? ⟨B,1,none⟩=some (.slice (some ad2) m2 c2):=(hb2.cell (p:=⟨B,1,none⟩) hBl).trans b1;have HB2:=aj hb2;have hs2:=hb2.size;rw[ak2,ac6]at hown1;clear hb2 hg2 hnil2 aad;rw[al6]
 go_wp2_with (at_builtin;refine aj9 _ rfl _ _ 165 rfl w.heap.size 224 i0 _ 5 40 underlying165 hin hz0 hz1 hz2 rfl (by decide) (.slice p1 m1 cap1) m1 n1 rfl hown1 ad2 m2 c2 n2 rfl (ah HL2) (ah HC2 _ (ah HB2)) ho2 (by unfold maxLen;omega) (by omega) hs2 ?_;intro v2 w3 hown2 hg3 hnil3 SX;obtain⟨p2,cap2,hv2⟩:=lH hown2;subst hv2)
 have hb3:Below w.heap.size w w3:=(ah HB2).grown hg3 (ah HB2).size (λk e=>(hown1.lt k e).1);have HB3:=aj hb3;have HO2:=aj hown2;clear hb3 hg3 hnil3 SX hown2;rw[al6]
 go_wp2_with fail
 go_ret
 exact⟨_,rfl,ah HO2,ah HB3⟩
end
section
open aB (put)
theorem O8(s:ByteArray)(n c:Nat)(h:s.size=n+1+c):hlo s n c=(s.data.toList.drop (n+1)).map (·==49):=by
 have hl:s.data.toList.length=s.size:=by simp
 refine List.ext_getElem ?_ ?_
 ·simp only[hlo,ai6,List.length_range,List.length_drop];omega
 ·intro i h1 h2;have h3:n+1+i<s.data.toList.length:=by simp only[hlo,ai6,List.length_range]at h1;omega
  simp only[hlo,aj8,List.getElem_range,List.getElem_drop];rw[ad4,ab4 h3];rfl
theorem OB{l:List Nat}{x y:Nat}:y∈put l x↔y∈l\/y=x:=by
 unfold put;split
 ·rename_i h;have h1:x∈l:=by simpa using h
  constructor
  ·exact .inl
  ·rintro(h2|rfl)
   ·exact h2
   ·exact h1
 ·simp
theorem gK(f:Nat->Nat):∀(k x:Nat),x∈nums f k↔∃j,j<k/\f j=x
 |0,x=>by simp[nums]
 |k+1,x=>by
  unfold nums;rw[OB,gK f k x];constructor
  ·rintro(⟨j,h1,h2⟩|rfl)
   ·exact⟨j,by omega,h2⟩
   ·exact⟨k,by omega,rfl⟩
  ·rintro⟨j,h1,h2⟩;by_cases e:j=k
   ·subst e;exact .inr h2.symm
   ·exact .inl ⟨j,by omega,h2⟩
theorem wV{l:List Nat}{x y:Nat}(h:y∈l):(put l x).idxOf y=l.idxOf y:=by
 unfold put;split
 ·rfl
 ·rw[ai1,ad3 h]
theorem RN{l:List Nat}{x:Nat}:(put l x).idxOf x=l.idxOf x:=by
 by_cases h:x∈l
 ·exact wV h
 ·have h2:put l x=l++[x]:=by unfold put;rw[ac2 (by simpa using h)]
  rw[h2,ag0 h,ai1,ac2 h];simp
theorem oU(f:Nat->Nat)(j:Nat):∀k,j<k->(nums f k).idxOf (f j)=(nums f j).idxOf (f j)
 |0,h=>by omega
 |k+1,h=>by
  show(put (nums f k) (f k)).idxOf (f j)=_
  by_cases e:j=k
  ·subst e;exact RN
  ·rw[wV ((gK f k _).2 ⟨j,by omega,rfl⟩)];exact oU f j k (by omega)
theorem Qk(f:Nat->Nat)(k j:Nat)(h:j<k):(tC f k)[j]?=some (UInt8.ofNat (48+(nums f j).idxOf (f j))):=by simp[tC,h]
theorem UK{a b:UInt8}(h:a.toNat=b.toNat):a=b:=UInt8.toNat.inj h
theorem CU(f:Nat->Nat)(k:Nat):(tC f k).length=k:=by simp[tC]
end
section
open Go.RowKit Go.Maps Go.WideMaps
open aB (Key put St aO dR)
def hld(m:ByteArray)(ts:List Key)(cs:List (Int×Nat))(ps:List Key)(cl:List Int):Bool×Int:=
 if m.size=ts.length+1+cs.length/\wrt (fi (m.data.toList.take ts.length)) ts.length (hlo m ts.length cs.length)=m.data.toList then(Uk (fi (m.data.toList.take ts.length)) ts cs ps cl (hlo m ts.length cs.length),0)else(false,6)
theorem O4(w:World)(s m:ByteArray)(cl:List Int)(hs:s.size<=100)(ts:List Key)(cs:List (Int×Nat))(ps:List Key)(mm:Nat)(HR:aB.iL (pk s) (s.size+1) 0 0 [] [] []=.ok (s.size,ts,cs,ps,mm))(h7:ts.length<=7)(h4:cs.length<=4)(hi:aB.Inv ts)(hic:aB.jA ts cs)
 (hnd:cs.Nodup)(mG:aB.aO ts.length cs.length ps)(hp0:0<ps.length)(hp:ps.length<=100)(Yb:∀x∈cs,(x.1=80\/x.1=81)/\x.2<ts.length)
 (hcl:m.size=ts.length+1+cs.length->∀i j,i<ts.length->j<ts.length->(fi (m.data.toList.take ts.length) i=fi (m.data.toList.take ts.length) j↔cl.getD i 0=cl.getD j 0)) :
  Calls prog 34 #[.string s,.string m] w λe w'=>e=.returned (.tuple #[.bool (hld m ts cs ps cl).1,.int .i64 (hld m ts cs ps cl).2])/\Below w.heap.size w w':=by
 have HO:=aj (qU w s hs ts cs ps mm HR h7 h4 hi hic hnd mG hp);have AO:(hlo m ts.length cs.length).length=cs.length:=by simp[hlo]
 have HM:Hid (m.size=ts.length+1+cs.length->∀(GT GC GP b H:Nat) (W:World),bU W GT ts->eF W GC cs->bU W GP ps->gG W b (fi (m.data.toList.take ts.length)) ts.length 100->cZ W H (hlo m ts.length cs.length)->
   Calls prog 55 #[fv GT GC GP ts.length cs.length ps.length,sv b H cs.length] W λe w'=>e=.returned (.bool (Uk (fi (m.data.toList.take ts.length)) ts cs ps cl (hlo m ts.length cs.length)))/\Below W.heap.size W w'):=λhe GT GC GP b H W r1 r2 r3 r4 r5=>by
  have hl2:(m.data.toList.take ts.length).length=ts.length:=by
   have:m.data.toList.length=m.size:=(by simp);rw[ah3];omega
  have h:=EJ GT GC GP b 100 H (fi (m.data.toList.take ts.length)) ts cs ps cl (hlo m ts.length cs.length) W h7 h4 hp0 hp AO r1 r2 r3 hi Yb mG (λi hi=>⟨E8 _ i (by omega),Jw _ i (by omega)⟩) (hcl he) r4 r5;rw[AO]at h;exact h
 have HS1:=aj (fun(GT GC GP:Nat) (W:World) (he:m.size≠ts.length+1+cs.length)=>zK GT GC GP ts.length cs.length ps.length m W h7 h4 he);have HS2:=aj (fun(GT GC GP:Nat) (W:World) (he:m.size=ts.length+1+cs.length)=>Bl GT GC GP ts.length cs.length ps.length m W h7 h4 he);have ZY:hld m ts cs ps cl=hld m ts cs ps cl:=rfl;unfold hld;generalize Uk (fi (m.data.toList.take ts.length)) ts cs ps cl (hlo m ts.length cs.length)=bm at HM ⊢;generalize wrt (fi (m.data.toList.take ts.length)) ts.length (hlo m ts.length cs.length)=wt at HS2 ⊢;obtain⟨r,hr⟩:∃r:Bool×Int,(if m.size=ts.length+1+cs.length/\wt=m.data.toList then(bm,(0:Int))else(false,6))=r:=⟨_,rfl⟩;rw[hr];have HRS:=aj hr;clear hi hic HR mG hcl AO Yb hnd ZY hr;unfold fv at HO HM HS1 HS2;unfold sv at HM HS2
 go_enter func34,ntmps34
 go_wp2_with fail
 refine(ah HO).mono ?_;rintro e w1 ⟨GT,GC,GP,rfl,h1,hfr⟩;have hT1:=wU hfr.t;have hC1:=I7 hfr.c;have hP1:=wU hfr.p;have M1:=aj hT1;have M2:=aj hC1;have M3:=aj hP1;clear hT1 hC1 hP1 HO hfr
 go_wp2_with fail
 obtain⟨w2,hw2⟩:∃w2,w1.alloc (.cells #[.slice (some ⟨GT,0,none⟩) ts.length ts.length,.slice (some ⟨GC,0,none⟩) cs.length cs.length,.slice (some ⟨GP,0,none⟩) ps.length ps.length] 54)=w2:=⟨_,rfl⟩;have hbn:Below w1.heap.size w1 w2:=by rw[<-hw2];exact(af0 w1.heap.size w1).alloc (ab3 _) _
 have hs2:w2.heap.size=w1.heap.size+1:=by rw[<-hw2];simp
 have q0:w2.cell? ⟨w1.heap.size,0,none⟩=some (.slice (some ⟨GT,0,none⟩) ts.length ts.length):=by rw[<-hw2];simp[go_sem]
 have q1:w2.cell? ⟨w1.heap.size,1,none⟩=some (.slice (some ⟨GC,0,none⟩) cs.length cs.length):=by rw[<-hw2];simp[go_sem]
 have q2:w2.cell? ⟨w1.heap.size,2,none⟩=some (.slice (some ⟨GP,0,none⟩) ps.length ps.length):=by rw[<-hw2];simp[go_sem]
 rw[hw2];have hb2:Below w.heap.size w w2:=h1.trans ⟨hbn.os,hbn.tape,hbn.output,hbn.size,λj hj=>hbn.block j (by have:=h1.size;omega)⟩;clear hw2;by_cases he:m.size=ts.length+1+cs.length
 ·refine(ah HS2 GT GC GP w2 he).mono ?_;rintro e w3 ⟨b,H,rfl,lb,lh,hcm,hrh,h3⟩;have c0:=(h3.cell (p:=⟨w1.heap.size,0,none⟩) (by show w1.heap.size<_;omega)).trans q0;have c1:=(h3.cell (p:=⟨w1.heap.size,1,none⟩) (by show w1.heap.size<_;omega)).trans q1;have c2:=(h3.cell (p:=⟨w1.heap.size,2,none⟩) (by show w1.heap.size<_;omega)).trans q2;have hs3:w1.heap.size<w3.heap.size:=by have:=h3.size;omega
  have CM:=aj hcm;have RH:=aj hrh;have hb3:Below w.heap.size w w3:=hb2.trans ⟨h3.os,h3.tape,h3.output,h3.size,λj hj=>h3.block j (by have:=h1.size;omega)⟩;have lM:=hcm.lt;have lR:=hrh.1;clear hcm hrh;by_cases hw:wt=m.data.toList
  ·have HW:=aj hw;rw[an6 hw];clear hw
   go_wp2_with fail
   have hb4:Below w3.heap.size w3 (w3.alloc (.cells #[.map (some b),.slice (some ⟨H,0,none⟩) cs.length cs.length] 105)):=(af0 _ _).alloc (ab3 _) _;have hrow:∀j,j<w1.heap.size->(w3.alloc (.cells #[.map (some b),.slice (some ⟨H,0,none⟩) cs.length cs.length] 105)).heap[j]?=w1.heap[j]?:=λj hj=>(hb4.block j (by omega)).trans ((h3.block j (by omega)).trans (hbn.block j hj));refine(ah HM he GT GC GP b H _ ((ah M1).same (hrow _ (ah M1).1)) ((ah M2).same (hrow _ (ah M2).1)) ((ah M3).same (hrow _ (ah M3).1)) ((ah CM).kept (hb4.block _ lM)) ((ah RH).same (hb4.block _ lR))).mono ?_;rintro e w5 ⟨rfl,h5⟩;have hb5:Below w.heap.size w w5:=(hb3.trans ⟨hb4.os,hb4.tape,hb4.output,hb4.size,λj hj=>hb4.block j (by have:=h1.size;omega)⟩).trans ⟨h5.os,h5.tape,h5.output,h5.size,λj hj=>h5.block j (by have:=h1.size;simp;omega)⟩;have hr:=ah HRS;rw[ad3 ⟨he,ah HW⟩]at hr;have HR2:=aj hr;clear hr
   go_wp2_with fail
   go_ret2
   exact⟨by rw[<-ah HR2];rfl,hb5⟩
  ·have HW:=aj hw;rw[am1 hw];clear hw
   go_wp2_with fail
   go_ret2
   have hr:=ah HRS;rw[ac2 (λh=>ah HW h.2)]at hr;exact⟨by rw[<-hr];rfl,hb3.alloc hb3.size _⟩
 ·refine(ah HS1 GT GC GP w2 he).mono ?_;rintro e w3 ⟨rfl,h3⟩;have hb3:Below w.heap.size w w3:=hb2.trans ⟨h3.os,h3.tape,h3.output,h3.size,λj hj=>h3.block j (by have:=h1.size;omega)⟩;have HE:=aj he;clear he
  go_wp2_with fail
  go_ret2
  have hr:=ah HRS;rw[ac2 (λh=>ah HE h.1)]at hr;exact⟨by rw[<-hr];rfl,hb3.alloc hb3.size _⟩
end
section
open aB (Key Inv jA texts rend dV dM dR)
def WR(m:ByteArray)(n:Nat):List Int:=(m.data.toList.take n).map λc=>(c.toNat:Int)-48
theorem Qh(m:ByteArray)(n c:Nat)(hs:m.size=n+1+c):∀i j,i<n->j<n->(fi (m.data.toList.take n) i=fi (m.data.toList.take n) j↔(WR m n).getD i 0=(WR m n).getD j 0):=by
 intro i j hi hj;have hl:(m.data.toList.take n).length=n:=by
  have:m.data.toList.length=m.size:=by simp
  rw[ah3];omega
 have hi':i<(m.data.toList.take n).length:=by omega
 have hj':j<(m.data.toList.take n).length:=by omega
 rw[AQ hi' hj'];unfold WR;rw[ad4,ad4,aj0,aj0,ab4 hi',ab4 hj'];simp only[an3,Option.getD_some];constructor
 ·intro e;rw[e]
 ·intro e;exact UK (by omega)
end
open Go.RowKit
open aB (St put Key)
theorem Fh{s:ByteArray}(h:¬(s.size<=100/\(chk s).1=0)):(chk s).1≠0:=by
 intro h0;refine h ⟨?_,h0⟩;unfold chk at h0;by_cases h1:100<s.size
 ·rw[ad3 h1]at h0;simp at h0
 ·omega
end Go.Proofs.YthcppbmkacbbiaaGreat
