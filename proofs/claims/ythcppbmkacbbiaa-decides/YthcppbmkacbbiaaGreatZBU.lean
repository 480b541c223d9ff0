import Derived.Test.YthcppbmkacbbiaaGreatZBO
import Derived.Test.YthcppbmkacbbiaaGreatZBT
import Derived.Lib.AppendZerosOnto
set_option linter.unusedSimpArgs false
set_option maxHeartbeats 2000000
set_option maxRecDepth 100000
namespace Go.Proofs.YthcppbmkacbbiaaGreat
open Go.Proofs.Tryz
section
open Go.RowKit Go.Maps Go.WideMaps
open au (Key put)
attribute [local go_sem] Oper.semAt_some
theorem P5(n:Nat)(w:World)(hn:n<=1000) :
  Calls prog 188 #[.slice none 0 0,.int .i64 n] w λe w'=>∃v,e=.returned v/\w'.ownsRow w.heap.size 224 5 v 0 []/\w.grownBy w' none:=by
 obtain⟨i0,hin,hz0,hz1,hz2⟩:=am6 Eu;have hneg:¬((n:Int)<0):=by omega
 rcases am0 n with h0|h0
 ·subst h0
  go_enter func188,ntmps188
  go_wp2_with fail
  go_ret
  exact⟨_,rfl,an8 _ _ _ _,aj7 _ _⟩
 ·have hpos:(n:Int)>0:=by omega
  have hrz:∀ty,(Builtin.append_ #[165,3] ty #[.slice none 0 0,.int .i64 n]).run prog w =
    .ok (.slice (some ⟨w.heap.size,0,none⟩) n (grownCap w n 0 224)) (w.drew.alloc (.cells (#[]++Builtin.zeroCells (Value.agg #[.int .i64 0,.bool false,.int .u8 0,.int .i64 0,.int .i64 0]).cells n++Builtin.zeroCells (Value.agg #[.int .i64 0,.bool false,.int .u8 0,.int .i64 0,.int .i64 0]).cells (grownCap w n 0 224-n)) 224)):=λty=>by
   have h:=Lib.run_append_grow_zeros w 165 3 ty 224 i0 _ .i64 .i64 underlying165 underlying3 hin hz0 none 0 0 [] (run_firstCells_none w.drew i0.size 0 0 0) n h0 (by rw[hz1];decide) (by omega) (by omega) (by rw[hz2];omega) (by rw[ap0];exact growslice_fits (by omega) (by rw[hz2];omega));rw[ap0]at h;exact h
  have hGn:n<=grownCap w n 0 224:=grownCap_ge w _ _ _;have hGm:=grownCap_le_maxLen w n 0 224 (by unfold maxLen;omega);obtain⟨G,hG⟩:∃G,G=grownCap w n 0 224:=⟨_,rfl⟩;rw[<-hG]at hrz hGn hGm;have hG63:G<=9223372036854775807:=by unfold maxLen at hGm;omega
  clear hG
  go_enter func188,ntmps188
  go_wp2_with (at_builtin;refine Lib.wpList_append_run _ rfl _ _ _ _ rfl _ _ rfl rfl _ _ (hrz _) ?_)
  go_ret
  refine⟨_,rfl,⟨rfl,Or.inr ⟨w.heap.size,G,Builtin.zeroCells #[.int .i64 0,.bool false,.int .u8 0,.int .i64 0,.int .i64 0] n++Builtin.zeroCells #[.int .i64 0,.bool false,.int .u8 0,.int .i64 0,.int .i64 0] (G-n),rfl,af0 _,?_,ah9 _,hGm,?_,by simp⟩⟩,?_⟩
  ·exact ag4 w.drew _
  ·rw[Array.size_append,size_zeroCells,size_zeroCells];simp;omega
  ·exact(⟨rfl,rfl,rfl,af0 _,λ_ _ _=>rfl⟩:w.grownBy w.drew none).trans (ae9 _ _ none)
theorem mZ{W:World}{base e size n:Nat}{v:Value}{xs:List Value}(h:W.ownsRow base e size v n xs):∃p cap,v=.slice p n cap:=by
 rcases h.2 with⟨rfl,h0⟩|⟨g,cap,cur,rfl,_⟩
 ·subst h0;exact⟨_,_,rfl⟩
 ·exact⟨_,_,rfl⟩
theorem Le(w:World)(B m1 c1 m2 c2:Nat)(ad1 ad2:Addr)(n1 n2:List Value)(hB:w.heap[B]?=some (.cells #[.slice (some ad1) m1 c1,.slice (some ad2) m2 c2] 165 (0,0)))(h1:m1<=100)(h2:m2<=100)
 (hl1:n1.length=m1*5)(hl2:n2.length=m2*5)(hc1:∀j u,n1[j]?=some u->w.cell? (ad1.add j)=some u)(hc2:∀j u,n2[j]?=some u->w.cell? (ad2.add j)=some u)(ho1:∀u∈n1,u.oneCell'=true)(ho2:∀u∈n2,u.oneCell'=true) :
  Calls prog 147 #[.slice (some ⟨B,0,none⟩) 2 2] w λe w'=>∃v,e=.returned v/\w'.ownsRow w.heap.size 224 5 v (m1+m2) (n1++n2)/\Below w.heap.size w w':=by
 obtain⟨i0,hin,hz0,hz1,hz2⟩:=am6 Eu;have b0:w.cell? ⟨B,0,none⟩=some (.slice (some ad1) m1 c1):=by rw[cell_of hB];rfl
 have b1:w.cell? ⟨B,1,none⟩=some (.slice (some ad2) m2 c2):=by rw[cell_of hB];rfl
 have hBl:=(ae8.1 hB).1;have hn1:¬((m1:Int)<0):=by omega
 have hn2:¬((m1:Int)+(m2:Int)<0):=by omega
 have hgr:=P5 (m1+m2) w (by omega);rw[Int.natCast_add]at hgr;have HC1:Hid (∀W,Below w.heap.size w W->∀j u,n1[j]?=some u->W.cell? (ad1.add j)=some u):=λW hW j u hj=>by
  have:=hc1 j u hj;exact(hW.cell (p:=ad1.add j) (af5 w _ this)).trans this
 have HC2:Hid (∀W,Below w.heap.size w W->∀j u,n2[j]?=some u->W.cell? (ad2.add j)=some u):=λW hW j u hj=>by
  have:=hc2 j u hj;exact(hW.cell (p:=ad2.add j) (af5 w _ this)).trans this
 have HL1:=aj hl1;have HL2:=aj hl2;clear hc1 hc2 hl1 hl2 hB
 go_enter func147,ntmps147
 go_wp2_with fail
 refine wp_loop_rounds 3 ?_;rw[aq7]
 go_wp2_with fail
 rw[aq7]
 go_wp2_with fail
 rw[aq7]
 go_wp2_with fail
 refine hgr.mono ?_;rintro e w1 ⟨v0,rfl,hrow0,hg1⟩;obtain⟨p0,cap0,rfl⟩:=mZ hrow0;have hb1:Below w.heap.size w w1:=(ai7 _ w).grown hg1 (af0 _) (λk e=>by cases e);have q0:w1.cell? ⟨B,0,none⟩=some (.slice (some ad1) m1 c1):=hg1.cell b0 (by simp);have q1:w1.cell? ⟨B,1,none⟩=some (.slice (some ad2) m2 c2):=hg1.cell b1 (by simp);have HB1:=aj hb1;have hs1:=hb1.size;clear hgr hb1 hg1
 go_wp2_with fail
 refine wp_loop_rounds 3 ?_;rw[aq7]
 go_wp2_with (at_builtin;refine am5 _ rfl _ _ 165 rfl w.heap.size 224 i0 _ 5 40 underlying165 hin hz0 hz1 hz2 rfl (by decide) (.slice p0 0 cap0) 0 [] rfl hrow0 ad1 m1 c1 n1 rfl (ah HL1) (ah HC1 _ (ah HB1)) ho1 (by unfold maxLen;omega) (by omega) hs1 ?_;intro v1 w2 hown1 hg2 hnil2 adh;obtain⟨p1,cap1,hv1⟩:=mZ hown1;subst hv1)
 have hb2:Below w.heap.size w w2:=(ah HB1).grown hg2 (ah HB1).size (λk e=>(hrow0.lt k e).1);have r1:w2.cell? ⟨B,1,none⟩=some (.slice (some ad2) m2 c2):=(hb2.cell (p:=⟨B,1,none⟩) hBl).trans b1;have HB2:=aj hb2;have hs2:=hb2.size;rw[ap0,ag9]at hown1;clear hb2 hg2 hnil2 adh;rw[aq7]
 go_wp2_with (at_builtin;refine am5 _ rfl _ _ 165 rfl w.heap.size 224 i0 _ 5 40 underlying165 hin hz0 hz1 hz2 rfl (by decide) (.slice p1 m1 cap1) m1 n1 rfl hown1 ad2 m2 c2 n2 rfl (ah HL2) (ah HC2 _ (ah HB2)) ho2 (by unfold maxLen;omega) (by omega) hs2 ?_;intro v2 w3 hown2 hg3 hnil3 Xk;obtain⟨p2,cap2,hv2⟩:=mZ hown2;subst hv2)
 have hb3:Below w.heap.size w w3:=(ah HB2).grown hg3 (ah HB2).size (λk e=>(hown1.lt k e).1);have HB3:=aj hb3;have HO2:=aj hown2;clear hb3 hg3 hnil3 Xk hown2;rw[aq7]
 go_wp2_with fail
 go_ret
 exact⟨_,rfl,ah HO2,ah HB3⟩
end
section
open au (Key put qY iG jn aA bI dX gy)
open Nx
def yj(f g:Nat->Nat)(n:Nat):Prop:=∀i j,i<n->j<n->(f i=f j↔g i=g j)
theorem yj.symm{f g:Nat->Nat}{n:Nat}(h:yj f g n):yj g f n:=λi j hi hj=>(h i j hi hj).symm
theorem OJ{f g:Nat->Nat}{n:Nat}(h:yj f g n):∀k,k<=n->(nums f k).length=(nums g k).length/\∀j,j<n->(nums f k).idxOf (f j)=(nums g k).idxOf (g j):=by
 intro k
 induction k with
 |zero=>intro _;exact⟨rfl,λj _=>rfl⟩
 |succ k ih=>
  intro hk;obtain⟨h1,h2⟩:=ih (by omega);have hmem:f k∈nums f k↔g k∈nums g k:=by
   rw[fZ,fZ];constructor
   ·rintro⟨j,hj,e⟩;exact⟨j,hj,(h j k (by omega) (by omega)).1 e⟩
   ·rintro⟨j,hj,e⟩;exact⟨j,hj,(h j k (by omega) (by omega)).2 e⟩
  unfold nums put;by_cases hm:f k∈nums f k
  ·have hm':=hmem.1 hm;rw[af9 (by simpa using hm),af9 (by simpa using hm')];exact⟨h1,h2⟩
  ·have hm':g k∉nums g k:=λe=>hm (hmem.2 e);rw[af6 (by simpa using hm),af6 (by simpa using hm')];refine⟨by simp[h1],λj hj=>?_⟩;rw[an1,an1];have hmj:f j∈nums f k↔g j∈nums g k:=by
    rw[fZ,fZ];constructor
    ·rintro⟨i,hi,e⟩;exact⟨i,hi,(h i j (by omega) hj).1 e⟩
    ·rintro⟨i,hi,e⟩;exact⟨i,hi,(h i j (by omega) hj).2 e⟩
   by_cases hj2:f j∈nums f k
   ·rw[af9 hj2,af9 (hmj.1 hj2),h2 j hj]
   ·rw[af6 hj2,af6 (λe=>hj2 (hmj.2 e)),h1];by_cases e:f k=f j
    ·have e':=(h k j (by omega) hj).1 e;simp[e,e']
    ·have e':¬g k=g j:=λe2=>e ((h k j (by omega) hj).2 e2);have e3:(f k==f j)=false:=(by simpa using e);have e4:(g k==g j)=false:=(by simpa using e');simp[List.idxOf_cons,e3,e4]
theorem UY{f g:Nat->Nat}{n:Nat}(h:yj f g n):oW f n=oW g n:=by
 unfold oW;refine au3 λt ht=>?_;have ht:=aj9.1 ht;rw[(OJ h t (by omega)).2 t ht]
theorem ZH(f:Nat->Nat){n:Nat}(hn:n<=7):yj (fi (oW f n)) f n:=by
 intro i j hi hj;have li:i<(oW f n).length:=by rw[vU];exact hi
 have lj:j<(oW f n).length:=by rw[vU];exact hj
 rw[xX li lj];have ei:(oW f n)[i]=UInt8.ofNat (48+(nums f i).idxOf (f i)):=by
  have:=EU f n i hi;rw[af2 li]at this;simpa using this
 have ej:(oW f n)[j]=UInt8.ofNat (48+(nums f j).idxOf (f j)):=by
  have:=EU f n j hj;rw[af2 lj]at this;simpa using this
 rw[ei,ej,<-nH f i n hi,<-nH f j n hj];have mi:f i∈nums f n:=(fZ f n _).2 ⟨i,hi,rfl⟩;have mj:f j∈nums f n:=(fZ f n _).2 ⟨j,hj,rfl⟩;have l1:=am1.2 mi;have l2:=am1.2 mj;have l3:=nums_length f n;constructor
 ·intro e;have e2:=ap7 UInt8.toNat e;simp only[UInt8.toNat_ofNat']at e2;have e3:(nums f n).idxOf (f i)=(nums f n).idxOf (f j):=by omega
  have g1:=aj6 l1;have g2:=aj6 l2;rw[<-g1,<-g2];simp only[e3]
 ·intro e;rw[e]
theorem Gx{cl cl':List Int}{hl:List Bool}{nt nc:Nat}(hc:∀i j,i<nt->j<nt->(cl.getD i 0=cl.getD j 0↔cl'.getD i 0=cl'.getD j 0)):∀ps:List Key,(∀i (h:i<ps.length),dX nt nc i ps[i])->iG cl hl ps=iG cl' hl ps:=by
 suffices H:∀n (ps:List Key),ps.length=n->(∀i (h:i<ps.length),dX nt nc i ps[i])->iG cl hl ps=iG cl' hl ps from λps=>H _ ps rfl
 intro n
 induction n with
 |zero=>
  intro ps hn _;have:ps=[]:=ai6 hn;subst this;rfl
 |succ n ih=>
  intro ps hn hok;obtain⟨qs,q,rfl⟩:∃qs q,ps=qs++[q]:=⟨ps.dropLast,ps.getLast (by intro e;rw[e]at hn;simp at hn),(List.dropLast_concat_getLast _).symm⟩;have hl1:qs.length=n:=by simpa using hn
  have ih1:=ih qs hl1 (λi h=>by have:=hok i (by simp;omega);rwa [al5 h]at this);have hq:=hok qs.length (by simp);simp at hq;rw[au.lI,au.lI,ih1]
  congr 2
  unfold qY;rcases hq with⟨a,b,_⟩|⟨a,b,c⟩|⟨a,_,_⟩|⟨a,b,c⟩
  ·have h1:q.1≠61:=(by omega);rw[af6 h1,af6 h1]
  ·have h1:q.1≠61:=(by intro e;rw[e]at a;simp[aA]at a);rw[af6 h1,af6 h1]
  ·have h1:q.1≠61:=(by omega);rw[af6 h1,af6 h1]
  ·rw[af9 a,af9 a,decide_eq_decide];exact hc _ _ b c
theorem FH.same{f g:Nat->Nat}{ts:List Key}{cs:List (Int×Nat)}{ps:List Key}{hl:List Bool}(hi:bI ts.length cs.length ps)(ht:∀i (hi:i<ts.length),ts[i].2.1<ts.length/\ts[i].2.2<ts.length)(hc:∀x∈cs,(x.1=80\/x.1=81)/\x.2<ts.length)(h:FH f ts cs ps hl)(hs:yj f g ts.length):FH g ts cs ps hl:=by
 refine⟨?_,?_,?_⟩
 ·rw[lq];intro i j hi' hj' e1 e2 e3;obtain⟨a1,a2⟩:=ht i hi';obtain⟨b1,b2⟩:=ht j hj';exact(hs i j hi' hj').1 ((lq f ts).1 h.Iy i j hi' hj' e1 ((hs _ _ a1 b1).2 e2) ((hs _ _ a2 b2).2 e3))
 ·rw[rW];intro i j hi' hj' e1 e2;exact(rW f cs hl).1 h.agr i j hi' hj' e1 ((hs _ _ (hc _ (af4 hi')).2 (hc _ (af4 hj')).2).2 e2)
 ·rw[Gx (cl':=Vj f ts.length) (λi j hi' hj'=>?_) ps hi.ok]
  ·exact h.Eb
  ·rw[kM g hi',kM g hj',kM f hi',kM f hj'];have:=hs i j hi' hj';omega
theorem row_mem(f:Nat->Nat):∀n k,((List.range' k n).map λt=>(nums f t).idxOf (f t))∈rws (nums f k).length n
 |0,k=>by simp[rws]
 |n+1,k=>by
  have ih:=row_mem f n (k+1);have e0:List.range' k (n+1)=k::List.range' (k+1) n:=List.range'_succ;unfold rws;rw[e0,aq6];refine an4.2 ⟨(nums f k).idxOf (f k),?_,ah3.2 ⟨_,?_,rfl⟩⟩
  ·have:=ap2 (l:=nums f k) (a:=f k);simp;omega
  ·have e:max (nums f k).length ((nums f k).idxOf (f k)+1)=(nums f (k+1)).length:=by
    show _=(put (nums f k) (f k)).length
    unfold put;by_cases hm:f k∈nums f k
    ·rw[af9 (by simpa using hm)];have:=am1.2 hm;omega
    ·rw[af6 (by simpa using hm),ak0 hm];simp
   rw[e];exact ih
theorem MS:∀(n:Nat) (l:List Bool),l.length=n->l∈mO n
 |0,l,h=>by
  have:l=[]:=ai6 h;subst this;simp[mO]
 |n+1,l,h=>by
  cases l with
  |nil=>simp at h
  |cons b l=>
   have ih:=MS n l (by simpa using h);unfold mO;cases b
   ·exact ak9 _ (ah3.2 ⟨l,ih,rfl⟩)
   ·exact at6 _ (ah3.2 ⟨l,ih,rfl⟩)
theorem Ob{α:Type}{L:List α}{g:α->Nat}{x:α}(hx:x∈L)(h:g x≠0):sumTo L g L.length≠0:=by
 unfold sumTo;rw[ak8];intro e;exact h (List.sum_eq_zero_iff_forall_eq_nat.1 e _ (ah3.2 ⟨x,hx,rfl⟩))
theorem Jf{α:Type}{L:List α}{g:α->Nat}(h:sumTo L g L.length≠0):∃x∈L,g x≠0:=by
 refine ai0 λhn=>h ?_;unfold sumTo;rw[ak8];refine List.sum_eq_zero_iff_forall_eq_nat.2 λy hy=>?_;obtain⟨x,hx,rfl⟩:=ah3.1 hy;exact ai0 λe=>hn ⟨x,hx,e⟩
end
section
open au (Key put qY iG jn aA bI dX gy Inv iZ texts)
open Nx
def rowOf(f:Nat->Nat)(n:Nat):List Nat:=(List.range' 0 n).map λt=>(nums f t).idxOf (f t)
theorem ng(f:Nat->Nat)(n:Nat):(rowOf f n).length=n:=by simp[rowOf]
theorem Gt(f:Nat->Nat){n i:Nat}(h:i<n):(rowOf f n)[i]'(by rw[ng];exact h)=(nums f i).idxOf (f i):=by simp[rowOf]
theorem ZG(f:Nat->Nat)(n:Nat):yj (fi (rowOf f n)) f n:=by
 intro i j hi hj;rw[xX (by rw[ng];exact hi) (by rw[ng];exact hj),Gt f hi,Gt f hj,<-nH f i n hi,<-nH f j n hj];have mi:f i∈nums f n:=(fZ f n _).2 ⟨i,hi,rfl⟩;have mj:f j∈nums f n:=(fZ f n _).2 ⟨j,hj,rfl⟩;have l1:=am1.2 mi;have l2:=am1.2 mj;constructor
 ·intro e3;have g1:=aj6 l1;have g2:=aj6 l2;rw[<-g1,<-g2];simp only[e3]
 ·intro e;rw[e]
theorem Ea{f:Nat->Nat}{cl:List Int}{hl:List Bool}{nt nc:Nat}{ps:List Key}(hi:bI nt nc ps)(hc:∀i j,i<nt->j<nt->(f i=f j↔cl.getD i 0=cl.getD j 0)):iG cl hl ps=iG (Vj f nt) hl ps:=by
 refine Gx (nt:=nt) (nc:=nc) (λi j h1 h2=>?_) ps hi.ok;rw[kM f h1,kM f h2,<-hc i j h1 h2];omega
section
variable {s:ByteArray} {ts:List Key} {cs:List (Int×Nat)} {ps:List Key}
theorem Ll(h4:cs.length<=4)(su:bI ts.length cs.length ps)(ht:∀i (hi:i<ts.length),ts[i].2.1<ts.length/\ts[i].2.2<ts.length)(hc:∀x∈cs,(x.1=80\/x.1=81)/\x.2<ts.length) :
  Vt ts cs ps≠0↔∃f hl,hl.length=cs.length/\FH f ts cs ps hl:=by
 constructor
 ·intro h;obtain⟨row,hr,h1⟩:=Jf h;have hrl:=uH _ _ row hr;unfold Vs at h1;by_cases hcg:∀p∈dJ (mkd (fi row) ts) ts.length,fi row p.1=fi row p.2
  ·rw[af9 hcg]at h1;obtain⟨k,hk,h2⟩:=List.countP_pos_iff.1 (Nat.pos_of_ne_zero h1);unfold XK at h2;simp only[ao4,ak4]at h2;refine⟨fi row,tv cs.length k,N7 _ _,hcg,h2.1,?_⟩;rw[<-Ea su (λi j h1 h2=>Fh row i j (by omega) (by omega))];exact h2.2
  ·rw[af6 hcg]at h1;exact absurd rfl h1
 ·rintro⟨f,hl,hlen,hm⟩;have hm2:=hm.same su ht hc (ZG f ts.length).symm;have hmem:rowOf f ts.length∈rws 0 ts.length:=row_mem f ts.length 0;refine Ob hmem ?_;unfold Vs;have hcg:∀p∈dJ (mkd (fi (rowOf f ts.length)) ts) ts.length,fi (rowOf f ts.length) p.1=fi (rowOf f ts.length) p.2:=hm2.Iy;rw[af9 hcg];have hb:=MS cs.length hl hlen;have hb2:=(MB h4).mem_iff.1 hb;obtain⟨k,hk,e⟩:=ah3.1 hb2;refine Nat.pos_iff_ne_zero.1 (List.countP_pos_iff.2 ⟨k,hk,?_⟩);unfold XK;simp only[ao4,ak4];rw[e];refine⟨hm2.agr,?_⟩;rw[Ea su (λi j h1 h2=>Fh _ i j (by rw[ng];omega) (by rw[ng];omega))];exact hm2.Eb
theorem NQ(hR:au.jq (pk s) (s.size+1) 0 0 [] [] []=.ok (s.size,ts,cs,ps,ps.length-1))(h7:ts.length<=7)(hi:Inv ts)(hic:iZ ts cs)(su:bI ts.length cs.length ps)(ht:∀i (hi:i<ts.length),ts[i].2.1<ts.length/\ts[i].2.2<ts.length)(hc:∀x∈cs,(x.1=80\/x.1=81)/\x.2<ts.length)
 {f:Nat->Nat}{hl:List Bool}(hlen:hl.length=cs.length)(hm:FH f ts cs ps hl):Ef s ⟨(wrt f ts.length hl).toArray⟩ (texts ts) (ctx ts cs)=(true,0):=by
 rw[Ua s _ ts cs ps hR h7 hi hic];have hdl:(oW f ts.length).length=ts.length:=vU _ _;have hsz:(⟨(wrt f ts.length hl).toArray⟩:ByteArray).size=ts.length+1+cs.length:=by
  show(wrt f ts.length hl).toArray.size=_
  simp[wrt,bits,hdl,hlen]
  try omega
 have htk:(wrt f ts.length hl).take ts.length=oW f ts.length:=by
  unfold wrt;rw[ak6,List.take_append_of_le_length (by omega),ai2 (by omega)]
 have hhl:hlo ⟨(wrt f ts.length hl).toArray⟩ ts.length cs.length=hl:=by
  rw[Hz _ _ _ hsz]
  show((wrt f ts.length hl).drop (ts.length+1)).map _=_
  unfold wrt;rw[List.drop_append,as8 (by simp[hdl])];simp only[ah1,hdl,al6,Nat.sub_self,List.drop_zero,ag9];unfold bits;rw[List.map_map]
  conv=>rhs;rw[<-List.map_id hl]
  refine au3 λb _=>?_;cases b<;>rfl
 have hkk:=ZH f h7;have hm2:=hm.same su ht hc hkk.symm;unfold hld
 show(if _/\wrt (fi ((wrt f ts.length hl).take ts.length)) ts.length _=wrt f ts.length hl then(isM (fi ((wrt f ts.length hl).take ts.length)) _ _ _ _ _,(0:Int))else _)=_
 rw[htk,hhl];have hw:wrt (fi (oW f ts.length)) ts.length hl=wrt f ts.length hl:=by
  unfold wrt;rw[UY hkk]
 rw[af9 ⟨hsz,hw⟩];have hM:isM (fi (oW f ts.length)) ts cs ps (ZJ ⟨(wrt f ts.length hl).toArray⟩ ts.length) hl=true:=by
  unfold isM;simp only[ao4,ak4];refine⟨⟨hm2.Iy,hm2.agr⟩,?_⟩;have hcl:∀i j,i<ts.length->j<ts.length->(fi ((wrt f ts.length hl).take ts.length) i=fi ((wrt f ts.length hl).take ts.length) j↔_):=UW ⟨(wrt f ts.length hl).toArray⟩ ts.length cs.length hsz;rw[htk]at hcl;rw[Ea su hcl];exact hm2.Eb
 rw[hM]
end
end
open Go.RowKit
def EZ(c:Int×Int)(h:Bool×Int)(way:Int)(bad sat:Bool)(model:ByteArray)(errno:Int):Bool:=
 let e1:=if c.2=0/\(way<0\/1<way)then 5 else c.2
 let e2:=if e1=0/\bad=true then 7 else e1
 if e2≠0\/errno≠0 then decide (errno=e2)&&!sat&&decide (model.size=0)
 else if c.1=0 then !sat&&decide (model.size=0)
 else sat&&h.1&&decide (h.2=0)
theorem empty_of{m:ByteArray}(h:m.size=0):m=⟨#[]⟩:=by
 apply ByteArray.ext;have:m.data.size=0:=h;exact Array.eq_empty_of_size_eq_zero this
theorem yZ{n E way errno e2:Int}{h:Bool×Int}{bad sat:Bool}{m:ByteArray}(hd:EZ (n,E) h way bad sat m errno=true)(h0:e2≠0)(he:(if (if E=0/\(way<0\/1<way)then(5:Int)else E)=0/\bad=true then 7 else(if E=0/\(way<0\/1<way)then 5 else E))=e2):errno=e2/\sat=false/\m=⟨#[]⟩:=by
 unfold EZ at hd;simp only at hd;rw[he,af9 (Or.inl h0)]at hd;simp only[ao4,ak4,Bool.not_eq_true']at hd;exact⟨hd.1.1,hd.1.2,empty_of hd.2⟩
theorem U5{n E way errno:Int}{h:Bool×Int}{bad sat:Bool}{m:ByteArray}(hd:EZ (n,E) h way bad sat m errno=true)(he:(if (if E=0/\(way<0\/1<way)then(5:Int)else E)=0/\bad=true then 7 else(if E=0/\(way<0\/1<way)then 5 else E))=0) :
  errno=0/\(if n=0 then !sat&&decide (m.size=0)else sat&&h.1&&decide (h.2=0))=true:=by
 unfold EZ at hd;simp only at hd;rw[he]at hd;by_cases q:errno=0
 ·rw[af6 (show ¬((0:Int)≠0\/errno≠0) by rintro(h|h);exact h rfl;exact h q)]at hd;exact⟨q,hd⟩
 ·rw[af9 (show((0:Int)≠0\/errno≠0)from Or.inr q)]at hd;simp[q]at hd
theorem Nv{way:Int}(hw:¬(way<0\/1<way)):(if (if (0:Int)=0/\(way<0\/1<way)then(5:Int)else 0)=0/\false=true then(7:Int)else(if (0:Int)=0/\(way<0\/1<way)then 5 else 0))=0:=by
 have e:(if (0:Int)=0/\(way<0\/1<way)then(5:Int)else 0)=0:=af6 (λh=>hw h.2);rw[e];rfl
theorem adT{E way:Int}{bad:Bool}(h0:E≠0):(if (if E=0/\(way<0\/1<way)then(5:Int)else E)=0/\bad=true then(7:Int)else(if E=0/\(way<0\/1<way)then 5 else E))=E:=by
 have e:(if E=0/\(way<0\/1<way)then(5:Int)else E)=E:=af6 (λh=>h0 h.1);rw[e];exact af6 (λh=>h0 h.1)
theorem Nw{way:Int}{bad:Bool}(hw:way<0\/1<way):(if (if (0:Int)=0/\(way<0\/1<way)then(5:Int)else 0)=0/\bad=true then(7:Int)else(if (0:Int)=0/\(way<0\/1<way)then 5 else 0))=5:=by
 have e:(if (0:Int)=0/\(way<0\/1<way)then(5:Int)else 0)=5:=af9 ⟨rfl,hw⟩;rw[e];exact af6 (λh=>absurd h.1 (by decide))
theorem UR{way:Int}{bad:Bool}(hw:¬(way<0\/1<way))(hb:bad=true):(if (if (0:Int)=0/\(way<0\/1<way)then(5:Int)else 0)=0/\bad=true then(7:Int)else(if (0:Int)=0/\(way<0\/1<way)then 5 else 0))=7:=by
 have e:(if (0:Int)=0/\(way<0\/1<way)then(5:Int)else 0)=0:=af6 (λh=>hw h.2);rw[e];exact af9 ⟨rfl,hb⟩
theorem U6{n way errno:Int}{h:Bool×Int}{sat:Bool}{m:ByteArray}(hd:EZ (n,0) h way false sat m errno=true)(hn:n=0)(hw:¬(way<0\/1<way)):errno=0/\sat=false/\m=⟨#[]⟩:=by
 obtain⟨q,hd⟩:=U5 hd (Nv hw);rw[af9 hn]at hd;simp only[ao4,ak4,Bool.not_eq_true']at hd;exact⟨q,hd.1,empty_of hd.2⟩
theorem U4{n way errno:Int}{hb:Bool}{hE:Int}{sat:Bool}{m:ByteArray}(hd:EZ (n,0) (hb,hE) way false sat m errno=true)(hn:n≠0)(hw:¬(way<0\/1<way)):errno=0/\sat=true/\hb=true/\hE=0:=by
 obtain⟨q,hd⟩:=U5 hd (Nv hw);rw[af6 hn]at hd;simp only[ao4,ak4]at hd;exact⟨q,hd.1.1,hd.1.2,hd.2⟩
theorem FD(w:World)(s t m:ByteArray)(way errno:Int)(sat:Bool)(hm:s.size<=maxLen)(ht:t.size<=maxLen)(hmm:m.size<=maxLen)(hd:EZ (sQ s) (uV s m) way (dR t) sat m errno=true) :
  Calls prog 41 #[.string s,.int .i64 way,.string t,.bool sat,.string m,.int .i64 errno] w λe w'=>e=.returned (.bool true)/\Below w.heap.size w w':=by
 have H1:=aj (λw=>LW w s hm);have H2:=aj (λw=>LU w s m hm hmm);generalize sQ s=c at H1 hd;generalize uV s m=hq at H2 hd;obtain⟨n,E⟩:=c;obtain⟨hb,hE⟩:=hq;simp only at H1 H2;have HD:=aj hd;clear hd;have ht':t.size<=9223372036854775807:=by unfold maxLen at ht;omega
 go_enter func41,ntmps41
 go_wp2_with fail
 refine(ah H1 _).mono ?_;rintro e w1 ⟨rfl,b1⟩;clear H1;have hcase:E≠0\/(E=0/\(way<0\/1<way))\/(E=0/\¬(way<0\/1<way)):=by
  by_cases q:E=0
  ·by_cases q2:way<0\/1<way
   ·exact Or.inr (Or.inl ⟨q,q2⟩)
   ·exact Or.inr (Or.inr ⟨q,q2⟩)
  ·exact Or.inl q
 rcases hcase with hE0|⟨rfl,JV⟩|⟨rfl,JV⟩
 ·have x1:(E==0)=false:=by simpa using hE0
  have x2:(E != 0)=true:=by simpa using hE0
  go_wp2_with fail
  go_loop [15,16] (λbv iv=>∃k:Nat,k<=t.size/\iv=.int .i64 k/\bv=.bool (decide (60<t.size)||(t.data.toList.take k).any eu)) (λ_ iv=>t.size-(intOf iv).toNat)
  case atStart=>exact⟨0,ah9 _,rfl,by simp;omega⟩
  case round=>
   obtain⟨k,hk,rfl,rfl⟩:=hrel;generalize hbb:(decide (60<t.size)||(t.data.toList.take k).any eu)=bb;by_cases hgo:k<t.size/\bb=false
   ·obtain⟨hlt,rfl⟩:=hgo;have hbk:(k:Int)<(t.size:Int):=(by omega);have hst:(decide (60<t.size)||(t.data.toList.take (k+1)).any eu)=eu t[k]:=by
     rw[qQ hlt,<-Bool.or_assoc,hbb,av3]
    have HST:=aj hst;have hnd:eu t[k]=(decide ((t[k].toNat:Int)<48)||decide ((57:Int)<(t[k].toNat:Int))):=rfl;have HND:=aj hnd;clear hst hnd hbb;generalize eu t[k]=nd at HST HND;by_cases h48:(t[k].toNat:Int)<48
    ·go_wp2_with fail
     refine⟨⟨k+1,hlt,by go_num,?_⟩,by simp[intOf];omega⟩;rw[ah HST,ah HND];simp[h48]
    ·go_wp2_with fail
     refine⟨⟨k+1,hlt,by go_num,?_⟩,by simp[intOf];omega⟩;rw[ah HST,ah HND];simp[h48]
   ·have hnt:dR t=bb:=by
     cases bb with
     |true=>exact any_true hbb
     |false=>
      have hkk:k=t.size:=by
       refine ai0 λh=>hgo ⟨by omega,rfl⟩
      rw[hkk,ai2 (by simp)]at hbb;exact hbb
    have hst2:(decide ((k:Int)<(t.size:Int))&&!bb)=false:=by
     by_cases h1:k<t.size
     ·cases bb
      ·exact absurd ⟨h1,rfl⟩ hgo
      ·simp
     ·simp only[show decide ((k:Int)<(t.size:Int))=false by simp;omega,at1]
    clear hbb hgo;obtain⟨h1,h2,h3⟩:=yZ (e2:=E) (ah HD) hE0 (adT hE0);subst h1;subst h2;subst h3;clear HD hnt;cases bb
    ·by_cases hkt:(k:Int)<(t.size:Int)
     ·simp[hkt]at hst2
     ·clear hst2
      go_wp2_with fail
      go_ret
      exact⟨by simp,b1⟩
    ·clear hst2;by_cases hkt:(k:Int)<(t.size:Int)
     ·go_wp2_with fail
      go_ret
      exact⟨by simp,b1⟩
     ·go_wp2_with fail
      go_ret
      exact⟨by simp,b1⟩
 ·rcases JV with hw|hw
  ·skip
   go_wp2_with fail
   go_loop [15,16] (λbv iv=>∃k:Nat,k<=t.size/\iv=.int .i64 k/\bv=.bool (decide (60<t.size)||(t.data.toList.take k).any eu)) (λ_ iv=>t.size-(intOf iv).toNat)
   case atStart=>exact⟨0,ah9 _,rfl,by simp;omega⟩
   case round=>
    obtain⟨k,hk,rfl,rfl⟩:=hrel;generalize hbb:(decide (60<t.size)||(t.data.toList.take k).any eu)=bb;by_cases hgo:k<t.size/\bb=false
    ·obtain⟨hlt,rfl⟩:=hgo;have hbk:(k:Int)<(t.size:Int):=(by omega);have hst:(decide (60<t.size)||(t.data.toList.take (k+1)).any eu)=eu t[k]:=by
      rw[qQ hlt,<-Bool.or_assoc,hbb,av3]
     have HST:=aj hst;have hnd:eu t[k]=(decide ((t[k].toNat:Int)<48)||decide ((57:Int)<(t[k].toNat:Int))):=rfl;have HND:=aj hnd;clear hst hnd hbb;generalize eu t[k]=nd at HST HND;by_cases h48:(t[k].toNat:Int)<48
     ·go_wp2_with fail
      refine⟨⟨k+1,hlt,by go_num,?_⟩,by simp[intOf];omega⟩;rw[ah HST,ah HND];simp[h48]
     ·go_wp2_with fail
      refine⟨⟨k+1,hlt,by go_num,?_⟩,by simp[intOf];omega⟩;rw[ah HST,ah HND];simp[h48]
    ·have hnt:dR t=bb:=by
      cases bb with
      |true=>exact any_true hbb
      |false=>
       have hkk:k=t.size:=by
        refine ai0 λh=>hgo ⟨by omega,rfl⟩
       rw[hkk,ai2 (by simp)]at hbb;exact hbb
     have hst2:(decide ((k:Int)<(t.size:Int))&&!bb)=false:=by
      by_cases h1:k<t.size
      ·cases bb
       ·exact absurd ⟨h1,rfl⟩ hgo
       ·simp
      ·simp only[show decide ((k:Int)<(t.size:Int))=false by simp;omega,at1]
     clear hbb hgo;obtain⟨h1,h2,h3⟩:=yZ (e2:=5) (ah HD) (by decide) (Nw (Or.inl hw));subst h1;subst h2;subst h3;clear HD hnt;cases bb
     ·by_cases hkt:(k:Int)<(t.size:Int)
      ·simp[hkt]at hst2
      ·clear hst2
       go_wp2_with fail
       go_ret
       exact⟨by simp,b1⟩
     ·clear hst2;by_cases hkt:(k:Int)<(t.size:Int)
      ·go_wp2_with fail
       go_ret
       exact⟨by simp,b1⟩
      ·go_wp2_with fail
       go_ret
       exact⟨by simp,b1⟩
  ·have hw2:¬way<0:=by omega
   go_wp2_with fail
   go_loop [15,16] (λbv iv=>∃k:Nat,k<=t.size/\iv=.int .i64 k/\bv=.bool (decide (60<t.size)||(t.data.toList.take k).any eu)) (λ_ iv=>t.size-(intOf iv).toNat)
   case atStart=>exact⟨0,ah9 _,rfl,by simp;omega⟩
   case round=>
    obtain⟨k,hk,rfl,rfl⟩:=hrel;generalize hbb:(decide (60<t.size)||(t.data.toList.take k).any eu)=bb;by_cases hgo:k<t.size/\bb=false
    ·obtain⟨hlt,rfl⟩:=hgo;have hbk:(k:Int)<(t.size:Int):=(by omega);have hst:(decide (60<t.size)||(t.data.toList.take (k+1)).any eu)=eu t[k]:=by
      rw[qQ hlt,<-Bool.or_assoc,hbb,av3]
     have HST:=aj hst;have hnd:eu t[k]=(decide ((t[k].toNat:Int)<48)||decide ((57:Int)<(t[k].toNat:Int))):=rfl;have HND:=aj hnd;clear hst hnd hbb;generalize eu t[k]=nd at HST HND;by_cases h48:(t[k].toNat:Int)<48
     ·go_wp2_with fail
      refine⟨⟨k+1,hlt,by go_num,?_⟩,by simp[intOf];omega⟩;rw[ah HST,ah HND];simp[h48]
     ·go_wp2_with fail
      refine⟨⟨k+1,hlt,by go_num,?_⟩,by simp[intOf];omega⟩;rw[ah HST,ah HND];simp[h48]
    ·have hnt:dR t=bb:=by
      cases bb with
      |true=>exact any_true hbb
      |false=>
       have hkk:k=t.size:=by
        refine ai0 λh=>hgo ⟨by omega,rfl⟩
       rw[hkk,ai2 (by simp)]at hbb;exact hbb
     have hst2:(decide ((k:Int)<(t.size:Int))&&!bb)=false:=by
      by_cases h1:k<t.size
      ·cases bb
       ·exact absurd ⟨h1,rfl⟩ hgo
       ·simp
      ·simp only[show decide ((k:Int)<(t.size:Int))=false by simp;omega,at1]
     clear hbb hgo;obtain⟨h1,h2,h3⟩:=yZ (e2:=5) (ah HD) (by decide) (Nw (Or.inr hw));subst h1;subst h2;subst h3;clear HD hnt;cases bb
     ·by_cases hkt:(k:Int)<(t.size:Int)
      ·simp[hkt]at hst2
      ·clear hst2
       go_wp2_with fail
       go_ret
       exact⟨by simp,b1⟩
     ·clear hst2;by_cases hkt:(k:Int)<(t.size:Int)
      ·go_wp2_with fail
       go_ret
       exact⟨by simp,b1⟩
      ·go_wp2_with fail
       go_ret
       exact⟨by simp,b1⟩
 ·have hw1:¬way<0:=λh=>JV (Or.inl h);have hw2:¬1<way:=λh=>JV (Or.inr h)
  go_wp2_with fail
  go_loop [15,16] (λbv iv=>∃k:Nat,k<=t.size/\iv=.int .i64 k/\bv=.bool (decide (60<t.size)||(t.data.toList.take k).any eu)) (λ_ iv=>t.size-(intOf iv).toNat)
  case atStart=>exact⟨0,ah9 _,rfl,by simp;omega⟩
  case round=>
   obtain⟨k,hk,rfl,rfl⟩:=hrel;generalize hbb:(decide (60<t.size)||(t.data.toList.take k).any eu)=bb;by_cases hgo:k<t.size/\bb=false
   ·obtain⟨hlt,rfl⟩:=hgo;have hbk:(k:Int)<(t.size:Int):=(by omega);have hst:(decide (60<t.size)||(t.data.toList.take (k+1)).any eu)=eu t[k]:=by
     rw[qQ hlt,<-Bool.or_assoc,hbb,av3]
    have HST:=aj hst;have hnd:eu t[k]=(decide ((t[k].toNat:Int)<48)||decide ((57:Int)<(t[k].toNat:Int))):=rfl;have HND:=aj hnd;clear hst hnd hbb;generalize eu t[k]=nd at HST HND;by_cases h48:(t[k].toNat:Int)<48
    ·go_wp2_with fail
     refine⟨⟨k+1,hlt,by go_num,?_⟩,by simp[intOf];omega⟩;rw[ah HST,ah HND];simp[h48]
    ·go_wp2_with fail
     refine⟨⟨k+1,hlt,by go_num,?_⟩,by simp[intOf];omega⟩;rw[ah HST,ah HND];simp[h48]
   ·have hnt:dR t=bb:=by
     cases bb with
     |true=>exact any_true hbb
     |false=>
      have hkk:k=t.size:=by
       refine ai0 λh=>hgo ⟨by omega,rfl⟩
      rw[hkk,ai2 (by simp)]at hbb;exact hbb
    have hst2:(decide ((k:Int)<(t.size:Int))&&!bb)=false:=by
     by_cases h1:k<t.size
     ·cases bb
      ·exact absurd ⟨h1,rfl⟩ hgo
      ·simp
     ·simp only[show decide ((k:Int)<(t.size:Int))=false by simp;omega,at1]
    clear hbb hgo;cases bb
    ·rw[hnt]at HD;by_cases hn0:n=0
     ·obtain⟨h1,h2,h3⟩:=U6 (ah HD) hn0 JV;subst hn0;subst h1;subst h2;subst h3;clear HD hnt;by_cases hkt:(k:Int)<(t.size:Int)
      ·simp[hkt]at hst2
      ·clear hst2
       go_wp2_with fail
       go_ret
       exact⟨by simp,b1⟩
     ·obtain⟨h1,h2,h3,h4⟩:=U4 (ah HD) hn0 JV;subst h1;subst h2;subst h3;subst h4;have hnb:(n==0)=false:=(by simpa using hn0);clear HD hnt;by_cases hkt:(k:Int)<(t.size:Int)
      ·simp[hkt]at hst2
      ·clear hst2
       go_wp2_with fail
       refine(ah H2 _).mono ?_;rintro e w2 ⟨rfl,b2⟩
       go_wp2_with fail
       go_ret
       exact⟨by simp,b1.trans (b2.mono b1.size)⟩
    ·obtain⟨h1,h2,h3⟩:=yZ (e2:=7) (ah HD) (by decide) (UR JV hnt);subst h1;subst h2;subst h3;clear HD hnt hst2;by_cases hkt:(k:Int)<(t.size:Int)
     ·go_wp2_with fail
      go_ret
      exact⟨by simp,b1⟩
     ·go_wp2_with fail
      go_ret
      exact⟨by simp,b1⟩
end Go.Proofs.YthcppbmkacbbiaaGreat
