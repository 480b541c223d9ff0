import Derived.Test.YthcppbmkacbbiabGreatWBN
import Derived.Test.YthcppbmkacbbiabGreatWBL
import Derived.Lib.AppendZerosOnto
set_option linter.unusedSimpArgs false
set_option maxHeartbeats 2000000
set_option maxRecDepth 100000
namespace Go.Proofs.YthcppbmkacbbiabGreat
open Go.Proofs.Tryz
section
open Sat (View Rule jk bG)
open aB (Key put oJ dY jn au aQ dJ fE isAtom)
def Th1(ts:List Key)(cs:List (Int×Nat))(Us:List Key)(α:Nat->Bool):Prop:=
 ∃g hl,qh g ts/\Vp g cs hl/\∀p∈Us,(p.1=61->(g p.2.1=g p.2.2↔α (Us.idxOf p)=true))/\(p.1=80\/p.1=81->hl.getD p.2.1 false=α (Us.idxOf p))
def H7(s:jH):View:=(s.1,!s.2.1)
theorem wK{ts:List Key}{f f' f'':Nat->Nat}(h':Closed ts f f')(h'':Closed ts f f''){a b:Nat}(ha:a<ts.length)(hb:b<ts.length)(h:f' a=f' b):f'' a=f'' b:=
 h'.least (λa b=>f'' a=f'' b) (Dt f'') ((iG f'' ts).1 h''.DI) (λa b _ _ e=>h''.Yz a b e) a b ha hb h
theorem NU{ts:List Key}{cs:List (Int×Nat)}{said:List aU}{f f' f'':Nat->Nat}(hs:nN ts cs said)(hct:∀x∈cs,(x.1=80\/x.1=81)/\x.2<ts.length)(h':Closed ts f f')(h'':Closed ts f f'')(h:cb f' cs said):cb f'' cs said:=by
 refine⟨λl hl h61 hf e=>?_,λl hl m hm h61 IU hlet e=>?_⟩
 ·rcases hs l hl with⟨_,q1,q2⟩|⟨q,_⟩
  ·exact h.1 l hl h61 hf (wK h'' h' q1 q2 e)
  ·omega
 ·rcases hs l hl with⟨q,_⟩|⟨_,p1,p2⟩
  ·exact absurd q h61
  ·rcases hs m hm with⟨q,_⟩|⟨_,r1,r2⟩
   ·exact absurd q IU
   ·refine h.2 l hl m hm h61 IU hlet ?_;rw[aG p1,aG r1]at e ⊢;exact wK h'' h' (hct _ (ad8 p1)).2 (hct _ (ad8 r1)).2 e
theorem Td{f:Key->Key}{Us ps:List Key}:∀k,k<=ps.length->∀q∈ps.take k,q.1≠33->f q∈mV f Us ps k:=by
 intro k
 induction k with
 |zero=>intro _ q hq;simp at hq
 |succ k ih=>
  intro hk q hq h33;have hk':k<ps.length:=by omega
  rw[lJ hk'];have e:ps.take (k+1)=ps.take k++[ps[k]]:=by rw[ah1,ad6 hk'];rfl
  rw[e]at hq;rcases ag9.1 hq with hq|hq
  ·exact(DC _ _ _).mem (ih (by omega) q hq h33)
  ·rw[ag0.1 hq]at h33 ⊢;unfold DF;rw[af2 h33];exact aT _ _
section
variable {ts:List Key} {cs:List (Int×Nat)} {ps Us:List Key} {aJ ak:List Rule} {τ:List Tr}
theorem nJ(hi:aQ ts.length cs.length ps)(hk:fE cs ps){q:Key}(hq:q∈nU ps)(ha:isAtom q.1=true):(q.1=61/\q.2.1<ts.length/\q.2.2<ts.length)\/((q.1=80\/q.1=81)/\(∃h:q.2.1<cs.length,cs[q.2.1].1=q.1)/\q.2.2=0):=by
 have hq:=(ai3.1 hq).1;obtain⟨i,hlt,e⟩:=ai0 hq;have ho:=hi.ok i hlt;rw[e]at ho;simp only[isAtom,aj7]at ha;rcases ho with⟨a,_⟩|⟨a,_⟩|⟨a,_,b⟩|⟨a,b,c⟩
 ·omega
 ·rcases ha with e|e|e<;>(rw[e]at a;simp[au]at a)
 ·exact Or.inr ⟨a,hk.letter q hq a,b⟩
 ·exact Or.inl ⟨a,b,c⟩
theorem x8(hi:aQ ts.length cs.length ps)(hk:fE cs ps)(hc:∀p∈Us,p∈nU ps)(hn:Us.Nodup){S:List jH}(hS:∀s∈S,s∈fA Us τ):nN ts cs (S.map dD):=by
 intro l hl;obtain⟨s,hs,rfl⟩:=af9.1 hl;obtain⟨g1,g2,_,_⟩:=rF hn (hS s hs);rcases nJ hi hk (hc _ g1) g2 with⟨a,b,c⟩|⟨a,b,c⟩
 ·exact Or.inl ⟨a,b,c⟩
 ·exact Or.inr ⟨a,b⟩
theorem LV(hi:aQ ts.length cs.length ps)(hk:fE cs ps)(hc:∀p∈Us,p∈nU ps)(hn:Us.Nodup)(hct:∀x∈cs,(x.1=80\/x.1=81)/\x.2<ts.length){S:List jH}(hS:∀s∈S,s∈fA Us τ){f':Nat->Nat}(hf:Closed ts (aX (S.map dD)) f')(hnc:¬cb f' cs (S.map dD))
 (α:Nat->Bool)(hα:Th1 ts cs Us α):Sat.keeps α (S.map H7):=by
 refine ah3 λhno=>hnc ?_;obtain⟨g,hl,hg,ha,hα⟩:=hα;refine RS (x8 hi hk hc hn hS) hf hct hg ha (λl hlm=>?_);obtain⟨s,hs,rfl⟩:=af9.1 hlm;obtain⟨g1,g2,g3,g4⟩:=rF hn (hS s hs);have hv:α s.1=s.2.1:=by
  refine ah3 λhne=>hno ⟨H7 s,af9.2 ⟨s,hs,rfl⟩,?_⟩
  show α s.1=!s.2.1
  cases h1:α s.1<;>cases h2:s.2.1<;>simp_all
 obtain⟨q1,q2⟩:=hα _ g1;rw[<-g4,hv]at q1 q2;refine⟨q1,λh61=>q2 ?_⟩;have h61:s.2.2.1≠61:=h61;simp only[isAtom,aj7]at g2;omega
theorem LU(hall:∀x,x<Us.length->kX τ x=true){S:List jH}(hS:∀s∈S,s∈fA Us τ):∀u∈S.map H7,u.1<Us.length/\Sat.wrong (bel τ) u:=by
 intro u hu;obtain⟨s,hs,rfl⟩:=af9.1 hu;obtain⟨hl,_,h1,_⟩:=yL.1 (hS s hs);obtain⟨b,h2,h3⟩:=JZ (hall s.1 hl);refine⟨hl,b,h2,?_⟩
 show b.1≠!s.2.1
 rw[h3,h1];cases Jq τ s.1<;>simp
theorem LX{S:List jH}(h:(S.map (·.1)).Nodup):(S.map H7).Nodup:=by
 unfold List.Nodup at h ⊢;rw[List.pairwise_map]at h ⊢;refine h.imp (λhne e=>hne ?_);have h2:(H7 _).1=(H7 _).1:=ao1 (λv:View=>v.1) e;exact h2
theorem XG(f:Nat->Nat)(cs:List (Int×Nat)):cb f cs []:=⟨λl hl=>(by cases hl),λl hl=>(by cases hl)⟩
theorem KH(hi:aQ ts.length cs.length ps)(hk:fE cs ps)(h0:0<ps.length)(hct:∀x∈cs,(x.1=80\/x.1=81)/\x.2<ts.length)
 (hP:jW Us aJ (lK id ps))(hc:∀p∈Us,p∈nU ps)(hU:∀q∈ps,q.1≠33->q∈Us)(hd:Sat.Done ak (bel τ))(hs:∀r∈aJ,r∈ak)(hall:∀x,x<Us.length->kX τ x=true)
 {f' f'':Nat->Nat}(hf':Closed ts (aX ((fA Us τ).map dD)) f')(hcb:cb f' cs ((fA Us τ).map dD))(Zj:Closed ts (aX ((fA Us τ).map dD)) f''):xP f'' ts cs ps (kQ (fA Us τ) cs.length):=by
 have hkp:=zA hd hs hP.lp.rg.lt hall;have hH:Hold (SQ Us τ) (lK id ps):=(hP.lp.sem Us (al1 _) (Jq τ)).1 hkp;have hnd:=hP.lp.nodup;have nD:=x8 (τ:=τ) hi hk hc hnd (λs hs=>hs);refine Gi hi hk h0 hct hH (λq hq ha=>?_) Zj (NU nD hct hf' Zj hcb) (λc hc'=>?_)
 ·have hm:=hU q hq (by omega);exact af9.2 ⟨_,Cc hm (by simp only[isAtom,aj7];exact ha),rfl⟩
 ·refine FQ hc' (λs hs1 h61 hsc=>?_) ?_
  ·obtain⟨g1,g2,g3,g4⟩:=rF hnd hs1;rcases nJ hi hk (hc _ g1) g2 with⟨a,_⟩|⟨a,⟨b1,b2⟩,c0⟩
   ·exact absurd a h61
   ·rw[g3]
    congr 1
    have:s.2.2=(s.2.2.1,s.2.2.2.1,s.2.2.2.2):=rfl;rw[this,c0,<-b2];simp only[hsc]
  ·have h8:=(hct _ (ad8 hc')).1;have hm:=hU _ (hk.has c hc') (by show cs[c].1≠33;omega);exact Or.inr ⟨_,Cc hm (by simp only[isAtom,aj7];omega),by show cs[c].1≠61;omega,rfl⟩
theorem KG(hi:aQ ts.length cs.length ps)(hk:fE cs ps)(h0:0<ps.length)(hP:jW Us aJ (lK id ps))(hc:∀p∈Us,p∈nU ps)(hno:∀α:Nat->Bool,Th1 ts cs Us α->¬∀r∈aJ,Sat.keeps α r):¬∃f hl,hl.length=cs.length/\xP f ts cs ps hl:=by
 rintro⟨f,hl,_,hm⟩;refine hno _ ⟨f,hl,hm.DI,(qM f cs hl).1 hm.Ya,λp hp=>?_⟩ (FM hP (H8 hi h0 hm));have hlt:=ak6.2 hp;rw[aG hlt,ai2 hlt];refine⟨λh61=>?_,λh8=>(uF h8).symm⟩;rcases nJ hi hk (hc _ hp) (by simp[isAtom,h61])with⟨_,b,c⟩|⟨a,_⟩
 ·rw[VL h61,jF f b,jF f c];simp only[aj7];omega
 ·omega
end
end
open Go.RowKit Go.Maps Go.WideMaps
open aB (Key put)
attribute [local go_sem] Oper.semAt_some
theorem ND(n:Nat)(w:World)(hn:n<=1000) :
  Calls prog 167 #[.slice none 0 0,.int .i64 n] w λe w'=>∃v,e=.returned v/\w'.ownsRow w.heap.size 210 5 v 0 []/\w.grownBy w' none:=by
 obtain⟨i0,hin,hz0,hz1,hz2⟩:=ak7 CZ;have hneg:¬((n:Int)<0):=by omega
 rcases ak5 n with h0|h0
 ·subst h0
  go_enter func167,ntmps167
  go_wp2_with fail
  go_ret
  exact⟨_,rfl,am9 _ _ _ _,ah7 _ _⟩
 ·have hpos:(n:Int)>0:=by omega
  have hrz:∀ty,(Builtin.append_ #[133,3] ty #[.slice none 0 0,.int .i64 n]).run prog w =
    .ok (.slice (some ⟨w.heap.size,0,none⟩) n (grownCap w n 0 210)) (w.drew.alloc (.cells (#[]++Builtin.zeroCells (Value.agg #[.int .i64 0,.bool false,.int .u8 0,.int .i64 0,.int .i64 0]).cells n++Builtin.zeroCells (Value.agg #[.int .i64 0,.bool false,.int .u8 0,.int .i64 0,.int .i64 0]).cells (grownCap w n 0 210-n)) 210)):=λty=>by
   have h:=Lib.run_append_grow_zeros w 133 3 ty 210 i0 _ .i64 .i64 underlying133 underlying3 hin hz0 none 0 0 [] (run_firstCells_none w.drew i0.size 0 0 0) n h0 (by rw[hz1];decide) (by omega) (by omega) (by rw[hz2];omega) (by rw[am5];exact growslice_fits (by omega) (by rw[hz2];omega));rw[am5]at h;exact h
  have hGn:n<=grownCap w n 0 210:=grownCap_ge w _ _ _;have hGm:=grownCap_le_maxLen w n 0 210 (by unfold maxLen;omega);obtain⟨G,hG⟩:∃G,G=grownCap w n 0 210:=⟨_,rfl⟩;rw[<-hG]at hrz hGn hGm;have hG63:G<=9223372036854775807:=by unfold maxLen at hGm;omega
  clear hG
  go_enter func167,ntmps167
  go_wp2_with (at_builtin;refine Lib.wpList_append_run _ rfl _ _ _ _ rfl _ _ rfl rfl _ _ (hrz _) ?_)
  go_ret
  refine⟨_,rfl,⟨rfl,Or.inr ⟨w.heap.size,G,Builtin.zeroCells #[.int .i64 0,.bool false,.int .u8 0,.int .i64 0,.int .i64 0] n++Builtin.zeroCells #[.int .i64 0,.bool false,.int .u8 0,.int .i64 0,.int .i64 0] (G-n),rfl,ad5 _,?_,ah2 _,hGm,?_,by simp⟩⟩,?_⟩
  ·exact ae9 w.drew _
  ·rw[Array.size_append,size_zeroCells,size_zeroCells];simp;omega
  ·exact(⟨rfl,rfl,rfl,ad5 _,λ_ _ _=>rfl⟩:w.grownBy w.drew none).trans (ad4 _ _ none)
theorem lN{W:World}{base e size n:Nat}{v:Value}{xs:List Value}(h:W.ownsRow base e size v n xs):∃p cap,v=.slice p n cap:=by
 rcases h.2 with⟨rfl,h0⟩|⟨g,cap,cur,rfl,_⟩
 ·subst h0;exact⟨_,_,rfl⟩
 ·exact⟨_,_,rfl⟩
theorem Jj(w:World)(B m1 c1 m2 c2:Nat)(ad1 ad2:Addr)(n1 n2:List Value)(hB:w.heap[B]?=some (.cells #[.slice (some ad1) m1 c1,.slice (some ad2) m2 c2] 133 (0,0)))(h1:m1<=100)(h2:m2<=100)
 (hl1:n1.length=m1*5)(hl2:n2.length=m2*5)(hc1:∀j u,n1[j]?=some u->w.cell? (ad1.add j)=some u)(hc2:∀j u,n2[j]?=some u->w.cell? (ad2.add j)=some u)(ho1:∀u∈n1,u.oneCell'=true)(ho2:∀u∈n2,u.oneCell'=true) :
  Calls prog 126 #[.slice (some ⟨B,0,none⟩) 2 2] w λe w'=>∃v,e=.returned v/\w'.ownsRow w.heap.size 210 5 v (m1+m2) (n1++n2)/\Below w.heap.size w w':=by
 obtain⟨i0,hin,hz0,hz1,hz2⟩:=ak7 CZ;have b0:w.cell? ⟨B,0,none⟩=some (.slice (some ad1) m1 c1):=by rw[cell_of hB];rfl
 have b1:w.cell? ⟨B,1,none⟩=some (.slice (some ad2) m2 c2):=by rw[cell_of hB];rfl
 have hBl:=(ad3.1 hB).1;have hn1:¬((m1:Int)<0):=by omega
 have hn2:¬((m1:Int)+(m2:Int)<0):=by omega
 have hgr:=ND (m1+m2) w (by omega);rw[Int.natCast_add]at hgr;have HC1:Hid (∀W,Below w.heap.size w W->∀j u,n1[j]?=some u->W.cell? (ad1.add j)=some u):=λW hW j u hj=>by
  have:=hc1 j u hj;exact(hW.cell (p:=ad1.add j) (ad7 w _ this)).trans this
 have HC2:Hid (∀W,Below w.heap.size w W->∀j u,n2[j]?=some u->W.cell? (ad2.add j)=some u):=λW hW j u hj=>by
  have:=hc2 j u hj;exact(hW.cell (p:=ad2.add j) (ad7 w _ this)).trans this
 have HL1:=aj hl1;have HL2:=aj hl2;clear hc1 hc2 hl1 hl2 hB
 go_enter func126,ntmps126
 go_wp2_with fail
 refine wp_loop_rounds 3 ?_;rw[ao0]
 go_wp2_with fail
 rw[ao0]
 go_wp2_with fail
 rw[ao0]
 go_wp2_with fail
 refine hgr.mono ?_;rintro e w1 ⟨v0,rfl,hrow0,hg1⟩;obtain⟨p0,cap0,rfl⟩:=lN hrow0;have hb1:Below w.heap.size w w1:=(ag6 _ w).grown hg1 (ad5 _) (λk e=>by cases e);have q0:w1.cell? ⟨B,0,none⟩=some (.slice (some ad1) m1 c1):=hg1.cell b0 (by simp);have q1:w1.cell? ⟨B,1,none⟩=some (.slice (some ad2) m2 c2):=hg1.cell b1 (by simp);have HB1:=aj hb1;have hs1:=hb1.size;clear hgr hb1 hg1
 go_wp2_with fail
 refine wp_loop_rounds 3 ?_;rw[ao0]
 go_wp2_with (at_builtin;refine am1 _ rfl _ _ 133 rfl w.heap.size 210 i0 _ 5 40 underlying133 hin hz0 hz1 hz2 rfl (by decide) (.slice p0 0 cap0) 0 [] rfl hrow0 ad1 m1 c1 n1 rfl (ah HL1) (ah HC1 _ (ah HB1)) ho1 (by unfold maxLen;omega) (by omega) hs1 ?_;intro v1 w2 hown1 hg2 hnil2 aa2;obtain⟨p1,cap1,hv1⟩:=lN hown1;subst hv1)
 have hb2:Below w.heap.size w w2:=(ah HB1).grown hg2 (ah HB1).size (λk e=>(hrow0.lt k e).1);have r1:w2.cell? ⟨B,1,none⟩=some (.slice (some ad2) m2 c2):=(hb2.cell (p:=⟨B,1,none⟩) hBl).trans b1;have HB2:=aj hb2;have hs2:=hb2.size;rw[am5,ae7]at hown1;clear hb2 hg2 hnil2 aa2;rw[ao0]
 go_wp2_with (at_builtin;refine am1 _ rfl _ _ 133 rfl w.heap.size 210 i0 _ 5 40 underlying133 hin hz0 hz1 hz2 rfl (by decide) (.slice p1 m1 cap1) m1 n1 rfl hown1 ad2 m2 c2 n2 rfl (ah HL2) (ah HC2 _ (ah HB2)) ho2 (by unfold maxLen;omega) (by omega) hs2 ?_;intro v2 w3 hown2 hg3 hnil3 UC;obtain⟨p2,cap2,hv2⟩:=lN hown2;subst hv2)
 have hb3:Below w.heap.size w w3:=(ah HB2).grown hg3 (ah HB2).size (λk e=>(hown1.lt k e).1);have HB3:=aj hb3;have HO2:=aj hown2;clear hb3 hg3 hnil3 UC hown2;rw[ao0]
 go_wp2_with fail
 go_ret
 exact⟨_,rfl,ah HO2,ah HB3⟩
theorem Js(n:Nat)(X:Nat)(w:World)(hX:w.cell? ⟨X,0,none⟩=some (.slice none 0 0)) :
  lD Fence.wide n prog 169 #[.pointer (some ⟨X,0,none⟩)] [] (λ_ _=>True) w:=by
 intro l J Jx W hW hJ hJx hY h0;have hXW:W.cell? ⟨X,0,none⟩=some (.slice none 0 0):=(hW.cell (p:=⟨X,0,none⟩) (ad7 w _ hX)).trans hX;have hmm:=λz=>dh (P:=prog) underlying66 .i64 z W;have hJ1:J 0 (W.alloc (.map #[] 0)):=hJ 0 W _ none h0 (ad4 _ _ none) (λr e=>by cases e);have hX1:(W.alloc (.map #[] 0)).cell? ⟨X,0,none⟩=some (.slice none 0 0):=(ad4 _ _ none).cell hXW (by simp);refine aj3 func169 rfl trivial ?_ rfl;simp only[ntmps169,ae2,ae1,ae8,Nat.reduceAdd,Nat.reduceSub,ae0,ad9,ae4,ag1,ae7,ae6]
 gi_wp2
 obtain⟨W1,hW1⟩:∃W1,W.alloc (.map #[] 0)=W1:=⟨_,rfl⟩;rw[hW1]at hJ1 hX1 ⊢;clear hmm hW1
 gi_wp2
 gi_loopw [13] (λi wr=>i=.int .i64 0/\J 0 wr) (λ_ _=>0)
 case atStart=>exact⟨rfl,hJ1⟩
 case round=>
  obtain⟨rfl,hJr⟩:=hrel
  gi_wp2
  go_end0
  exact⟨⟨_,rfl⟩,Or.inl hJr⟩
theorem N9(w:World):Calls prog 78 #[.slice none 0 0,.slice none 0 0] w λe w'=>e=.returned (.bool true)/\Below w.heap.size w w':=by
 refine(ag4 (n:=5)).1 ?_;refine ai6 func78 rfl trivial ?_ rfl;simp only[ntmps78,ae2,ae1,ae8,Nat.reduceAdd,Nat.reduceSub,ae0,ad9,ae4,ag1,ae7,ae6]
 gi_wp2
 obtain⟨wr,hwr⟩:∃wr,(w.alloc (.cells #[.slice none 0 0] 54)).alloc (.cells #[.bool false] 4)=wr:=⟨_,rfl⟩;have hgr:w.grownBy wr none:=by rw[<-hwr];exact(ad4 _ _ none).trans (ad4 _ _ none)
 have hbr:Below w.heap.size w wr:=⟨hgr.os,hgr.tape,hgr.output,hgr.size,λj hj=>hgr.block j hj (by simp)⟩;have hx2:wr.cell? ⟨w.heap.size+1,0,none⟩=some (.bool false):=by rw[<-hwr];simp[go_sem]
 have hf2:wr.frozen? ⟨w.heap.size+1,0,none⟩=false:=by rw[<-hwr];simp[go_sem]
 have hsr:w.heap.size+2<=wr.heap.size:=by rw[<-hwr];simp
 rw[hwr];clear hwr hgr;refine⟨trivial,(ag4.2 (zQ none 0 0 wr)).mono ?_⟩;rintro e w2 ⟨rfl,rfl⟩
 gi_wp2
 obtain⟨w2,hw2⟩:∃w2,wr.alloc (.cells #[.slice none 0 0] 43)=w2:=⟨_,rfl⟩;have hg2:wr.grownBy w2 none:=by rw[<-hw2];exact ad4 _ _ none
 have hX2:w2.cell? ⟨wr.heap.size,0,none⟩=some (.slice none 0 0):=by rw[<-hw2];simp[go_sem]
 have hseq:=Js 4 wr.heap.size w2 hX2;have hI0:w2.cell? ⟨w.heap.size+1,0,none⟩=some (.bool false)/\w2.frozen? ⟨w.heap.size+1,0,none⟩=false/\Below w.heap.size w w2:=⟨hg2.cell hx2 (by simp),(ai1 (hg2.block (w.heap.size+1) (by omega) (by simp))).trans hf2,hbr.grown hg2 hbr.size (λk e=>by cases e)⟩;have hbw2:w.heap.size+2<=w2.heap.size:=af7 hsr hg2.size;rw[hw2];clear hw2 hX2 hg2 hx2 hf2 hbr;have hown:OwnFrom w2.heap.size (fun(_:Nat) W=>W.cell? ⟨w.heap.size+1,0,none⟩=some (.bool false)/\W.frozen? ⟨w.heap.size+1,0,none⟩=false/\Below w.heap.size w W):=λk W W' row h hg hr=>by
  have hr':∀r,row=some r->∃o:Obj,W.heap[r]?=some o/\o.isCells=false:=λr e=>(hr r e).2;exact⟨aZ h.1 hg hr',(kT h.1 hg hr').trans h.2.1,h.2.2.grown hg h.2.2.size (λk e=>by have:=(hr k e).1;omega)⟩
 have qW:OwnFrom w2.heap.size (fun(_:Unit) (_:World)=>False):=λk W W' row h hg hr=>h;refine dW rfl (by omega) rfl trivial (λ_ _=>by simp[go_sem]) hseq (λ_ _=>trivial) (λ_ _ _ _ _ _ _ _=>trivial) (ag6 _ _) ?_ _ (λ_=>False) hown qW hI0 (λ_ _ _=>False) ?own ?assign ?body ?done ?stop
 ·intro k hk;simp at hk
 case own=>exact λk a' u W W' row h _ _=>h
 case assign=>intro l k hk;simp at hk
 case body=>intro l k a' W hk;simp at hk
 case done=>
  rintro D W hD ⟨hx2,hf2,hb⟩ hdef
  gi_wp2
  have yV:(W.setCell ⟨w.heap.size+1,0,none⟩ (.bool true)).heap[D]?=some (.deferred (some [])):=(af4 _ _ _ _ (by show D≠w.heap.size+1;omega)).trans hdef;have hxs:(W.setCell ⟨w.heap.size+1,0,none⟩ (.bool true)).cell? ⟨w.heap.size+1,0,none⟩=some (.bool true):=dB _ hx2;have hgp:=ak4 (W.setCell ⟨w.heap.size+1,0,none⟩ (.bool true)) D (.deferred none);have hx3:=hgp.cell hxs (by simp;omega);refine⟨by simp,.inl ⟨_,_,rfl,aj6 yV,?_⟩⟩;refine⟨.bool true,by simp[results,results78,go_sem,hx3],rfl,?_⟩;exact(hb.setCell (p:=⟨w.heap.size+1,0,none⟩) (by show w.heap.size<=w.heap.size+1;omega) _).grown hgp (hb.setCell (p:=⟨w.heap.size+1,0,none⟩) (by show w.heap.size<=w.heap.size+1;omega) _).size (λk e=>by cases e;omega)
 case stop=>exact λD W hD hI hdef=>hI.elim
def wM(f':Nat->Nat)(cs:List (Int×Nat))(ss:List jH):List (Int×Nat):=(ss.filter λs=>decide (s.2.2.1≠61)).map λs=>(s.2.2.1,f' (cs.getD s.2.2.2.1 (0,0)).2)
def xO(ss:List jH):List Bool:=(ss.filter λs=>decide (s.2.2.1≠61)).map λs=>s.2.1
theorem RD{f':Nat->Nat}{cs:List (Int×Nat)}{ss:List jH}{k:Nat}(hk:k<ss.length):wM f' cs (ss.take (k+1))=wM f' cs (ss.take k)++if ss[k].2.2.1=61 then []else [(ss[k].2.2.1,f' (cs.getD ss[k].2.2.2.1 (0,0)).2)]:=by
 unfold wM;rw[ah1,ad6 hk,an3,ak3]
 congr 1
 show([ss[k]].filter _).map _=_
 rw[List.filter_cons];by_cases e:ss[k].2.2.1=61<;>simp[e]
theorem Rz{ss:List jH}{k:Nat}(hk:k<ss.length):xO (ss.take (k+1))=xO (ss.take k)++if ss[k].2.2.1=61 then []else [ss[k].2.1]:=by
 unfold xO;rw[ah1,ad6 hk,an3,ak3]
 congr 1
 show([ss[k]].filter _).map _=_
 rw[List.filter_cons];by_cases e:ss[k].2.2.1=61<;>simp[e]
theorem U5(f':Nat->Nat)(cs:List (Int×Nat))(ss:List jH):(wM f' cs ss).length<=ss.length:=by
 unfold wM;rw[ai8];exact List.length_filter_le _ _
theorem U4(f':Nat->Nat)(cs:List (Int×Nat))(ss:List jH):(xO ss).length=(wM f' cs ss).length:=by
 unfold wM xO;simp
theorem Ry{f':Nat->Nat}{cs:List (Int×Nat)}{ss:List jH}:cb f' cs (ss.map dD)↔(∀s∈ss,s.2.2.1=61->s.2.1=false->f' s.2.2.2.1≠f' s.2.2.2.2)/\(∀p∈aO (wM f' cs ss) (wM f' cs ss).length,(xO ss).getD p.1 false=(xO ss).getD p.2 false):=by
 have hA:=CO (wM f' cs ss) (λi j=>(xO ss).getD i false=(xO ss).getD j false) (λ_=>rfl) (λ_ _ e=>e.symm) (λ_ _ _ e1 e2=>e1.trans e2);rw[hA];unfold cb;refine and_congr ?_ ?_
 ·constructor
  ·intro h s hs h1 h2;exact h (dD s) (af9.2 ⟨s,hs,rfl⟩) h1 h2
  ·intro h l hl h1 h2;obtain⟨s,hs,rfl⟩:=af9.1 hl;exact h s hs h1 h2
 ·unfold wM xO;obtain⟨L,hL⟩:∃L,L=ss.filter λs=>decide (s.2.2.1≠61):=⟨_,rfl⟩;have hm:∀s,s∈L↔s∈ss/\s.2.2.1≠61:=λs=>by rw[hL,ai3];simp
  rw[<-hL];constructor
  ·intro h i j hi hj e;simp only[ai8]at hi hj;simp only[aj8,ad6 hi,ad6 hj,ap9,ai4,ar2]at e;have h1:=(hm L[i]).1 (ad8 hi);have h2:=(hm L[j]).1 (ad8 hj);have:=h (dD L[i]) (af9.2 ⟨_,h1.1,rfl⟩) (dD L[j]) (af9.2 ⟨_,h2.1,rfl⟩) h1.2 h2.2 e.1 e.2;rw[aG (by simpa using hi),aG (by simpa using hj)];simpa[dD]using this
  ·intro h l hl m hm' h61 IU hlet e;obtain⟨s,hs,rfl⟩:=af9.1 hl;obtain⟨t,ht,rfl⟩:=af9.1 hm';obtain⟨i,hi,e1⟩:=ai0 ((hm s).2 ⟨hs,h61⟩);obtain⟨j,hj,e2⟩:=ai0 ((hm t).2 ⟨ht,IU⟩);have:=h i j (by simpa using hi) (by simpa using hj) (by
    simp only[aj8,ad6 hi,ad6 hj,ap9,e1,e2]
    congr 1
    exact Prod.ext hlet e)
   rw[aG (by simpa using hi),aG (by simpa using hj)]at this;simpa[e1,e2,dD]using this
structure SN(w:World)(b n:Nat)(f':Nat->Nat)(fo:Array Value)(C:List (Int×Nat))(H:List Bool)(v6 v7:Value)(W:World):Prop where
 j:∃c,gG W b f' n c
 lo:w.heap.size<=b
 x0:W.heap[w.heap.size]?=some (.cells fo 46 (0,0))
 rc:W.ownsRow w.heap.size 79 2 v6 C.length (C.flatMap lH)
 rh:W.ownsRow w.heap.size 4 1 v7 H.length (H.map Value.bool)
 nc:v6=.slice none 0 0↔C=[]
 nh:v7=.slice none 0 0↔H=[]
 below:Below w.heap.size w W
theorem lW{W:World}{base e size n:Nat}{v:Value}{xs:List Value}(h:W.ownsRow base e size v n xs):∀k,v.ownBlock=some k->base<=k/\∃cur:Array Value,W.heap[k]?=some (.cells cur e (0,0)):=by
 intro k hk;rcases h.2 with⟨rfl,_⟩|⟨g,cap,cur,rfl,hb,hgb,_⟩
 ·cases hk
 ·cases hk;exact⟨hb,cur,hgb⟩
theorem SN.grow{w:World}{b n:Nat}{f':Nat->Nat}{fo:Array Value}{C:List (Int×Nat)}{H:List Bool}{v6 v7:Value}{W W':World}(h:SN w b n f' fo C H v6 v7 W)(hg:W.grownBy W' none):SN w b n f' fo C H v6 v7 W':=by
 obtain⟨c,h1⟩:=h.j;exact⟨⟨c,h1.kept (hg.block b h1.lt (by simp))⟩,h.lo,(hg.block _ (ad3.1 h.x0).1 (by simp)).trans h.x0,h.rc.kept hg (Classical.em _),h.rh.kept hg (Classical.em _),h.nc,h.nh,h.below.grown hg h.below.size (λk e=>by cases e)⟩
theorem SN.ab8{w:World}{b n:Nat}{f':Nat->Nat}{fo:Array Value}{C:List (Int×Nat)}{H:List Bool}{v6 v6' v7:Value}{W W':World}{x:Int×Nat}(h:SN w b n f' fo C H v6 v7 W)(hg:W.grownBy W' v6.ownBlock)(hr:W'.ownsRow w.heap.size 79 2 v6' (C.length+1) (C.flatMap lH++lH x))(hn:v6'≠.slice none 0 0):SN w b n f' fo (C++[x]) H v6' v7 W':=by
 obtain⟨c,h1⟩:=h.j;have hb:=lW h.rc;have keep:∀(j:Nat) (o:Obj),W.heap[j]?=some o->(∀cur x,o≠Obj.cells cur 79 x)->W'.heap[j]?=some o:=λj o hj hc=>(hg.block j (ad3.1 hj).1 (λe=>by
  obtain⟨_,cur,hcur⟩:=hb j e.symm;rw[hj]at hcur;cases hcur;exact hc _ _ rfl)).trans hj
 obtain⟨o,ho,hoc⟩:=h1.Yt;refine⟨⟨c,h1.kept ((keep b o ho (λcur x e=>hoc _ _ _ e)).trans ho.symm)⟩,h.lo,keep _ _ h.x0 (λcur x e=>by simp at e),?_,h.rh.kept hg ?_,?_,h.nh,h.below.grown hg h.below.size (λk e=>(hb k e).1)⟩
 ·rw[af8,List.flatMap_append];simpa using hr
 ·by_cases e:v7.ownBlock=none
  ·exact Or.inl e
  ·refine Or.inr (λe2=>?_);cases e3:v7.ownBlock with
   |none=>exact e e3
   |some k=>
    obtain⟨_,cur,h2⟩:=lW h.rh k e3;obtain⟨_,cur',h3⟩:=hb k (by rw[<-e2,e3]);rw[h2]at h3;simp at h3
 ·constructor
  ·intro e;exact absurd e hn
  ·intro e;simp at e
theorem SN.appH{w:World}{b n:Nat}{f':Nat->Nat}{fo:Array Value}{C:List (Int×Nat)}{H:List Bool}{v6 v7 v7':Value}{W W':World}{x:Bool}(h:SN w b n f' fo C H v6 v7 W)(hg:W.grownBy W' v7.ownBlock)(hr:W'.ownsRow w.heap.size 4 1 v7' (H.length+1) (H.map Value.bool++[Value.bool x]))(hn:v7'≠.slice none 0 0):SN w b n f' fo C (H++[x]) v6 v7' W':=by
 obtain⟨c,h1⟩:=h.j;have hb:=lW h.rh;have keep:∀(j:Nat) (o:Obj),W.heap[j]?=some o->(∀cur x,o≠Obj.cells cur 4 x)->W'.heap[j]?=some o:=λj o hj hc=>(hg.block j (ad3.1 hj).1 (λe=>by
  obtain⟨_,cur,hcur⟩:=hb j e.symm;rw[hj]at hcur;cases hcur;exact hc _ _ rfl)).trans hj
 obtain⟨o,ho,hoc⟩:=h1.Yt;refine⟨⟨c,h1.kept ((keep b o ho (λcur x e=>hoc _ _ _ e)).trans ho.symm)⟩,h.lo,keep _ _ h.x0 (λcur x e=>by simp at e),h.rc.kept hg ?_,?_,h.nc,?_,h.below.grown hg h.below.size (λk e=>(hb k e).1)⟩
 ·by_cases e:v6.ownBlock=none
  ·exact Or.inl e
  ·refine Or.inr (λe2=>?_);cases e3:v6.ownBlock with
   |none=>exact e e3
   |some k=>
    obtain⟨_,cur,h2⟩:=lW h.rc k e3;obtain⟨_,cur',h3⟩:=hb k (by rw[<-e2,e3]);rw[h2]at h3;simp at h3
 ·rw[af8,ak3];simpa using hr
 ·constructor
  ·intro e;exact absurd e hn
  ·intro e;simp at e
end Go.Proofs.YthcppbmkacbbiabGreat
