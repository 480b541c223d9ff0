import Derived.Test.YthcppbmkacbbiaaGreatYBO
import Derived.Test.YthcppbmkacbbiaaGreatYBL
import Derived.Lib.AppendZerosOnto
set_option linter.unusedSimpArgs false
set_option maxHeartbeats 2000000
set_option maxRecDepth 100000
namespace Go.Proofs.YthcppbmkacbbiaaGreat
open Go.Proofs.Tryz
section
open Sat (View Rule jw bI)
open aB (Key put lY dP jn au aP dH fD isAtom)
def ZE(ts:List Key)(cs:List (Int×Nat))(Us:List Key)(α:Nat->Bool):Prop:=
 ∃g hl,wQ g ts/\NM g cs hl/\∀p∈Us,(p.1=61->(g p.2.1=g p.2.2↔α (Us.idxOf p)=true))/\(p.1=80\/p.1=81->hl.getD p.2.1 false=α (Us.idxOf p))
def GN(s:jL):View:=(s.1,!s.2.1)
theorem wK{ts:List Key}{f f' f'':Nat->Nat}(h':Closed ts f f')(h'':Closed ts f f''){a b:Nat}(ha:a<ts.length)(hb:b<ts.length)(h:f' a=f' b):f'' a=f'' b:=
 h'.least (λa b=>f'' a=f'' b) (CY f'') ((iJ f'' ts).1 h''.Dp) (λa b _ _ e=>h''.XV a b e) a b ha hb h
theorem Nu{ts:List Key}{cs:List (Int×Nat)}{said:List aV}{f f' f'':Nat->Nat}(hs:og ts cs said)(hct:∀x∈cs,(x.1=80\/x.1=81)/\x.2<ts.length)(h':Closed ts f f')(h'':Closed ts f f'')(h:cb f' cs said):cb f'' cs said:=by
 refine⟨λl hl h61 hf e=>?_,λl hl m hm h61 Ii hlet e=>?_⟩
 ·rcases hs l hl with⟨_,q1,q2⟩|⟨q,_⟩
  ·exact h.1 l hl h61 hf (wK h'' h' q1 q2 e)
  ·omega
 ·rcases hs l hl with⟨q,_⟩|⟨_,p1,p2⟩
  ·exact absurd q h61
  ·rcases hs m hm with⟨q,_⟩|⟨_,r1,r2⟩
   ·exact absurd q Ii
   ·refine h.2 l hl m hm h61 Ii hlet ?_;rw[aG p1,aG r1]at e ⊢;exact wK h'' h' (hct _ (ac4 p1)).2 (hct _ (ac4 r1)).2 e
theorem RY{f:Key->Key}{Us ps:List Key}:∀k,k<=ps.length->∀q∈ps.take k,q.1≠33->f q∈nG f Us ps k:=by
 intro k
 induction k with
 |zero=>intro _ q hq;simp at hq
 |succ k ih=>
  intro hk q hq h33;have hk':k<ps.length:=by omega
  rw[lZ hk'];have e:ps.take (k+1)=ps.take k++[ps[k]]:=by rw[ag5,ac3 hk'];rfl
  rw[e]at hq;rcases af7.1 hq with hq|hq
  ·exact(Dl _ _ _).mem (ih (by omega) q hq h33)
  ·rw[ae5.1 hq]at h33 ⊢;unfold Dn;rw[ad6 h33];exact aU _ _
section
variable {ts:List Key} {cs:List (Int×Nat)} {ps Us:List Key} {aJ ak:List Rule} {τ:List Tr}
theorem nX(hi:aP ts.length cs.length ps)(hk:fD cs ps){q:Key}(hq:q∈oC ps)(ha:isAtom q.1=true):(q.1=61/\q.2.1<ts.length/\q.2.2<ts.length)\/((q.1=80\/q.1=81)/\(∃h:q.2.1<cs.length,cs[q.2.1].1=q.1)/\q.2.2=0):=by
 have hq:=(ah3.1 hq).1;obtain⟨i,hlt,e⟩:=ah1 hq;have ho:=hi.ok i hlt;rw[e]at ho;simp only[isAtom,ah4]at ha;rcases ho with⟨a,_⟩|⟨a,_⟩|⟨a,_,b⟩|⟨a,b,c⟩
 ·omega
 ·rcases ha with e|e|e<;>(rw[e]at a;simp[au]at a)
 ·exact Or.inr ⟨a,hk.letter q hq a,b⟩
 ·exact Or.inl ⟨a,b,c⟩
theorem xX(hi:aP ts.length cs.length ps)(hk:fD cs ps)(hc:∀p∈Us,p∈oC ps)(hn:Us.Nodup){S:List jL}(hS:∀s∈S,s∈fA Us τ):og ts cs (S.map dF):=by
 intro l hl;obtain⟨s,hs,rfl⟩:=ae8.1 hl;obtain⟨g1,g2,_,_⟩:=rP hn (hS s hs);rcases nX hi hk (hc _ g1) g2 with⟨a,b,c⟩|⟨a,b,c⟩
 ·exact Or.inl ⟨a,b,c⟩
 ·exact Or.inr ⟨a,b⟩
theorem Ld(hi:aP ts.length cs.length ps)(hk:fD cs ps)(hc:∀p∈Us,p∈oC ps)(hn:Us.Nodup)(hct:∀x∈cs,(x.1=80\/x.1=81)/\x.2<ts.length){S:List jL}(hS:∀s∈S,s∈fA Us τ){f':Nat->Nat}(hf:Closed ts (aY (S.map dF)) f')(hnc:¬cb f' cs (S.map dF))
 (α:Nat->Bool)(hα:ZE ts cs Us α):Sat.keeps α (S.map GN):=by
 refine ag1 λhno=>hnc ?_;obtain⟨g,hl,hg,ha,hα⟩:=hα;refine Q8 (xX hi hk hc hn hS) hf hct hg ha (λl hlm=>?_);obtain⟨s,hs,rfl⟩:=ae8.1 hlm;obtain⟨g1,g2,g3,g4⟩:=rP hn (hS s hs);have hv:α s.1=s.2.1:=by
  refine ag1 λhne=>hno ⟨GN s,ae8.2 ⟨s,hs,rfl⟩,?_⟩
  show α s.1=!s.2.1
  cases h1:α s.1<;>cases h2:s.2.1<;>simp_all
 obtain⟨q1,q2⟩:=hα _ g1;rw[<-g4,hv]at q1 q2;refine⟨q1,λh61=>q2 ?_⟩;have h61:s.2.2.1≠61:=h61;simp only[isAtom,ah4]at g2;omega
theorem Lc(hall:∀x,x<Us.length->lG τ x=true){S:List jL}(hS:∀s∈S,s∈fA Us τ):∀u∈S.map GN,u.1<Us.length/\Sat.wrong (bel τ) u:=by
 intro u hu;obtain⟨s,hs,rfl⟩:=ae8.1 hu;obtain⟨hl,_,h1,_⟩:=yF.1 (hS s hs);obtain⟨b,h2,h3⟩:=Jt (hall s.1 hl);refine⟨hl,b,h2,?_⟩
 show b.1≠!s.2.1
 rw[h3,h1];cases IX τ s.1<;>simp
theorem Lh{S:List jL}(h:(S.map (·.1)).Nodup):(S.map GN).Nodup:=by
 unfold List.Nodup at h ⊢;rw[List.pairwise_map]at h ⊢;refine h.imp (λhne e=>hne ?_);have h2:(GN _).1=(GN _).1:=am8 (λv:View=>v.1) e;exact h2
theorem WS(f:Nat->Nat)(cs:List (Int×Nat)):cb f cs []:=⟨λl hl=>(by cases hl),λl hl=>(by cases hl)⟩
theorem J3(hi:aP ts.length cs.length ps)(hk:fD cs ps)(h0:0<ps.length)(hct:∀x∈cs,(x.1=80\/x.1=81)/\x.2<ts.length)
 (hP:kC Us aJ (l9 id ps))(hc:∀p∈Us,p∈oC ps)(hU:∀q∈ps,q.1≠33->q∈Us)(hd:Sat.Done ak (bel τ))(hs:∀r∈aJ,r∈ak)(hall:∀x,x<Us.length->lG τ x=true)
 {f' f'':Nat->Nat}(hf':Closed ts (aY ((fA Us τ).map dF)) f')(hcb:cb f' cs ((fA Us τ).map dF))(YJ:Closed ts (aY ((fA Us τ).map dF)) f''):Ak f'' ts cs ps (kV (fA Us τ) cs.length):=by
 have hkp:=zq hd hs hP.lp.rg.lt hall;have hH:Hold (RS Us τ) (l9 id ps):=(hP.lp.sem Us (ag6 _) (IX τ)).1 hkp;have hnd:=hP.lp.nodup;have nU:=xX (τ:=τ) hi hk hc hnd (λs hs=>hs);refine FM hi hk h0 hct hH (λq hq ha=>?_) YJ (Nu nU hct hf' YJ hcb) (λc hc'=>?_)
 ·have hm:=hU q hq (by omega);exact ae8.2 ⟨_,BJ hm (by simp only[isAtom,ah4];exact ha),rfl⟩
 ·refine EZ hc' (λs hs1 h61 hsc=>?_) ?_
  ·obtain⟨g1,g2,g3,g4⟩:=rP hnd hs1;rcases nX hi hk (hc _ g1) g2 with⟨a,_⟩|⟨a,⟨b1,b2⟩,c0⟩
   ·exact absurd a h61
   ·rw[g3]
    congr 1
    have:s.2.2=(s.2.2.1,s.2.2.2.1,s.2.2.2.2):=rfl;rw[this,c0,<-b2];simp only[hsc]
  ·have h8:=(hct _ (ac4 hc')).1;have hm:=hU _ (hk.has c hc') (by show cs[c].1≠33;omega);exact Or.inr ⟨_,BJ hm (by simp only[isAtom,ah4];omega),by show cs[c].1≠61;omega,rfl⟩
theorem JZ(hi:aP ts.length cs.length ps)(hk:fD cs ps)(h0:0<ps.length)(hP:kC Us aJ (l9 id ps))(hc:∀p∈Us,p∈oC ps)(hno:∀α:Nat->Bool,ZE ts cs Us α->¬∀r∈aJ,Sat.keeps α r):¬∃f hl,hl.length=cs.length/\Ak f ts cs ps hl:=by
 rintro⟨f,hl,_,hm⟩;refine hno _ ⟨f,hl,hm.Dp,(lS f cs hl).1 hm.Xr,λp hp=>?_⟩ (EW hP (GR hi h0 hm));have hlt:=aj3.2 hp;rw[aG hlt,ag2 hlt];refine⟨λh61=>?_,λh8=>(uw h8).symm⟩;rcases nX hi hk (hc _ hp) (by simp[isAtom,h61])with⟨_,b,c⟩|⟨a,_⟩
 ·rw[U8 h61,aT f b,aT f c];simp only[ah4];omega
 ·omega
end
end
open Go.RowKit Go.Maps Go.WideMaps
open aB (Key put)
attribute [local go_sem] Oper.semAt_some
theorem Na(n:Nat)(w:World)(hn:n<=1000) :
  Calls prog 188 #[.slice none 0 0,.int .i64 n] w λe w'=>∃v,e=.returned v/\w'.ownsRow w.heap.size 224 5 v 0 []/\w.grownBy w' none:=by
 obtain⟨i0,hin,hz0,hz1,hz2⟩:=ak1 Cc;have hneg:¬((n:Int)<0):=by omega
 rcases ak6 n with h0|h0
 ·subst h0
  go_enter func188,ntmps188
  go_wp2_with fail
  go_ret
  exact⟨_,rfl,al9 _ _ _ _,ag8 _ _⟩
 ·have hpos:(n:Int)>0:=by omega
  have hrz:∀ty,(Builtin.append_ #[165,3] ty #[.slice none 0 0,.int .i64 n]).run prog w =
    .ok (.slice (some ⟨w.heap.size,0,none⟩) n (grownCap w n 0 224)) (w.drew.alloc (.cells (#[]++Builtin.zeroCells (Value.agg #[.int .i64 0,.bool false,.int .u8 0,.int .i64 0,.int .i64 0]).cells n++Builtin.zeroCells (Value.agg #[.int .i64 0,.bool false,.int .u8 0,.int .i64 0,.int .i64 0]).cells (grownCap w n 0 224-n)) 224)):=λty=>by
   have h:=Lib.run_append_grow_zeros w 165 3 ty 224 i0 _ .i64 .i64 underlying165 underlying3 hin hz0 none 0 0 [] (run_firstCells_none w.drew i0.size 0 0 0) n h0 (by rw[hz1];decide) (by omega) (by omega) (by rw[hz2];omega) (by rw[al5];exact growslice_fits (by omega) (by rw[hz2];omega));rw[al5]at h;exact h
  have hGn:n<=grownCap w n 0 224:=grownCap_ge w _ _ _;have hGm:=grownCap_le_maxLen w n 0 224 (by unfold maxLen;omega);obtain⟨G,hG⟩:∃G,G=grownCap w n 0 224:=⟨_,rfl⟩;rw[<-hG]at hrz hGn hGm;have hG63:G<=9223372036854775807:=by unfold maxLen at hGm;omega
  clear hG
  go_enter func188,ntmps188
  go_wp2_with (at_builtin;refine Lib.wpList_append_run _ rfl _ _ _ _ rfl _ _ rfl rfl _ _ (hrz _) ?_)
  go_ret
  refine⟨_,rfl,⟨rfl,Or.inr ⟨w.heap.size,G,Builtin.zeroCells #[.int .i64 0,.bool false,.int .u8 0,.int .i64 0,.int .i64 0] n++Builtin.zeroCells #[.int .i64 0,.bool false,.int .u8 0,.int .i64 0,.int .i64 0] (G-n),rfl,ac2 _,?_,ag3 _,hGm,?_,by simp⟩⟩,?_⟩
  ·exact ad7 w.drew _
  ·rw[Array.size_append,size_zeroCells,size_zeroCells];simp;omega
  ·exact(⟨rfl,rfl,rfl,ac2 _,λ_ _ _=>rfl⟩:w.grownBy w.drew none).trans (ac1 _ _ none)
theorem mg{W:World}{base e size n:Nat}{v:Value}{xs:List Value}(h:W.ownsRow base e size v n xs):∃p cap,v=.slice p n cap:=by
 rcases h.2 with⟨rfl,h0⟩|⟨g,cap,cur,rfl,_⟩
 ·subst h0;exact⟨_,_,rfl⟩
 ·exact⟨_,_,rfl⟩
theorem IL(w:World)(B m1 c1 m2 c2:Nat)(ad1 ad2:Addr)(n1 n2:List Value)(hB:w.heap[B]?=some (.cells #[.slice (some ad1) m1 c1,.slice (some ad2) m2 c2] 165 (0,0)))(h1:m1<=100)(h2:m2<=100)
 (hl1:n1.length=m1*5)(hl2:n2.length=m2*5)(hc1:∀j u,n1[j]?=some u->w.cell? (ad1.add j)=some u)(hc2:∀j u,n2[j]?=some u->w.cell? (ad2.add j)=some u)(ho1:∀u∈n1,u.oneCell'=true)(ho2:∀u∈n2,u.oneCell'=true) :
  Calls prog 147 #[.slice (some ⟨B,0,none⟩) 2 2] w λe w'=>∃v,e=.returned v/\w'.ownsRow w.heap.size 224 5 v (m1+m2) (n1++n2)/\Below w.heap.size w w':=by
 obtain⟨i0,hin,hz0,hz1,hz2⟩:=ak1 Cc;have b0:w.cell? ⟨B,0,none⟩=some (.slice (some ad1) m1 c1):=by rw[cell_of hB];rfl
 have b1:w.cell? ⟨B,1,none⟩=some (.slice (some ad2) m2 c2):=by rw[cell_of hB];rfl
 have hBl:=(ac0.1 hB).1;have hn1:¬((m1:Int)<0):=by omega
 have hn2:¬((m1:Int)+(m2:Int)<0):=by omega
 have hgr:=Na (m1+m2) w (by omega);rw[Int.natCast_add]at hgr;have HC1:Hid (∀W,Below w.heap.size w W->∀j u,n1[j]?=some u->W.cell? (ad1.add j)=some u):=λW hW j u hj=>by
  have:=hc1 j u hj;exact(hW.cell (p:=ad1.add j) (ac5 w _ this)).trans this
 have HC2:Hid (∀W,Below w.heap.size w W->∀j u,n2[j]?=some u->W.cell? (ad2.add j)=some u):=λW hW j u hj=>by
  have:=hc2 j u hj;exact(hW.cell (p:=ad2.add j) (ac5 w _ this)).trans this
 have HL1:=aj hl1;have HL2:=aj hl2;clear hc1 hc2 hl1 hl2 hB
 go_enter func147,ntmps147
 go_wp2_with fail
 refine wp_loop_rounds 3 ?_;rw[an1]
 go_wp2_with fail
 rw[an1]
 go_wp2_with fail
 rw[an1]
 go_wp2_with fail
 refine hgr.mono ?_;rintro e w1 ⟨v0,rfl,hrow0,hg1⟩;obtain⟨p0,cap0,rfl⟩:=mg hrow0;have hb1:Below w.heap.size w w1:=(af5 _ w).grown hg1 (ac2 _) (λk e=>by cases e);have q0:w1.cell? ⟨B,0,none⟩=some (.slice (some ad1) m1 c1):=hg1.cell b0 (by simp);have q1:w1.cell? ⟨B,1,none⟩=some (.slice (some ad2) m2 c2):=hg1.cell b1 (by simp);have HB1:=aj hb1;have hs1:=hb1.size;clear hgr hb1 hg1
 go_wp2_with fail
 refine wp_loop_rounds 3 ?_;rw[an1]
 go_wp2_with (at_builtin;refine al1 _ rfl _ _ 165 rfl w.heap.size 224 i0 _ 5 40 underlying165 hin hz0 hz1 hz2 rfl (by decide) (.slice p0 0 cap0) 0 [] rfl hrow0 ad1 m1 c1 n1 rfl (ah HL1) (ah HC1 _ (ah HB1)) ho1 (by unfold maxLen;omega) (by omega) hs1 ?_;intro v1 w2 hown1 hg2 hnil2 aaz;obtain⟨p1,cap1,hv1⟩:=mg hown1;subst hv1)
 have hb2:Below w.heap.size w w2:=(ah HB1).grown hg2 (ah HB1).size (λk e=>(hrow0.lt k e).1);have r1:w2.cell? ⟨B,1,none⟩=some (.slice (some ad2) m2 c2):=(hb2.cell (p:=⟨B,1,none⟩) hBl).trans b1;have HB2:=aj hb2;have hs2:=hb2.size;rw[al5,ad9]at hown1;clear hb2 hg2 hnil2 aaz;rw[an1]
 go_wp2_with (at_builtin;refine al1 _ rfl _ _ 165 rfl w.heap.size 224 i0 _ 5 40 underlying165 hin hz0 hz1 hz2 rfl (by decide) (.slice p1 m1 cap1) m1 n1 rfl hown1 ad2 m2 c2 n2 rfl (ah HL2) (ah HC2 _ (ah HB2)) ho2 (by unfold maxLen;omega) (by omega) hs2 ?_;intro v2 w3 hown2 hg3 hnil3 TN;obtain⟨p2,cap2,hv2⟩:=mg hown2;subst hv2)
 have hb3:Below w.heap.size w w3:=(ah HB2).grown hg3 (ah HB2).size (λk e=>(hown1.lt k e).1);have HB3:=aj hb3;have HO2:=aj hown2;clear hb3 hg3 hnil3 TN hown2;rw[an1]
 go_wp2_with fail
 go_ret
 exact⟨_,rfl,ah HO2,ah HB3⟩
theorem IY(n:Nat)(X:Nat)(w:World)(hX:w.cell? ⟨X,0,none⟩=some (.slice none 0 0)) :
  nZ Fence.wide n prog 171 #[.pointer (some ⟨X,0,none⟩)] [] (λ_ _=>True) w:=by
 intro l J Jx W hW hJ hJx hY h0;have hXW:W.cell? ⟨X,0,none⟩=some (.slice none 0 0):=(hW.cell (p:=⟨X,0,none⟩) (ac5 w _ hX)).trans hX;have hmm:=λz=>dY (P:=prog) underlying77 .i64 z W;have hJ1:J 0 (W.alloc (.map #[] 0)):=hJ 0 W _ none h0 (ac1 _ _ none) (λr e=>by cases e);have hX1:(W.alloc (.map #[] 0)).cell? ⟨X,0,none⟩=some (.slice none 0 0):=(ac1 _ _ none).cell hXW (by simp);refine ai8 func171 rfl trivial ?_ rfl;simp only[ntmps171,ad3,ac9,ae1,Nat.reduceAdd,Nat.reduceSub,ac7,ac6,ad5,af0,ad9,ad8]
 gi_wp2
 obtain⟨W1,hW1⟩:∃W1,W.alloc (.map #[] 0)=W1:=⟨_,rfl⟩;rw[hW1]at hJ1 hX1 ⊢;clear hmm hW1
 gi_wp2
 gi_loopw [13] (λi wr=>i=.int .i64 0/\J 0 wr) (λ_ _=>0)
 case atStart=>exact⟨rfl,hJ1⟩
 case round=>
  obtain⟨rfl,hJr⟩:=hrel
  gi_wp2
  go_end0
  exact⟨⟨_,rfl⟩,Or.inl hJr⟩
theorem NH(w:World):Calls prog 83 #[.slice none 0 0,.slice none 0 0] w λe w'=>e=.returned (.bool true)/\Below w.heap.size w w':=by
 refine(af9 (n:=5)).1 ?_;refine ai3 func83 rfl trivial ?_ rfl;simp only[ntmps83,ad3,ac9,ae1,Nat.reduceAdd,Nat.reduceSub,ac7,ac6,ad5,af0,ad9,ad8]
 gi_wp2
 obtain⟨wr,hwr⟩:∃wr,(w.alloc (.cells #[.slice none 0 0] 103)).alloc (.cells #[.bool false] 4)=wr:=⟨_,rfl⟩;have hgr:w.grownBy wr none:=by rw[<-hwr];exact(ac1 _ _ none).trans (ac1 _ _ none)
 have hbr:Below w.heap.size w wr:=⟨hgr.os,hgr.tape,hgr.output,hgr.size,λj hj=>hgr.block j hj (by simp)⟩;have hx2:wr.cell? ⟨w.heap.size+1,0,none⟩=some (.bool false):=by rw[<-hwr];simp[go_sem]
 have hf2:wr.frozen? ⟨w.heap.size+1,0,none⟩=false:=by rw[<-hwr];simp[go_sem]
 have hsr:w.heap.size+2<=wr.heap.size:=by rw[<-hwr];simp
 rw[hwr];clear hwr hgr;refine⟨trivial,(af9.2 (zN none 0 0 wr)).mono ?_⟩;rintro e w2 ⟨rfl,rfl⟩
 gi_wp2
 obtain⟨w2,hw2⟩:∃w2,wr.alloc (.cells #[.slice none 0 0] 51)=w2:=⟨_,rfl⟩;have hg2:wr.grownBy w2 none:=by rw[<-hw2];exact ac1 _ _ none
 have hX2:w2.cell? ⟨wr.heap.size,0,none⟩=some (.slice none 0 0):=by rw[<-hw2];simp[go_sem]
 have hseq:=IY 4 wr.heap.size w2 hX2;have hI0:w2.cell? ⟨w.heap.size+1,0,none⟩=some (.bool false)/\w2.frozen? ⟨w.heap.size+1,0,none⟩=false/\Below w.heap.size w w2:=⟨hg2.cell hx2 (by simp),(ah5 (hg2.block (w.heap.size+1) (by omega) (by simp))).trans hf2,hbr.grown hg2 hbr.size (λk e=>by cases e)⟩;have hbw2:w.heap.size+2<=w2.heap.size:=ae4 hsr hg2.size;rw[hw2];clear hw2 hX2 hg2 hx2 hf2 hbr;have hown:OwnFrom w2.heap.size (fun(_:Nat) W=>W.cell? ⟨w.heap.size+1,0,none⟩=some (.bool false)/\W.frozen? ⟨w.heap.size+1,0,none⟩=false/\Below w.heap.size w W):=λk W W' row h hg hr=>by
  have hr':∀r,row=some r->∃o:Obj,W.heap[r]?=some o/\o.isCells=false:=λr e=>(hr r e).2;exact⟨bF h.1 hg hr',(kY h.1 hg hr').trans h.2.1,h.2.2.grown hg h.2.2.size (λk e=>by have:=(hr k e).1;omega)⟩
 have rD:OwnFrom w2.heap.size (fun(_:Unit) (_:World)=>False):=λk W W' row h hg hr=>h;refine dW rfl (by omega) rfl trivial (λ_ _=>by simp[go_sem]) hseq (λ_ _=>trivial) (λ_ _ _ _ _ _ _ _=>trivial) (af5 _ _) ?_ _ (λ_=>False) hown rD hI0 (λ_ _ _=>False) ?own ?assign ?body ?done ?stop
 ·intro k hk;simp at hk
 case own=>exact λk a' u W W' row h _ _=>h
 case assign=>intro l k hk;simp at hk
 case body=>intro l k a' W hk;simp at hk
 case done=>
  rintro D W hD ⟨hx2,hf2,hb⟩ hdef
  gi_wp2
  have yO:(W.setCell ⟨w.heap.size+1,0,none⟩ (.bool true)).heap[D]?=some (.deferred (some [])):=(ae3 _ _ _ _ (by show D≠w.heap.size+1;omega)).trans hdef;have hxs:(W.setCell ⟨w.heap.size+1,0,none⟩ (.bool true)).cell? ⟨w.heap.size+1,0,none⟩=some (.bool true):=dJ _ hx2;have hgp:=ak2 (W.setCell ⟨w.heap.size+1,0,none⟩ (.bool true)) D (.deferred none);have hx3:=hgp.cell hxs (by simp;omega);refine⟨by simp,.inl ⟨_,_,rfl,ai9 yO,?_⟩⟩;refine⟨.bool true,by simp[results,results83,go_sem,hx3],rfl,?_⟩;exact(hb.setCell (p:=⟨w.heap.size+1,0,none⟩) (by show w.heap.size<=w.heap.size+1;omega) _).grown hgp (hb.setCell (p:=⟨w.heap.size+1,0,none⟩) (by show w.heap.size<=w.heap.size+1;omega) _).size (λk e=>by cases e;omega)
 case stop=>exact λD W hD hI hdef=>hI.elim
def wM(f':Nat->Nat)(cs:List (Int×Nat))(ss:List jL):List (Int×Nat):=(ss.filter λs=>decide (s.2.2.1≠61)).map λs=>(s.2.2.1,f' (cs.getD s.2.2.2.1 (0,0)).2)
def xO(ss:List jL):List Bool:=(ss.filter λs=>decide (s.2.2.1≠61)).map λs=>s.2.1
theorem QY{f':Nat->Nat}{cs:List (Int×Nat)}{ss:List jL}{k:Nat}(hk:k<ss.length):wM f' cs (ss.take (k+1))=wM f' cs (ss.take k)++if ss[k].2.2.1=61 then []else [(ss[k].2.2.1,f' (cs.getD ss[k].2.2.2.1 (0,0)).2)]:=by
 unfold wM;rw[ag5,ac3 hk,am3,ak0]
 congr 1
 show([ss[k]].filter _).map _=_
 rw[List.filter_cons];by_cases e:ss[k].2.2.1=61<;>simp[e]
theorem QX{ss:List jL}{k:Nat}(hk:k<ss.length):xO (ss.take (k+1))=xO (ss.take k)++if ss[k].2.2.1=61 then []else [ss[k].2.1]:=by
 unfold xO;rw[ag5,ac3 hk,am3,ak0]
 congr 1
 show([ss[k]].filter _).map _=_
 rw[List.filter_cons];by_cases e:ss[k].2.2.1=61<;>simp[e]
theorem Ul(f':Nat->Nat)(cs:List (Int×Nat))(ss:List jL):(wM f' cs ss).length<=ss.length:=by
 unfold wM;rw[aj7];exact List.length_filter_le _ _
theorem Uk(f':Nat->Nat)(cs:List (Int×Nat))(ss:List jL):(xO ss).length=(wM f' cs ss).length:=by
 unfold wM xO;simp
theorem QW{f':Nat->Nat}{cs:List (Int×Nat)}{ss:List jL}:cb f' cs (ss.map dF)↔(∀s∈ss,s.2.2.1=61->s.2.1=false->f' s.2.2.2.1≠f' s.2.2.2.2)/\(∀p∈bg (wM f' cs ss) (wM f' cs ss).length,(xO ss).getD p.1 false=(xO ss).getD p.2 false):=by
 have hA:=BN (wM f' cs ss) (λi j=>(xO ss).getD i false=(xO ss).getD j false) (λ_=>rfl) (λ_ _ e=>e.symm) (λ_ _ _ e1 e2=>e1.trans e2);rw[hA];unfold cb;refine and_congr ?_ ?_
 ·constructor
  ·intro h s hs h1 h2;exact h (dF s) (ae8.2 ⟨s,hs,rfl⟩) h1 h2
  ·intro h l hl h1 h2;obtain⟨s,hs,rfl⟩:=ae8.1 hl;exact h s hs h1 h2
 ·unfold wM xO;obtain⟨L,hL⟩:∃L,L=ss.filter λs=>decide (s.2.2.1≠61):=⟨_,rfl⟩;have hm:∀s,s∈L↔s∈ss/\s.2.2.1≠61:=λs=>by rw[hL,ah3];simp
  rw[<-hL];constructor
  ·intro h i j hi hj e;simp only[aj7]at hi hj;simp only[ak3,ac3 hi,ac3 hj,ap0,ai0,ao9]at e;have h1:=(hm L[i]).1 (ac4 hi);have h2:=(hm L[j]).1 (ac4 hj);have:=h (dF L[i]) (ae8.2 ⟨_,h1.1,rfl⟩) (dF L[j]) (ae8.2 ⟨_,h2.1,rfl⟩) h1.2 h2.2 e.1 e.2;rw[aG (by simpa using hi),aG (by simpa using hj)];simpa[dF]using this
  ·intro h l hl m hm' h61 Ii hlet e;obtain⟨s,hs,rfl⟩:=ae8.1 hl;obtain⟨t,ht,rfl⟩:=ae8.1 hm';obtain⟨i,hi,e1⟩:=ah1 ((hm s).2 ⟨hs,h61⟩);obtain⟨j,hj,e2⟩:=ah1 ((hm t).2 ⟨ht,Ii⟩);have:=h i j (by simpa using hi) (by simpa using hj) (by
    simp only[ak3,ac3 hi,ac3 hj,ap0,e1,e2]
    congr 1
    exact Prod.ext hlet e)
   rw[aG (by simpa using hi),aG (by simpa using hj)]at this;simpa[e1,e2,dF]using this
structure RN(w:World)(b n:Nat)(f':Nat->Nat)(fo:Array Value)(C:List (Int×Nat))(H:List Bool)(v6 v7:Value)(W:World):Prop where
 j:∃c,gU W b f' n c
 lo:w.heap.size<=b
 x0:W.heap[w.heap.size]?=some (.cells fo 54 (0,0))
 rc:W.ownsRow w.heap.size 90 2 v6 C.length (C.flatMap lX)
 rh:W.ownsRow w.heap.size 4 1 v7 H.length (H.map Value.bool)
 nc:v6=.slice none 0 0↔C=[]
 nh:v7=.slice none 0 0↔H=[]
 below:Below w.heap.size w W
theorem mO{W:World}{base e size n:Nat}{v:Value}{xs:List Value}(h:W.ownsRow base e size v n xs):∀k,v.ownBlock=some k->base<=k/\∃cur:Array Value,W.heap[k]?=some (.cells cur e (0,0)):=by
 intro k hk;rcases h.2 with⟨rfl,_⟩|⟨g,cap,cur,rfl,hb,hgb,_⟩
 ·cases hk
 ·cases hk;exact⟨hb,cur,hgb⟩
theorem RN.grow{w:World}{b n:Nat}{f':Nat->Nat}{fo:Array Value}{C:List (Int×Nat)}{H:List Bool}{v6 v7:Value}{W W':World}(h:RN w b n f' fo C H v6 v7 W)(hg:W.grownBy W' none):RN w b n f' fo C H v6 v7 W':=by
 obtain⟨c,h1⟩:=h.j;exact⟨⟨c,h1.kept (hg.block b h1.lt (by simp))⟩,h.lo,(hg.block _ (ac0.1 h.x0).1 (by simp)).trans h.x0,h.rc.kept hg (Classical.em _),h.rh.kept hg (Classical.em _),h.nc,h.nh,h.below.grown hg h.below.size (λk e=>by cases e)⟩
theorem RN.abo{w:World}{b n:Nat}{f':Nat->Nat}{fo:Array Value}{C:List (Int×Nat)}{H:List Bool}{v6 v6' v7:Value}{W W':World}{x:Int×Nat}(h:RN w b n f' fo C H v6 v7 W)(hg:W.grownBy W' v6.ownBlock)(hr:W'.ownsRow w.heap.size 90 2 v6' (C.length+1) (C.flatMap lX++lX x))(hn:v6'≠.slice none 0 0):RN w b n f' fo (C++[x]) H v6' v7 W':=by
 obtain⟨c,h1⟩:=h.j;have hb:=mO h.rc;have keep:∀(j:Nat) (o:Obj),W.heap[j]?=some o->(∀cur x,o≠Obj.cells cur 90 x)->W'.heap[j]?=some o:=λj o hj hc=>(hg.block j (ac0.1 hj).1 (λe=>by
  obtain⟨_,cur,hcur⟩:=hb j e.symm;rw[hj]at hcur;cases hcur;exact hc _ _ rfl)).trans hj
 obtain⟨o,ho,hoc⟩:=h1.XO;refine⟨⟨c,h1.kept ((keep b o ho (λcur x e=>hoc _ _ _ e)).trans ho.symm)⟩,h.lo,keep _ _ h.x0 (λcur x e=>by simp at e),?_,h.rh.kept hg ?_,?_,h.nh,h.below.grown hg h.below.size (λk e=>(hb k e).1)⟩
 ·rw[ae9,List.flatMap_append];simpa using hr
 ·by_cases e:v7.ownBlock=none
  ·exact Or.inl e
  ·refine Or.inr (λe2=>?_);cases e3:v7.ownBlock with
   |none=>exact e e3
   |some k=>
    obtain⟨_,cur,h2⟩:=mO h.rh k e3;obtain⟨_,cur',h3⟩:=hb k (by rw[<-e2,e3]);rw[h2]at h3;simp at h3
 ·constructor
  ·intro e;exact absurd e hn
  ·intro e;simp at e
theorem RN.appH{w:World}{b n:Nat}{f':Nat->Nat}{fo:Array Value}{C:List (Int×Nat)}{H:List Bool}{v6 v7 v7':Value}{W W':World}{x:Bool}(h:RN w b n f' fo C H v6 v7 W)(hg:W.grownBy W' v7.ownBlock)(hr:W'.ownsRow w.heap.size 4 1 v7' (H.length+1) (H.map Value.bool++[Value.bool x]))(hn:v7'≠.slice none 0 0):RN w b n f' fo C (H++[x]) v6 v7' W':=by
 obtain⟨c,h1⟩:=h.j;have hb:=mO h.rh;have keep:∀(j:Nat) (o:Obj),W.heap[j]?=some o->(∀cur x,o≠Obj.cells cur 4 x)->W'.heap[j]?=some o:=λj o hj hc=>(hg.block j (ac0.1 hj).1 (λe=>by
  obtain⟨_,cur,hcur⟩:=hb j e.symm;rw[hj]at hcur;cases hcur;exact hc _ _ rfl)).trans hj
 obtain⟨o,ho,hoc⟩:=h1.XO;refine⟨⟨c,h1.kept ((keep b o ho (λcur x e=>hoc _ _ _ e)).trans ho.symm)⟩,h.lo,keep _ _ h.x0 (λcur x e=>by simp at e),h.rc.kept hg ?_,?_,h.nc,?_,h.below.grown hg h.below.size (λk e=>(hb k e).1)⟩
 ·by_cases e:v6.ownBlock=none
  ·exact Or.inl e
  ·refine Or.inr (λe2=>?_);cases e3:v6.ownBlock with
   |none=>exact e e3
   |some k=>
    obtain⟨_,cur,h2⟩:=mO h.rc k e3;obtain⟨_,cur',h3⟩:=hb k (by rw[<-e2,e3]);rw[h2]at h3;simp at h3
 ·rw[ae9,ak0];simpa using hr
 ·constructor
  ·intro e;exact absurd e hn
  ·intro e;simp at e
end Go.Proofs.YthcppbmkacbbiaaGreat
