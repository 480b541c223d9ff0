import Derived.Test.YthcppbmkacbbiaaGreatXBN
import Derived.Test.YthcppbmkacbbiaaGreatRows
import Derived.OpenShut
import Derived.ShutString
import Derived.ChangeOld
import Derived.Lib.SmallJoins
import Derived.Deep.Slices
set_option linter.unusedSimpArgs false
set_option maxHeartbeats 2000000
set_option maxRecDepth 100000
namespace Go.Proofs.YthcppbmkacbbiaaGreat
open Go.Proofs.Tryz
section
open Sat (View Rule je bG)
open aB (Key put lD dR jn au aO dF fA isAtom)
theorem zf{nt:Nat}{cs:List (Int×Nat)}{ps:List Key}(hcs:∀x∈cs,(x.1=80\/x.1=81)/\x.2<nt){q:Key}(h:q∈jr nt cs ps)(h61:q.1=61):q=(61,0,0)\/(q.2.1<q.2.2/\q.2.2<nt):=by
 unfold jr at h;rcases ae6.1 h with h|h
 ·rcases ae6.1 h with h|h
  ·unfold kV at h;rcases ag1.1 h with h|h
   ·exact Or.inl h
   ·obtain⟨y,hy,h⟩:=aj6.1 h;obtain⟨x,hx,rfl⟩:=ad9.1 h;exact Or.inr ⟨ah2.1 hx,ah2.1 hy⟩
  ·unfold ng at h;obtain⟨c,hc,rfl⟩:=ad9.1 h;have hc:=ah2.1 hc;simp only[aG hc]at h61;have:=(hcs _ (ab5 hc)).1;omega
 ·unfold sO at h;have:=(ag5.1 h).2;rw[h61]at this;simp[au]at this
theorem zl{nt:Nat}{cs:List (Int×Nat)}{ps:List Key}{q:Key}(h:q∈jr nt cs ps)(h8:q.1=80\/q.1=81):∃h:q.2.1<cs.length,q=(cs[q.2.1].1,q.2.1,0):=by
 unfold jr at h;rcases ae6.1 h with h|h
 ·rcases ae6.1 h with h|h
  ·exfalso;unfold kV at h;rcases ag1.1 h with h|h
   ·rw[h]at h8;simp at h8
   ·obtain⟨y,hy,h⟩:=aj6.1 h;obtain⟨x,hx,rfl⟩:=ad9.1 h;simp at h8
  ·unfold ng at h;obtain⟨c,hc,rfl⟩:=ad9.1 h;have hc:=ah2.1 hc;exact⟨hc,by simp only[aG hc]⟩
 ·exfalso;unfold sO at h;have:=(ag5.1 h).2;rcases h8 with e|e<;>(rw[e]at this;simp[au]at this)
section
variable {ts:List Key} {cs:List (Int×Nat)} {ps Us:List Key} {aJ ak:List Rule} {τ:List Tr}
theorem JJ(hi:aO ts.length cs.length ps)(hk:fA cs ps)(h0:0<ps.length)(hn:0<ts.length)
 (ht:∀i (hi:i<ts.length),ts[i].2.1<ts.length/\ts[i].2.2<ts.length)(hcs:∀x∈cs,(x.1=80\/x.1=81)/\x.2<ts.length)
 (hP:jQ Us aJ (zA ts cs ps))(hc:∀p∈Us,p∈jr ts.length cs ps)(hd:Sat.Done ak (bel τ))(hs:∀r∈aJ,r∈ak)(hall:∀x,x<Us.length->kT τ x=true)(hlt:∀q∈τ,q.1<Us.length) :
  Aa (aW ((eU Us τ).map dB)) ts cs ps (kJ (eU Us τ) cs.length):=by
 have hkp:=y5 hd hs hP.lp.rg.lt hall;have hH:Hold (Q7 Us τ) (zA ts cs ps):=(hP.lp.sem Us (ah5 _) (IC τ)).1 hkp;have hE:=hH;unfold zA at hE;rw[dY,dY,dY]at hE;obtain⟨e1,e2,e3⟩:=Y0 hE.1.1.2;have hnd:=hP.lp.nodup;have Xw:isAtom 61=true:=by decide
 refine FQ hi hk h0 ht hcs hH (λa b ha hb=>⟨λh=>?_,λh=>?_⟩) (λc hc'=>?_)
 ·have hR:WU (λa b=>a=b\/(a<ts.length/\b<ts.length/\Q7 Us τ (fZ (bH a b))=true)):=by
   refine⟨λa=>Or.inl rfl,λa b h=>?_,λa b c h k=>?_⟩
   ·rcases h with h|⟨h1,h2,h3⟩
    ·exact Or.inl h.symm
    ·exact Or.inr ⟨h2,h1,e2 _ _ h3⟩
   ·rcases h with rfl|⟨h1,h2,h3⟩
    ·exact k
    ·rcases k with rfl|⟨k1,k2,k3⟩
     ·exact Or.inr ⟨h1,h2,h3⟩
     ·exact Or.inr ⟨h1,k2,e3 _ _ _ h1 h2 k2 h3 k3⟩
  have hpm:∀p∈eqs ((eU Us τ).map dB),p.1<ts.length/\p.2<ts.length/\(p.1=p.2\/(p.1<ts.length/\p.2<ts.length/\Q7 Us τ (fZ (bH p.1 p.2))=true)):=λp hp=>by
   obtain⟨s,hs1,hs2⟩:=ad9.1 (wY.1 hp);obtain⟨g1,g2,g3,g4⟩:=qW hnd hs1;have e4:s.2.2=(61,p):=am8 Prod.fst hs2;have e5:s.2.1=true:=am8 Prod.snd hs2;rw[e4]at g1 g3;rw[e5]at g3;rcases zf hcs (hc _ g1) rfl with h|⟨h,h'⟩
   ·have hp0:p=(0,0):=am8 Prod.snd h;subst hp0;exact⟨hn,hn,Or.inl rfl⟩
   ·simp only at h h';refine⟨by omega,h',Or.inr ⟨by omega,h',?_⟩⟩;have:fZ (bH p.1 p.2)=(61,p):=oI h;rw[this];exact g3.symm
  rcases BL hR (n:=ts.length) (f:=id) hpm (λx y _ _ e=>Or.inl e) a b ha hb h with e|⟨_,_,e⟩
  ·subst e;exact e1 a
  ·exact e
 ·by_cases e:a=b
  ·subst e;rfl
  ·have hm:=IW hlt h;have key:∀x y,fZ (bH a b)=(61,x,y)->aW ((eU Us τ).map dB) x=aW ((eU Us τ).map dB) y:=λx y e2=>by
    rw[e2]at hm h;have mZ:=Bq (τ:=τ) hm Xw;rw[h]at mZ;have:=yA (f:=id) (wY.2 (ad9.2 ⟨_,mZ,rfl⟩:((61,(x,y)),true)∈(eU Us τ).map dB));exact this
   by_cases hab:a<b
   ·exact key a b (oI hab)
   ·exact(key b a (rW (by omega))).symm
 ·refine ES hc' (λs hs1 h61 hsc=>?_) ?_
  ·obtain⟨g1,g2,g3,g4⟩:=qW hnd hs1;have h8:s.2.2.1=80\/s.2.2.1=81:=by
    simp only[isAtom,ai0]at g2;omega
   obtain⟨q1,q2⟩:=zl (hc _ g1) h8;rw[g3]
   congr 1
   rw[q2];simp only[hsc]
  ·by_cases hm:(cs[c].1,c,0)∈Us
   ·have h8:=(hcs _ (ab5 hc')).1;refine Or.inr ⟨_,Bq hm (by simp only[isAtom,ai0];omega),by show cs[c].1≠61;omega,rfl⟩
   ·left;cases hv:Q7 Us τ (cs[c].1,c,0)
    ·rfl
    ·exact absurd (IW hlt hv) hm
theorem EO{v:Key->Bool}{L:List (List aT)}(hP:jQ Us aJ L)(h:Hold v L):∀r∈aJ,Sat.keeps (λx=>v (Us.getD x (0,0,0))) r:=by
 refine(hP.lp.sem Us (ah5 _) (λx=>v (Us.getD x (0,0,0)))).2 (λc hc=>?_);obtain⟨l,hl,h1⟩:=h c hc;refine⟨l,hl,?_⟩;unfold lv at h1 ⊢;have hm:=ai2.2 (hP.mem c hc l hl);simp only;rw[aG hm,af5 hm];exact h1
theorem JH(hi:aO ts.length cs.length ps)(h0:0<ps.length)(hn:0<ts.length)
 (ht:∀i (hi:i<ts.length),ts[i].2.1<ts.length/\ts[i].2.2<ts.length)(hcs:∀x∈cs,(x.1=80\/x.1=81)/\x.2<ts.length)
 (hP:jQ Us aJ (zA ts cs ps))(hno:∀α:Nat->Bool,True->¬∀r∈aJ,Sat.keeps α r):¬∃f hl,hl.length=cs.length/\Aa f ts cs ps hl:=by
 rintro⟨f,hl,_,hm⟩;exact hno _ trivial (EO hP (Gy hi h0 hn ht hcs hm))
end
def Zd(ts:List Key)(cs:List (Int×Nat))(Us:List Key)(α:Nat->Bool):Prop:=
 ∃g hl,wE g ts/\Du g cs hl/\∀p∈Us,(p.1=61->(g p.2.1=g p.2.2↔α (Us.idxOf p)=true))/\(p.1=80\/p.1=81->hl.getD p.2.1 false=α (Us.idxOf p))
def Gw(s:jB):View:=(s.1,!s.2.1)
theorem vX{ts:List Key}{f f' f'':Nat->Nat}(h':Closed ts f f')(h'':Closed ts f f''){a b:Nat}(ha:a<ts.length)(hb:b<ts.length)(h:f' a=f' b):f'' a=f'' b:=
 h'.least (λa b=>f'' a=f'' b) (CJ f'') ((iF f'' ts).1 h''.CZ) (λa b _ _ e=>h''.Xr a b e) a b ha hb h
theorem MR{ts:List Key}{cs:List (Int×Nat)}{said:List aT}{f f' f'':Nat->Nat}(hs:nG ts cs said)(hct:∀x∈cs,(x.1=80\/x.1=81)/\x.2<ts.length)(h':Closed ts f f')(h'':Closed ts f f'')(h:cb f' cs said):cb f'' cs said:=by
 refine⟨λl hl h61 hf e=>?_,λl hl m hm h61 Hz hlet e=>?_⟩
 ·rcases hs l hl with⟨_,q1,q2⟩|⟨q,_⟩
  ·exact h.1 l hl h61 hf (vX h'' h' q1 q2 e)
  ·omega
 ·rcases hs l hl with⟨q,_⟩|⟨_,p1,p2⟩
  ·exact absurd q h61
  ·rcases hs m hm with⟨q,_⟩|⟨_,r1,r2⟩
   ·exact absurd q Hz
   ·refine h.2 l hl m hm h61 Hz hlet ?_;rw[aG p1,aG r1]at e ⊢;exact vX h'' h' (hct _ (ab5 p1)).2 (hct _ (ab5 r1)).2 e
theorem Ri{f:Key->Key}{Us ps:List Key}:∀k,k<=ps.length->∀q∈ps.take k,q.1≠33->f q∈mM f Us ps k:=by
 intro k
 induction k with
 |zero=>intro _ q hq;simp at hq
 |succ k ih=>
  intro hk q hq h33;have hk':k<ps.length:=by omega
  rw[lF hk'];have e:ps.take (k+1)=ps.take k++[ps[k]]:=by rw[af6,ab4 hk'];rfl
  rw[e]at hq;rcases ae6.1 hq with hq|hq
  ·exact(CX _ _ _).mem (ih (by omega) q hq h33)
  ·rw[ad8.1 hq]at h33 ⊢;unfold CY;rw[ac2 h33];exact aS _ _
section
variable {ts:List Key} {cs:List (Int×Nat)} {ps Us:List Key} {aJ ak:List Rule} {τ:List Tr}
theorem ni(hi:aO ts.length cs.length ps)(hk:fA cs ps){q:Key}(hq:q∈nK ps)(ha:isAtom q.1=true):(q.1=61/\q.2.1<ts.length/\q.2.2<ts.length)\/((q.1=80\/q.1=81)/\(∃h:q.2.1<cs.length,cs[q.2.1].1=q.1)/\q.2.2=0):=by
 have hq:=(ag5.1 hq).1;obtain⟨i,hlt,e⟩:=ag2 hq;have ho:=hi.ok i hlt;rw[e]at ho;simp only[isAtom,ai0]at ha;rcases ho with⟨a,_⟩|⟨a,_⟩|⟨a,_,b⟩|⟨a,b,c⟩
 ·omega
 ·rcases ha with e|e|e<;>(rw[e]at a;simp[au]at a)
 ·exact Or.inr ⟨a,hk.letter q hq a,b⟩
 ·exact Or.inl ⟨a,b,c⟩
theorem xJ(hi:aO ts.length cs.length ps)(hk:fA cs ps)(hc:∀p∈Us,p∈nK ps)(hn:Us.Nodup){S:List jB}(hS:∀s∈S,s∈eU Us τ):nG ts cs (S.map dB):=by
 intro l hl;obtain⟨s,hs,rfl⟩:=ad9.1 hl;obtain⟨g1,g2,_,_⟩:=qW hn (hS s hs);rcases ni hi hk (hc _ g1) g2 with⟨a,b,c⟩|⟨a,b,c⟩
 ·exact Or.inl ⟨a,b,c⟩
 ·exact Or.inr ⟨a,b⟩
theorem KF(hi:aO ts.length cs.length ps)(hk:fA cs ps)(hc:∀p∈Us,p∈nK ps)(hn:Us.Nodup)(hct:∀x∈cs,(x.1=80\/x.1=81)/\x.2<ts.length){S:List jB}(hS:∀s∈S,s∈eU Us τ){f':Nat->Nat}(hf:Closed ts (aW (S.map dB)) f')(hnc:¬cb f' cs (S.map dB))
 (α:Nat->Bool)(hα:Zd ts cs Us α):Sat.keeps α (S.map Gw):=by
 refine af2 λhno=>hnc ?_;obtain⟨g,hl,hg,ha,hα⟩:=hα;refine QC (xJ hi hk hc hn hS) hf hct hg ha (λl hlm=>?_);obtain⟨s,hs,rfl⟩:=ad9.1 hlm;obtain⟨g1,g2,g3,g4⟩:=qW hn (hS s hs);have hv:α s.1=s.2.1:=by
  refine af2 λhne=>hno ⟨Gw s,ad9.2 ⟨s,hs,rfl⟩,?_⟩
  show α s.1=!s.2.1
  cases h1:α s.1<;>cases h2:s.2.1<;>simp_all
 obtain⟨q1,q2⟩:=hα _ g1;rw[<-g4,hv]at q1 q2;refine⟨q1,λh61=>q2 ?_⟩;have h61:s.2.2.1≠61:=h61;simp only[isAtom,ai0]at g2;omega
theorem KE(hall:∀x,x<Us.length->kT τ x=true){S:List jB}(hS:∀s∈S,s∈eU Us τ):∀u∈S.map Gw,u.1<Us.length/\Sat.wrong (bel τ) u:=by
 intro u hu;obtain⟨s,hs,rfl⟩:=ad9.1 hu;obtain⟨hl,_,h1,_⟩:=yj.1 (hS s hs);obtain⟨b,h2,h3⟩:=Ji (hall s.1 hl);refine⟨hl,b,h2,?_⟩
 show b.1≠!s.2.1
 rw[h3,h1];cases IC τ s.1<;>simp
theorem KH{S:List jB}(h:(S.map (·.1)).Nodup):(S.map Gw).Nodup:=by
 unfold List.Nodup at h ⊢;rw[List.pairwise_map]at h ⊢;refine h.imp (λhne e=>hne ?_);have h2:(Gw _).1=(Gw _).1:=am8 (λv:View=>v.1) e;exact h2
theorem V7(f:Nat->Nat)(cs:List (Int×Nat)):cb f cs []:=⟨λl hl=>(by cases hl),λl hl=>(by cases hl)⟩
theorem JF(hi:aO ts.length cs.length ps)(hk:fA cs ps)(h0:0<ps.length)(hct:∀x∈cs,(x.1=80\/x.1=81)/\x.2<ts.length)
 (hP:jQ Us aJ (lG id ps))(hc:∀p∈Us,p∈nK ps)(hU:∀q∈ps,q.1≠33->q∈Us)(hd:Sat.Done ak (bel τ))(hs:∀r∈aJ,r∈ak)(hall:∀x,x<Us.length->kT τ x=true)
 {f' f'':Nat->Nat}(hf':Closed ts (aW ((eU Us τ).map dB)) f')(hcb:cb f' cs ((eU Us τ).map dB))(Yh:Closed ts (aW ((eU Us τ).map dB)) f''):Aa f'' ts cs ps (kJ (eU Us τ) cs.length):=by
 have hkp:=y5 hd hs hP.lp.rg.lt hall;have hH:Hold (Q7 Us τ) (lG id ps):=(hP.lp.sem Us (ah5 _) (IC τ)).1 hkp;have hnd:=hP.lp.nodup;have mZ:=xJ (τ:=τ) hi hk hc hnd (λs hs=>hs);refine Fp hi hk h0 hct hH (λq hq ha=>?_) Yh (MR mZ hct hf' Yh hcb) (λc hc'=>?_)
 ·have hm:=hU q hq (by omega);exact ad9.2 ⟨_,Bq hm (by simp only[isAtom,ai0];exact ha),rfl⟩
 ·refine ES hc' (λs hs1 h61 hsc=>?_) ?_
  ·obtain⟨g1,g2,g3,g4⟩:=qW hnd hs1;rcases ni hi hk (hc _ g1) g2 with⟨a,_⟩|⟨a,⟨b1,b2⟩,c0⟩
   ·exact absurd a h61
   ·rw[g3]
    congr 1
    have:s.2.2=(s.2.2.1,s.2.2.2.1,s.2.2.2.2):=rfl;rw[this,c0,<-b2];simp only[hsc]
  ·have h8:=(hct _ (ab5 hc')).1;have hm:=hU _ (hk.has c hc') (by show cs[c].1≠33;omega);exact Or.inr ⟨_,Bq hm (by simp only[isAtom,ai0];omega),by show cs[c].1≠61;omega,rfl⟩
theorem JE(hi:aO ts.length cs.length ps)(hk:fA cs ps)(h0:0<ps.length)(hP:jQ Us aJ (lG id ps))(hc:∀p∈Us,p∈nK ps)(hno:∀α:Nat->Bool,Zd ts cs Us α->¬∀r∈aJ,Sat.keeps α r):¬∃f hl,hl.length=cs.length/\Aa f ts cs ps hl:=by
 rintro⟨f,hl,_,hm⟩;refine hno _ ⟨f,hl,hm.CZ,(kY f cs hl).1 hm.WT,λp hp=>?_⟩ (EO hP (Gx hi h0 hm));have hlt:=ai2.2 hp;rw[aG hlt,af5 hlt];refine⟨λh61=>?_,λh8=>(tK h8).symm⟩;rcases ni hi hk (hc _ hp) (by simp[isAtom,h61])with⟨_,b,c⟩|⟨a,_⟩
 ·rw[UF h61,gI f b,gI f c];simp only[ai0];omega
 ·omega
end
end
section
open Go.RowKit Go.Maps Go.WideMaps
open aB (Key put)
attribute [local go_sem] Oper.semAt_some
theorem IE(n:Nat)(X:Nat)(w:World)(hX:w.cell? ⟨X,0,none⟩=some (.slice none 0 0)) :
  nD Fence.wide n prog 171 #[.pointer (some ⟨X,0,none⟩)] [] (λ_ _=>True) w:=by
 intro l J Jx W hW hJ hJx hY h0;have hXW:W.cell? ⟨X,0,none⟩=some (.slice none 0 0):=(hW.cell (p:=⟨X,0,none⟩) (ab6 w _ hX)).trans hX;have hmm:=λz=>dX (P:=prog) underlying77 .i64 z W;have hJ1:J 0 (W.alloc (.map #[] 0)):=hJ 0 W _ none h0 (ab2 _ _ none) (λr e=>by cases e);have hX1:(W.alloc (.map #[] 0)).cell? ⟨X,0,none⟩=some (.slice none 0 0):=(ab2 _ _ none).cell hXW (by simp);refine ah7 func171 rfl trivial ?_ rfl;simp only[ntmps171,ac0,ab9,ac9,Nat.reduceAdd,Nat.reduceSub,ab8,ab7,ac3,ae1,ac6,ac5]
 gi_wp2
 obtain⟨W1,hW1⟩:∃W1,W.alloc (.map #[] 0)=W1:=⟨_,rfl⟩;rw[hW1]at hJ1 hX1 ⊢;clear hmm hW1
 gi_wp2
 gi_loopw [13] (λi wr=>i=.int .i64 0/\J 0 wr) (λ_ _=>0)
 case atStart=>exact⟨rfl,hJ1⟩
 case round=>
  obtain⟨rfl,hJr⟩:=hrel
  gi_wp2
  go_end0
  exact⟨⟨_,rfl⟩,Or.inl hJr⟩
theorem Nc(w:World):Calls prog 83 #[.slice none 0 0,.slice none 0 0] w λe w'=>e=.returned (.bool true)/\Below w.heap.size w w':=by
 refine(ae8 (n:=5)).1 ?_;refine ah0 func83 rfl trivial ?_ rfl;simp only[ntmps83,ac0,ab9,ac9,Nat.reduceAdd,Nat.reduceSub,ab8,ab7,ac3,ae1,ac6,ac5]
 gi_wp2
 obtain⟨wr,hwr⟩:∃wr,(w.alloc (.cells #[.slice none 0 0] 103)).alloc (.cells #[.bool false] 4)=wr:=⟨_,rfl⟩;have hgr:w.grownBy wr none:=by rw[<-hwr];exact(ab2 _ _ none).trans (ab2 _ _ none)
 have hbr:Below w.heap.size w wr:=⟨hgr.os,hgr.tape,hgr.output,hgr.size,λj hj=>hgr.block j hj (by simp)⟩;have hx2:wr.cell? ⟨w.heap.size+1,0,none⟩=some (.bool false):=by rw[<-hwr];simp[go_sem]
 have hf2:wr.frozen? ⟨w.heap.size+1,0,none⟩=false:=by rw[<-hwr];simp[go_sem]
 have hsr:w.heap.size+2<=wr.heap.size:=by rw[<-hwr];simp
 rw[hwr];clear hwr hgr;refine⟨trivial,(ae8.2 (zD none 0 0 wr)).mono ?_⟩;rintro e w2 ⟨rfl,rfl⟩
 gi_wp2
 obtain⟨w2,hw2⟩:∃w2,wr.alloc (.cells #[.slice none 0 0] 51)=w2:=⟨_,rfl⟩;have hg2:wr.grownBy w2 none:=by rw[<-hw2];exact ab2 _ _ none
 have hX2:w2.cell? ⟨wr.heap.size,0,none⟩=some (.slice none 0 0):=by rw[<-hw2];simp[go_sem]
 have hseq:=IE 4 wr.heap.size w2 hX2;have hI0:w2.cell? ⟨w.heap.size+1,0,none⟩=some (.bool false)/\w2.frozen? ⟨w.heap.size+1,0,none⟩=false/\Below w.heap.size w w2:=⟨hg2.cell hx2 (by simp),(ag6 (hg2.block (w.heap.size+1) (by omega) (by simp))).trans hf2,hbr.grown hg2 hbr.size (λk e=>by cases e)⟩;have hbw2:w.heap.size+2<=w2.heap.size:=ad6 hsr hg2.size;rw[hw2];clear hw2 hX2 hg2 hx2 hf2 hbr;have hown:OwnFrom w2.heap.size (fun(_:Nat) W=>W.cell? ⟨w.heap.size+1,0,none⟩=some (.bool false)/\W.frozen? ⟨w.heap.size+1,0,none⟩=false/\Below w.heap.size w W):=λk W W' row h hg hr=>by
  have hr':∀r,row=some r->∃o:Obj,W.heap[r]?=some o/\o.isCells=false:=λr e=>(hr r e).2;exact⟨bg h.1 hg hr',(kM h.1 hg hr').trans h.2.1,h.2.2.grown hg h.2.2.size (λk e=>by have:=(hr k e).1;omega)⟩
 have qM:OwnFrom w2.heap.size (fun(_:Unit) (_:World)=>False):=λk W W' row h hg hr=>h;refine dW rfl (by omega) rfl trivial (λ_ _=>by simp[go_sem]) hseq (λ_ _=>trivial) (λ_ _ _ _ _ _ _ _=>trivial) (af0 _ _) ?_ _ (λ_=>False) hown qM hI0 (λ_ _ _=>False) ?own ?assign ?body ?done ?stop
 ·intro k hk;simp at hk
 case own=>exact λk a' u W W' row h _ _=>h
 case assign=>intro l k hk;simp at hk
 case body=>intro l k a' W hk;simp at hk
 case done=>
  rintro D W hD ⟨hx2,hf2,hb⟩ hdef
  gi_wp2
  have yG:(W.setCell ⟨w.heap.size+1,0,none⟩ (.bool true)).heap[D]?=some (.deferred (some [])):=(ad5 _ _ _ _ (by show D≠w.heap.size+1;omega)).trans hdef;have hxs:(W.setCell ⟨w.heap.size+1,0,none⟩ (.bool true)).cell? ⟨w.heap.size+1,0,none⟩=some (.bool true):=dI _ hx2;have hgp:=ai9 (W.setCell ⟨w.heap.size+1,0,none⟩ (.bool true)) D (.deferred none);have hx3:=hgp.cell hxs (by simp;omega);refine⟨by simp,.inl ⟨_,_,rfl,ah8 yG,?_⟩⟩;refine⟨.bool true,by simp[results,results83,go_sem,hx3],rfl,?_⟩;exact(hb.setCell (p:=⟨w.heap.size+1,0,none⟩) (by show w.heap.size<=w.heap.size+1;omega) _).grown hgp (hb.setCell (p:=⟨w.heap.size+1,0,none⟩) (by show w.heap.size<=w.heap.size+1;omega) _).size (λk e=>by cases e;omega)
 case stop=>exact λD W hD hI hdef=>hI.elim
def wu(f':Nat->Nat)(cs:List (Int×Nat))(ss:List jB):List (Int×Nat):=(ss.filter λs=>decide (s.2.2.1≠61)).map λs=>(s.2.2.1,f' (cs.getD s.2.2.2.1 (0,0)).2)
def xB(ss:List jB):List Bool:=(ss.filter λs=>decide (s.2.2.1≠61)).map λs=>s.2.1
theorem Qz{f':Nat->Nat}{cs:List (Int×Nat)}{ss:List jB}{k:Nat}(hk:k<ss.length):wu f' cs (ss.take (k+1))=wu f' cs (ss.take k)++if ss[k].2.2.1=61 then []else [(ss[k].2.2.1,f' (cs.getD ss[k].2.2.2.1 (0,0)).2)]:=by
 unfold wu;rw[af6,ab4 hk,al0,ai5]
 congr 1
 show([ss[k]].filter _).map _=_
 rw[List.filter_cons];by_cases e:ss[k].2.2.1=61<;>simp[e]
theorem Qy{ss:List jB}{k:Nat}(hk:k<ss.length):xB (ss.take (k+1))=xB (ss.take k)++if ss[k].2.2.1=61 then []else [ss[k].2.1]:=by
 unfold xB;rw[af6,ab4 hk,al0,ai5]
 congr 1
 show([ss[k]].filter _).map _=_
 rw[List.filter_cons];by_cases e:ss[k].2.2.1=61<;>simp[e]
theorem TQ(f':Nat->Nat)(cs:List (Int×Nat))(ss:List jB):(wu f' cs ss).length<=ss.length:=by
 unfold wu;rw[ai6];exact List.length_filter_le _ _
theorem TP(f':Nat->Nat)(cs:List (Int×Nat))(ss:List jB):(xB ss).length=(wu f' cs ss).length:=by
 unfold wu xB;simp
theorem Qx{f':Nat->Nat}{cs:List (Int×Nat)}{ss:List jB}:cb f' cs (ss.map dB)↔(∀s∈ss,s.2.2.1=61->s.2.1=false->f' s.2.2.2.1≠f' s.2.2.2.2)/\(∀p∈aY (wu f' cs ss) (wu f' cs ss).length,(xB ss).getD p.1 false=(xB ss).getD p.2 false):=by
 have hA:=BF (wu f' cs ss) (λi j=>(xB ss).getD i false=(xB ss).getD j false) (λ_=>rfl) (λ_ _ e=>e.symm) (λ_ _ _ e1 e2=>e1.trans e2);rw[hA];unfold cb;refine and_congr ?_ ?_
 ·constructor
  ·intro h s hs h1 h2;exact h (dB s) (ad9.2 ⟨s,hs,rfl⟩) h1 h2
  ·intro h l hl h1 h2;obtain⟨s,hs,rfl⟩:=ad9.1 hl;exact h s hs h1 h2
 ·unfold wu xB;obtain⟨L,hL⟩:∃L,L=ss.filter λs=>decide (s.2.2.1≠61):=⟨_,rfl⟩;have hm:∀s,s∈L↔s∈ss/\s.2.2.1≠61:=λs=>by rw[hL,ag5];simp
  rw[<-hL];constructor
  ·intro h i j hi hj e;simp only[ai6]at hi hj;simp only[aj0,ab4 hi,ab4 hj,an3,ag8,an2]at e;have h1:=(hm L[i]).1 (ab5 hi);have h2:=(hm L[j]).1 (ab5 hj);have:=h (dB L[i]) (ad9.2 ⟨_,h1.1,rfl⟩) (dB L[j]) (ad9.2 ⟨_,h2.1,rfl⟩) h1.2 h2.2 e.1 e.2;rw[aG (by simpa using hi),aG (by simpa using hj)];simpa[dB]using this
  ·intro h l hl m hm' h61 Hz hlet e;obtain⟨s,hs,rfl⟩:=ad9.1 hl;obtain⟨t,ht,rfl⟩:=ad9.1 hm';obtain⟨i,hi,e1⟩:=ag2 ((hm s).2 ⟨hs,h61⟩);obtain⟨j,hj,e2⟩:=ag2 ((hm t).2 ⟨ht,Hz⟩);have:=h i j (by simpa using hi) (by simpa using hj) (by
    simp only[aj0,ab4 hi,ab4 hj,an3,e1,e2]
    congr 1
    exact Prod.ext hlet e)
   rw[aG (by simpa using hi),aG (by simpa using hj)]at this;simpa[e1,e2,dB]using this
structure QZ(w:World)(b n:Nat)(f':Nat->Nat)(fo:Array Value)(C:List (Int×Nat))(H:List Bool)(v6 v7:Value)(W:World):Prop where
 j:∃c,gJ W b f' n c
 lo:w.heap.size<=b
 x0:W.heap[w.heap.size]?=some (.cells fo 54 (0,0))
 rc:W.ownsRow w.heap.size 90 2 v6 C.length (C.flatMap lC)
 rh:W.ownsRow w.heap.size 4 1 v7 H.length (H.map Value.bool)
 nc:v6=.slice none 0 0↔C=[]
 nh:v7=.slice none 0 0↔H=[]
 below:Below w.heap.size w W
theorem lS{W:World}{base e size n:Nat}{v:Value}{xs:List Value}(h:W.ownsRow base e size v n xs):∀k,v.ownBlock=some k->base<=k/\∃cur:Array Value,W.heap[k]?=some (.cells cur e (0,0)):=by
 intro k hk;rcases h.2 with⟨rfl,_⟩|⟨g,cap,cur,rfl,hb,hgb,_⟩
 ·cases hk
 ·cases hk;exact⟨hb,cur,hgb⟩
theorem QZ.grow{w:World}{b n:Nat}{f':Nat->Nat}{fo:Array Value}{C:List (Int×Nat)}{H:List Bool}{v6 v7:Value}{W W':World}(h:QZ w b n f' fo C H v6 v7 W)(hg:W.grownBy W' none):QZ w b n f' fo C H v6 v7 W':=by
 obtain⟨c,h1⟩:=h.j;exact⟨⟨c,h1.kept (hg.block b h1.lt (by simp))⟩,h.lo,(hg.block _ (ab1.1 h.x0).1 (by simp)).trans h.x0,h.rc.kept hg (Classical.em _),h.rh.kept hg (Classical.em _),h.nc,h.nh,h.below.grown hg h.below.size (λk e=>by cases e)⟩
theorem QZ.aaN{w:World}{b n:Nat}{f':Nat->Nat}{fo:Array Value}{C:List (Int×Nat)}{H:List Bool}{v6 v6' v7:Value}{W W':World}{x:Int×Nat}(h:QZ w b n f' fo C H v6 v7 W)(hg:W.grownBy W' v6.ownBlock)(hr:W'.ownsRow w.heap.size 90 2 v6' (C.length+1) (C.flatMap lC++lC x))(hn:v6'≠.slice none 0 0):QZ w b n f' fo (C++[x]) H v6' v7 W':=by
 obtain⟨c,h1⟩:=h.j;have hb:=lS h.rc;have keep:∀(j:Nat) (o:Obj),W.heap[j]?=some o->(∀cur x,o≠Obj.cells cur 90 x)->W'.heap[j]?=some o:=λj o hj hc=>(hg.block j (ab1.1 hj).1 (λe=>by
  obtain⟨_,cur,hcur⟩:=hb j e.symm;rw[hj]at hcur;cases hcur;exact hc _ _ rfl)).trans hj
 obtain⟨o,ho,hoc⟩:=h1.Xl;refine⟨⟨c,h1.kept ((keep b o ho (λcur x e=>hoc _ _ _ e)).trans ho.symm)⟩,h.lo,keep _ _ h.x0 (λcur x e=>by simp at e),?_,h.rh.kept hg ?_,?_,h.nh,h.below.grown hg h.below.size (λk e=>(hb k e).1)⟩
 ·rw[ae0,List.flatMap_append];simpa using hr
 ·by_cases e:v7.ownBlock=none
  ·exact Or.inl e
  ·refine Or.inr (λe2=>?_);cases e3:v7.ownBlock with
   |none=>exact e e3
   |some k=>
    obtain⟨_,cur,h2⟩:=lS h.rh k e3;obtain⟨_,cur',h3⟩:=hb k (by rw[<-e2,e3]);rw[h2]at h3;simp at h3
 ·constructor
  ·intro e;exact absurd e hn
  ·intro e;simp at e
theorem QZ.appH{w:World}{b n:Nat}{f':Nat->Nat}{fo:Array Value}{C:List (Int×Nat)}{H:List Bool}{v6 v7 v7':Value}{W W':World}{x:Bool}(h:QZ w b n f' fo C H v6 v7 W)(hg:W.grownBy W' v7.ownBlock)(hr:W'.ownsRow w.heap.size 4 1 v7' (H.length+1) (H.map Value.bool++[Value.bool x]))(hn:v7'≠.slice none 0 0):QZ w b n f' fo C (H++[x]) v6 v7' W':=by
 obtain⟨c,h1⟩:=h.j;have hb:=lS h.rh;have keep:∀(j:Nat) (o:Obj),W.heap[j]?=some o->(∀cur x,o≠Obj.cells cur 4 x)->W'.heap[j]?=some o:=λj o hj hc=>(hg.block j (ab1.1 hj).1 (λe=>by
  obtain⟨_,cur,hcur⟩:=hb j e.symm;rw[hj]at hcur;cases hcur;exact hc _ _ rfl)).trans hj
 obtain⟨o,ho,hoc⟩:=h1.Xl;refine⟨⟨c,h1.kept ((keep b o ho (λcur x e=>hoc _ _ _ e)).trans ho.symm)⟩,h.lo,keep _ _ h.x0 (λcur x e=>by simp at e),h.rc.kept hg ?_,?_,h.nc,?_,h.below.grown hg h.below.size (λk e=>(hb k e).1)⟩
 ·by_cases e:v6.ownBlock=none
  ·exact Or.inl e
  ·refine Or.inr (λe2=>?_);cases e3:v6.ownBlock with
   |none=>exact e e3
   |some k=>
    obtain⟨_,cur,h2⟩:=lS h.rc k e3;obtain⟨_,cur',h3⟩:=hb k (by rw[<-e2,e3]);rw[h2]at h3;simp at h3
 ·rw[ae0,ai5];simpa using hr
 ·constructor
  ·intro e;exact absurd e hn
  ·intro e;simp at e
end
open Go.ChangeShapes Go.WideShapes Go.ChangeAt Go.RowKit
open Go.ChangeMaps (open_string shut_string)
theorem Zw:ownKnob prog.godebug=none:=by kernel_rfl
theorem yw:laidOutB prog=true:=by kernel_rfl
end Go.Proofs.YthcppbmkacbbiaaGreat
