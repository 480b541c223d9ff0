import Derived.Test.YthcppbmkacbbiaaGreatYBP
import Derived.Test.YthcppbmkacbbiaaGreatYBO
set_option linter.unusedSimpArgs false
set_option maxHeartbeats 1000000
set_option maxRecDepth 100000
namespace Go.Proofs.YthcppbmkacbbiaaGreat
open Go.Proofs.Tryz
section
open Sat (View Rule jl bH)
open aB (Key put mO dX jn au aT dM fH isAtom)
theorem zl{nt:Nat}{cs:List (Int×Nat)}{ps:List Key}(hcs:∀x∈cs,(x.1=80\/x.1=81)/\x.2<nt){q:Key}(h:q∈jH nt cs ps)(h61:q.1=61):q=(61,0,0)\/(q.2.1<q.2.2/\q.2.2<nt):=by
 unfold jH at h;rcases ae4.1 h with h|h
 ·rcases ae4.1 h with h|h
  ·unfold lC at h;rcases af4.1 h with h|h
   ·exact Or.inl h
   ·obtain⟨y,hy,h⟩:=aj0.1 h;obtain⟨x,hx,rfl⟩:=ad5.1 h;exact Or.inr ⟨ag8.1 hx,ag8.1 hy⟩
  ·unfold nI at h;obtain⟨c,hc,rfl⟩:=ad5.1 h;have hc:=ag8.1 hc;simp only[aG hc]at h61;have:=(hcs _ (ab2 hc)).1;omega
 ·unfold tC at h;have:=(ag0.1 h).2;rw[h61]at this;simp[au]at this
theorem zn{nt:Nat}{cs:List (Int×Nat)}{ps:List Key}{q:Key}(h:q∈jH nt cs ps)(h8:q.1=80\/q.1=81):∃h:q.2.1<cs.length,q=(cs[q.2.1].1,q.2.1,0):=by
 unfold jH at h;rcases ae4.1 h with h|h
 ·rcases ae4.1 h with h|h
  ·exfalso;unfold lC at h;rcases af4.1 h with h|h
   ·rw[h]at h8;simp at h8
   ·obtain⟨y,hy,h⟩:=aj0.1 h;obtain⟨x,hx,rfl⟩:=ad5.1 h;simp at h8
  ·unfold nI at h;obtain⟨c,hc,rfl⟩:=ad5.1 h;have hc:=ag8.1 hc;exact⟨hc,by simp only[aG hc]⟩
 ·exfalso;unfold tC at h;have:=(ag0.1 h).2;rcases h8 with e|e<;>(rw[e]at this;simp[au]at this)
section
variable {ts:List Key} {cs:List (Int×Nat)} {ps Us:List Key} {aJ ak:List Rule} {τ:List Tr}
theorem JQ(hi:aT ts.length cs.length ps)(hk:fH cs ps)(h0:0<ps.length)(hn:0<ts.length)
 (ht:∀i (hi:i<ts.length),ts[i].2.1<ts.length/\ts[i].2.2<ts.length)(hcs:∀x∈cs,(x.1=80\/x.1=81)/\x.2<ts.length)
 (hP:ku Us aJ (zA ts cs ps))(hc:∀p∈Us,p∈jH ts.length cs ps)(hd:Sat.Done ak (bel τ))(hs:∀r∈aJ,r∈ak)(hall:∀x,x<Us.length->kZ τ x=true)(hlt:∀q∈τ,q.1<Us.length) :
  Ah (aY ((fE Us τ).map dH)) ts cs ps (kQ (fE Us τ) cs.length):=by
 have hkp:=y9 hd hs hP.lp.rg.lt hall;have hH:Hold (Q7 Us τ) (zA ts cs ps):=(hP.lp.sem Us (ai5 _) (II τ)).1 hkp;have hE:=hH;unfold zA at hE;rw[eH,eH,eH]at hE;obtain⟨e1,e2,e3⟩:=Y0 hE.1.1.2;have hnd:=hP.lp.nodup;have Xy:isAtom 61=true:=by decide
 refine FV hi hk h0 ht hcs hH (λa b ha hb=>⟨λh=>?_,λh=>?_⟩) (λc hc'=>?_)
 ·have hR:WY (λa b=>a=b\/(a<ts.length/\b<ts.length/\Q7 Us τ (gy (bI a b))=true)):=by
   refine⟨λa=>Or.inl rfl,λa b h=>?_,λa b c h k=>?_⟩
   ·rcases h with h|⟨h1,h2,h3⟩
    ·exact Or.inl h.symm
    ·exact Or.inr ⟨h2,h1,e2 _ _ h3⟩
   ·rcases h with rfl|⟨h1,h2,h3⟩
    ·exact k
    ·rcases k with rfl|⟨k1,k2,k3⟩
     ·exact Or.inr ⟨h1,h2,h3⟩
     ·exact Or.inr ⟨h1,k2,e3 _ _ _ h1 h2 k2 h3 k3⟩
  have hpm:∀p∈eqs ((fE Us τ).map dH),p.1<ts.length/\p.2<ts.length/\(p.1=p.2\/(p.1<ts.length/\p.2<ts.length/\Q7 Us τ (gy (bI p.1 p.2))=true)):=λp hp=>by
   obtain⟨s,hs1,hs2⟩:=ad5.1 (xq.1 hp);obtain⟨g1,g2,g3,g4⟩:=qX hnd hs1;have e4:s.2.2=(61,p):=al2 Prod.fst hs2;have e5:s.2.1=true:=al2 Prod.snd hs2;rw[e4]at g1 g3;rw[e5]at g3;rcases zl hcs (hc _ g1) rfl with h|⟨h,h'⟩
   ·have hp0:p=(0,0):=al2 Prod.snd h;subst hp0;exact⟨hn,hn,Or.inl rfl⟩
   ·simp only at h h';refine⟨by omega,h',Or.inr ⟨by omega,h',?_⟩⟩;have:gy (bI p.1 p.2)=(61,p):=oM h;rw[this];exact g3.symm
  rcases Cb hR (n:=ts.length) (f:=id) hpm (λx y _ _ e=>Or.inl e) a b ha hb h with e|⟨_,_,e⟩
  ·subst e;exact e1 a
  ·exact e
 ·by_cases e:a=b
  ·subst e;rfl
  ·have hm:=IY hlt h;have key:∀x y,gy (bI a b)=(61,x,y)->aY ((fE Us τ).map dH) x=aY ((fE Us τ).map dH) y:=λx y e2=>by
    rw[e2]at hm h;have nD:=BH (τ:=τ) hm Xy;rw[h]at nD;have:=yG (f:=id) (xq.2 (ad5.2 ⟨_,nD,rfl⟩:((61,(x,y)),true)∈(fE Us τ).map dH));exact this
   by_cases hab:a<b
   ·exact key a b (oM hab)
   ·exact(key b a (rZ (by omega))).symm
 ·refine EX hc' (λs hs1 h61 hsc=>?_) ?_
  ·obtain⟨g1,g2,g3,g4⟩:=qX hnd hs1;have h8:s.2.2.1=80\/s.2.2.1=81:=by
    simp only[isAtom,ah3]at g2;omega
   obtain⟨q1,q2⟩:=zn (hc _ g1) h8;rw[g3]
   congr 1
   rw[q2];simp only[hsc]
  ·by_cases hm:(cs[c].1,c,0)∈Us
   ·have h8:=(hcs _ (ab2 hc')).1;refine Or.inr ⟨_,BH hm (by simp only[isAtom,ah3];omega),by show cs[c].1≠61;omega,rfl⟩
   ·left;cases hv:Q7 Us τ (cs[c].1,c,0)
    ·rfl
    ·exact absurd (IY hlt hv) hm
theorem ET{v:Key->Bool}{L:List (List aV)}(hP:ku Us aJ L)(h:Hold v L):∀r∈aJ,Sat.keeps (λx=>v (Us.getD x (0,0,0))) r:=by
 refine(hP.lp.sem Us (ai5 _) (λx=>v (Us.getD x (0,0,0)))).2 (λc hc=>?_);obtain⟨l,hl,h1⟩:=h c hc;refine⟨l,hl,?_⟩;unfold lv at h1 ⊢;have hm:=ai0.2 (hP.mem c hc l hl);simp only;rw[aG hm,af9 hm];exact h1
theorem JO(hi:aT ts.length cs.length ps)(h0:0<ps.length)(hn:0<ts.length)
 (ht:∀i (hi:i<ts.length),ts[i].2.1<ts.length/\ts[i].2.2<ts.length)(hcs:∀x∈cs,(x.1=80\/x.1=81)/\x.2<ts.length)
 (hP:ku Us aJ (zA ts cs ps))(hno:∀α:Nat->Bool,True->¬∀r∈aJ,Sat.keeps α r):¬∃f hl,hl.length=cs.length/\Ah f ts cs ps hl:=by
 rintro⟨f,hl,_,hm⟩;exact hno _ trivial (ET hP (GI hi h0 hn ht hcs hm))
end
def Zd(ts:List Key)(cs:List (Int×Nat))(Us:List Key)(α:Nat->Bool):Prop:=
 ∃g hl,wJ g ts/\Ui g cs hl/\∀p∈Us,(p.1=61->(g p.2.1=g p.2.2↔α (Us.idxOf p)=true))/\(p.1=80\/p.1=81->hl.getD p.2.1 false=α (Us.idxOf p))
def Gz(s:jO):View:=(s.1,!s.2.1)
theorem wE{ts:List Key}{f f' f'':Nat->Nat}(h':Closed ts f f')(h'':Closed ts f f''){a b:Nat}(ha:a<ts.length)(hb:b<ts.length)(h:f' a=f' b):f'' a=f'' b:=
 h'.least (λa b=>f'' a=f'' b) (CV f'') ((jZ f'' ts).1 h''.Fv) (λa b _ _ e=>h''.Xu a b e) a b ha hb h
theorem MS{ts:List Key}{cs:List (Int×Nat)}{said:List aV}{f f' f'':Nat->Nat}(hs:nN ts cs said)(hct:∀x∈cs,(x.1=80\/x.1=81)/\x.2<ts.length)(h':Closed ts f f')(h'':Closed ts f f'')(h:cb f' cs said):cb f'' cs said:=by
 refine⟨λl hl h61 hf e=>?_,λl hl m hm h61 H8 hlet e=>?_⟩
 ·rcases hs l hl with⟨_,q1,q2⟩|⟨q,_⟩
  ·exact h.1 l hl h61 hf (wE h'' h' q1 q2 e)
  ·omega
 ·rcases hs l hl with⟨q,_⟩|⟨_,p1,p2⟩
  ·exact absurd q h61
  ·rcases hs m hm with⟨q,_⟩|⟨_,r1,r2⟩
   ·exact absurd q H8
   ·refine h.2 l hl m hm h61 H8 hlet ?_;rw[aG p1,aG r1]at e ⊢;exact wE h'' h' (hct _ (ab2 p1)).2 (hct _ (ab2 r1)).2 e
theorem Rh{f:Key->Key}{Us ps:List Key}:∀k,k<=ps.length->∀q∈ps.take k,q.1≠33->f q∈mQ f Us ps k:=by
 intro k
 induction k with
 |zero=>intro _ q hq;simp at hq
 |succ k ih=>
  intro hk q hq h33;have hk':k<ps.length:=by omega
  rw[lN hk'];have e:ps.take (k+1)=ps.take k++[ps[k]]:=by rw[ae6,SI hk'];rfl
  rw[e]at hq;rcases ae4.1 hq with hq|hq
  ·exact(Di _ _ _).mem (ih (by omega) q hq h33)
  ·rw[ad4.1 hq]at h33 ⊢;unfold Dj;rw[ac5 h33];exact aU _ _
section
variable {ts:List Key} {cs:List (Int×Nat)} {ps Us:List Key} {aJ ak:List Rule} {τ:List Tr}
theorem nJ(hi:aT ts.length cs.length ps)(hk:fH cs ps){q:Key}(hq:q∈nS ps)(ha:isAtom q.1=true):(q.1=61/\q.2.1<ts.length/\q.2.2<ts.length)\/((q.1=80\/q.1=81)/\(∃h:q.2.1<cs.length,cs[q.2.1].1=q.1)/\q.2.2=0):=by
 have hq:=(ag0.1 hq).1;obtain⟨i,hlt,e⟩:=af7 hq;have ho:=hi.ok i hlt;rw[e]at ho;simp only[isAtom,ah3]at ha;rcases ho with⟨a,_⟩|⟨a,_⟩|⟨a,_,b⟩|⟨a,b,c⟩
 ·omega
 ·rcases ha with e|e|e<;>(rw[e]at a;simp[au]at a)
 ·exact Or.inr ⟨a,hk.letter q hq a,b⟩
 ·exact Or.inl ⟨a,b,c⟩
theorem xO(hi:aT ts.length cs.length ps)(hk:fH cs ps)(hc:∀p∈Us,p∈nS ps)(hn:Us.Nodup){S:List jO}(hS:∀s∈S,s∈fE Us τ):nN ts cs (S.map dH):=by
 intro l hl;obtain⟨s,hs,rfl⟩:=ad5.1 hl;obtain⟨g1,g2,_,_⟩:=qX hn (hS s hs);rcases nJ hi hk (hc _ g1) g2 with⟨a,b,c⟩|⟨a,b,c⟩
 ·exact Or.inl ⟨a,b,c⟩
 ·exact Or.inr ⟨a,b⟩
theorem KI(hi:aT ts.length cs.length ps)(hk:fH cs ps)(hc:∀p∈Us,p∈nS ps)(hn:Us.Nodup)(hct:∀x∈cs,(x.1=80\/x.1=81)/\x.2<ts.length){S:List jO}(hS:∀s∈S,s∈fE Us τ){f':Nat->Nat}(hf:Closed ts (aY (S.map dH)) f')(hnc:¬cb f' cs (S.map dH))
 (α:Nat->Bool)(hα:Zd ts cs Us α):Sat.keeps α (S.map Gz):=by
 refine ae9 λhno=>hnc ?_;obtain⟨g,hl,hg,ha,hα⟩:=hα;refine QD (xO hi hk hc hn hS) hf hct hg ha (λl hlm=>?_);obtain⟨s,hs,rfl⟩:=ad5.1 hlm;obtain⟨g1,g2,g3,g4⟩:=qX hn (hS s hs);have hv:α s.1=s.2.1:=by
  refine ae9 λhne=>hno ⟨Gz s,ad5.2 ⟨s,hs,rfl⟩,?_⟩
  show α s.1=!s.2.1
  cases h1:α s.1<;>cases h2:s.2.1<;>simp_all
 obtain⟨q1,q2⟩:=hα _ g1;rw[<-g4,hv]at q1 q2;refine⟨q1,λh61=>q2 ?_⟩;have h61:s.2.2.1≠61:=h61;simp only[isAtom,ah3]at g2;omega
theorem KH(hall:∀x,x<Us.length->kZ τ x=true){S:List jO}(hS:∀s∈S,s∈fE Us τ):∀u∈S.map Gz,u.1<Us.length/\Sat.wrong (bel τ) u:=by
 intro u hu;obtain⟨s,hs,rfl⟩:=ad5.1 hu;obtain⟨hl,_,h1,_⟩:=yC.1 (hS s hs);obtain⟨b,h2,h3⟩:=Jk (hall s.1 hl);refine⟨hl,b,h2,?_⟩
 show b.1≠!s.2.1
 rw[h3,h1];cases II τ s.1<;>simp
theorem KL{S:List jO}(h:(S.map (·.1)).Nodup):(S.map Gz).Nodup:=by
 unfold List.Nodup at h ⊢;rw[List.pairwise_map]at h ⊢;refine h.imp (λhne e=>hne ?_);have h2:(Gz _).1=(Gz _).1:=al2 (λv:View=>v.1) e;exact h2
theorem Wl(f:Nat->Nat)(cs:List (Int×Nat)):cb f cs []:=⟨λl hl=>(by cases hl),λl hl=>(by cases hl)⟩
theorem JM(hi:aT ts.length cs.length ps)(hk:fH cs ps)(h0:0<ps.length)(hct:∀x∈cs,(x.1=80\/x.1=81)/\x.2<ts.length)
 (hP:ku Us aJ (lQ id ps))(hc:∀p∈Us,p∈nS ps)(hU:∀q∈ps,q.1≠33->q∈Us)(hd:Sat.Done ak (bel τ))(hs:∀r∈aJ,r∈ak)(hall:∀x,x<Us.length->kZ τ x=true)
 {f' f'':Nat->Nat}(hf':Closed ts (aY ((fE Us τ).map dH)) f')(hcb:cb f' cs ((fE Us τ).map dH))(Yk:Closed ts (aY ((fE Us τ).map dH)) f''):Ah f'' ts cs ps (kQ (fE Us τ) cs.length):=by
 have hkp:=y9 hd hs hP.lp.rg.lt hall;have hH:Hold (Q7 Us τ) (lQ id ps):=(hP.lp.sem Us (ai5 _) (II τ)).1 hkp;have hnd:=hP.lp.nodup;have nD:=xO (τ:=τ) hi hk hc hnd (λs hs=>hs);refine FB hi hk h0 hct hH (λq hq ha=>?_) Yk (MS nD hct hf' Yk hcb) (λc hc'=>?_)
 ·have hm:=hU q hq (by omega);exact ad5.2 ⟨_,BH hm (by simp only[isAtom,ah3];exact ha),rfl⟩
 ·refine EX hc' (λs hs1 h61 hsc=>?_) ?_
  ·obtain⟨g1,g2,g3,g4⟩:=qX hnd hs1;rcases nJ hi hk (hc _ g1) g2 with⟨a,_⟩|⟨a,⟨b1,b2⟩,c0⟩
   ·exact absurd a h61
   ·rw[g3]
    congr 1
    have:s.2.2=(s.2.2.1,s.2.2.2.1,s.2.2.2.2):=rfl;rw[this,c0,<-b2];simp only[hsc]
  ·have h8:=(hct _ (ab2 hc')).1;have hm:=hU _ (hk.has c hc') (by show cs[c].1≠33;omega);exact Or.inr ⟨_,BH hm (by simp only[isAtom,ah3];omega),by show cs[c].1≠61;omega,rfl⟩
theorem JL(hi:aT ts.length cs.length ps)(hk:fH cs ps)(h0:0<ps.length)(hP:ku Us aJ (lQ id ps))(hc:∀p∈Us,p∈nS ps)(hno:∀α:Nat->Bool,Zd ts cs Us α->¬∀r∈aJ,Sat.keeps α r):¬∃f hl,hl.length=cs.length/\Ah f ts cs ps hl:=by
 rintro⟨f,hl,_,hm⟩;refine hno _ ⟨f,hl,hm.Fv,(qH f cs hl).1 hm.Zc,λp hp=>?_⟩ (ET hP (GH hi h0 hm));have hlt:=ai0.2 hp;rw[aG hlt,af9 hlt];refine⟨λh61=>?_,λh8=>(uh h8).symm⟩;rcases nJ hi hk (hc _ hp) (by simp[isAtom,h61])with⟨_,b,c⟩|⟨a,_⟩
 ·rw[UG h61,jL f b,jL f c];simp only[ah3];omega
 ·omega
end
end
section
open aB (Key put mO dX jn au aT dM fH Inv jJ texts)
open Nx
def rowOf(f:Nat->Nat)(n:Nat):List Nat:=(List.range' 0 n).map λt=>(nums f t).idxOf (f t)
theorem lT(f:Nat->Nat)(n:Nat):(rowOf f n).length=n:=by simp[rowOf]
theorem Ec(f:Nat->Nat){n i:Nat}(h:i<n):(rowOf f n)[i]'(by rw[lT];exact h)=(nums f i).idxOf (f i):=by simp[rowOf]
theorem V7(f:Nat->Nat)(n:Nat):wI (fi (rowOf f n)) f n:=by
 intro i j hi hj;rw[Bd (by rw[lT];exact hi) (by rw[lT];exact hj),Ec f hi,Ec f hj,<-oZ f i n hi,<-oZ f j n hj];have mi:f i∈nums f n:=(gQ f n _).2 ⟨i,hi,rfl⟩;have mj:f j∈nums f n:=(gQ f n _).2 ⟨j,hj,rfl⟩;have l1:=ai0.2 mi;have l2:=ai0.2 mj;constructor
 ·intro e3;have g1:=af9 l1;have g2:=af9 l2;rw[<-g1,<-g2];simp only[e3]
 ·intro e;rw[e]
theorem BA{f:Nat->Nat}{cl:List Int}{hl:List Bool}{nt nc:Nat}{ps:List Key}(hi:aT nt nc ps)(hc:∀i j,i<nt->j<nt->(f i=f j↔cl.getD i 0=cl.getD j 0)):dX cl hl ps=dX (Qx f nt) hl ps:=by
 refine Ee (nt:=nt) (nc:=nc) (λi j h1 h2=>?_) ps hi.ok;rw[jL f h1,jL f h2,<-hc i j h1 h2];omega
section
variable {s:ByteArray} {ts:List Key} {cs:List (Int×Nat)} {ps:List Key}
theorem IC(h4:cs.length<=4)(kR:aT ts.length cs.length ps)(ht:∀i (hi:i<ts.length),ts[i].2.1<ts.length/\ts[i].2.2<ts.length)(hc:∀x∈cs,(x.1=80\/x.1=81)/\x.2<ts.length) :
  wU ts cs ps≠0↔∃f hl,hl.length=cs.length/\Ah f ts cs ps hl:=by
 constructor
 ·intro h;obtain⟨row,hr,h1⟩:=F5 h;have hrl:=sH _ _ row hr;unfold uq at h1;by_cases hcg:∀p∈aO (mkd (fi row) ts) ts.length,fi row p.1=fi row p.2
  ·rw[ac8 hcg]at h1;obtain⟨k,hk,h2⟩:=List.countP_pos_iff.1 (Nat.pos_of_ne_zero h1);unfold QE at h2;simp only[Bool.and_eq_true,ah3]at h2;refine⟨fi row,tv cs.length k,eu _ _,hcg,h2.1,?_⟩;rw[<-BA kR (λi j h1 h2=>Dt row i j (by omega) (by omega))];exact h2.2
  ·rw[ac5 hcg]at h1;exact absurd rfl h1
 ·rintro⟨f,hl,hlen,hm⟩;have hm2:=hm.same kR ht hc (V7 f ts.length).symm;have hmem:rowOf f ts.length∈rws 0 ts.length:=row_mem f ts.length 0;refine JW hmem ?_;unfold uq;have hcg:∀p∈aO (mkd (fi (rowOf f ts.length)) ts) ts.length,fi (rowOf f ts.length) p.1=fi (rowOf f ts.length) p.2:=hm2.Fv;rw[ac8 hcg];have hb:=Jj cs.length hl hlen;have hb2:=(Ri h4).mem_iff.1 hb;obtain⟨k,hk,e⟩:=ad5.1 hb2;refine Nat.pos_iff_ne_zero.1 (List.countP_pos_iff.2 ⟨k,hk,?_⟩);unfold QE;simp only[Bool.and_eq_true,ah3];rw[e];refine⟨hm2.Zc,?_⟩;rw[BA kR (λi j h1 h2=>Dt _ i j (by rw[lT];omega) (by rw[lT];omega))];exact hm2.Xf
theorem Q9(h7:ts.length<=7)(kR:aT ts.length cs.length ps)(ht:∀i (hi:i<ts.length),ts[i].2.1<ts.length/\ts[i].2.2<ts.length)(hc:∀x∈cs,(x.1=80\/x.1=81)/\x.2<ts.length)
 {f:Nat->Nat}{hl:List Bool}(hlen:hl.length=cs.length)(hm:Ah f ts cs ps hl):hld ⟨(wrt f ts.length hl).toArray⟩ ts cs ps (WV ⟨(wrt f ts.length hl).toArray⟩ ts.length)=(true,0):=by
 have hdl:(uf f ts.length).length=ts.length:=Dc _ _;have hsz:(⟨(wrt f ts.length hl).toArray⟩:ByteArray).size=ts.length+1+cs.length:=by
  show(wrt f ts.length hl).toArray.size=_
  simp[wrt,bits,hdl,hlen]
  try omega
 have htk:(wrt f ts.length hl).take ts.length=uf f ts.length:=by
  unfold wrt;rw[ah5,List.take_append_of_le_length (by omega),af0 (by omega)]
 have hhl:hlo ⟨(wrt f ts.length hl).toArray⟩ ts.length cs.length=hl:=by
  rw[O9 _ _ _ hsz]
  show((wrt f ts.length hl).drop (ts.length+1)).map _=_
  unfold wrt;rw[List.drop_append,List.drop_eq_nil_of_le (by simp[hdl])];simp only[ad3,hdl,am2,Nat.sub_self,List.drop_zero,ac1];unfold bits;rw[List.map_map]
  conv=>rhs;rw[<-List.map_id hl]
  refine List.map_congr_left λb _=>?_;cases b<;>rfl
 have hkk:=Wh f h7;have hm2:=hm.same kR ht hc hkk.symm;unfold hld
 show(if _/\wrt (fi ((wrt f ts.length hl).take ts.length)) ts.length _=wrt f ts.length hl then(Um (fi ((wrt f ts.length hl).take ts.length)) _ _ _ _ _,(0:Int))else _)=_
 rw[htk,hhl];have hw:wrt (fi (uf f ts.length)) ts.length hl=wrt f ts.length hl:=by
  unfold wrt;rw[Qj hkk]
 rw[ac8 ⟨hsz,hw⟩];have hM:Um (fi (uf f ts.length)) ts cs ps (WV ⟨(wrt f ts.length hl).toArray⟩ ts.length) hl=true:=by
  unfold Um;simp only[Bool.and_eq_true,ah3];refine⟨⟨hm2.Fv,hm2.Zc⟩,?_⟩;have hcl:∀i j,i<ts.length->j<ts.length->(fi ((wrt f ts.length hl).take ts.length) i=fi ((wrt f ts.length hl).take ts.length) j↔_):=Qh ⟨(wrt f ts.length hl).toArray⟩ ts.length cs.length hsz;rw[htk]at hcl;rw[BA kR hcl];exact hm2.Xf
 rw[hM]
end
end
open Go.RowKit
def TL(d:Nat):ByteArray:=(⟨#[48,49,50,51,52,53,54,55,56,57]⟩:ByteArray).extract d (d+1)
theorem TK:∀d:Fin 10,(TL d.val).size=1/\(TL d.val).data.toList.any lZ=false:=by decide +kernel
theorem IZ{t:ByteArray}(h:t.size<=60)(hn:t.data.toList.any lZ=false):dJ t=false:=by
 unfold dJ;rw[hn];simp;omega
theorem AV(w:World)(s:ByteArray) :
  Calls prog 25 #[.string s] w λe w'=>(∃t,e=.returned (.string t)/\dJ t=false)/\w'=w:=by
 go_enter func25,ntmps25
 go_wp2_with fail
 go_loop [3,4] (λtv iv=>∃(k:Nat) (t:ByteArray),k<=60/\tv=.string t/\iv=.int .i64 k/\t.size<=k/\Hid (t.data.toList.any lZ=false)) (λtv iv=>60-(intOf iv).toNat)
 case atStart=>exact⟨0,⟨#[]⟩,ae7 _,rfl,rfl,SH _,aj (by decide)⟩
 case round=>
  obtain⟨k,t,hk,rfl,rfl,htk,hno⟩:=hrel;by_cases hlt:k<s.size
  ·have hbk:(k:Int)<(s.size:Int):=(by omega);by_cases h60:k<60
   ·have hb60:(k:Int)<60:=(by omega);have Vp:=s[k].toNat_lt;obtain⟨c,hc⟩:∃c:Nat,s[k].toNat=c:=⟨_,rfl⟩;obtain⟨d,hd⟩:∃d,c%10=d:=⟨_,rfl⟩;have hd10:d<10:=(by omega);have hm:(c:Int).tmod 10=(d:Int):=by
     rw[Int.tmod_eq_emod_of_nonneg (by omega)];omega
    have hdk:=TK ⟨d,hd10⟩;have HDK:=aj hdk;have HD:=aj hd;rw[hc]at Vp;clear hd hdk
    go_wp2_with fail
    refine⟨⟨k+1,t++TL d,by omega,rfl,by go_num,?_,?_⟩,by simp[intOf];omega⟩
    ·rw[ByteArray.size_append,(ah HDK).1];omega
    ·show(t++TL d).data.toList.any lZ=false
     rw[ByteArray.data_append,Array.toList_append,List.any_append,ah hno,(ah HDK).2];rfl
   ·have hb60:¬(k:Int)<60:=(by omega);have hnt:dJ t=false:=IZ (by omega) (ah hno);have HNT:=aj hnt;clear hnt
    go_wp2_with fail
    refine ad8 (v:=.string t) (by simp[results,results25,go_sem]) rfl ⟨⟨t,rfl,ah HNT⟩,rfl⟩
  ·have hbk:¬(k:Int)<(s.size:Int):=(by omega);have hnt:dJ t=false:=IZ (by omega) (ah hno);have HNT:=aj hnt;clear hnt
   go_wp2_with fail
   refine ad8 (v:=.string t) (by simp[results,results25,go_sem]) rfl ⟨⟨t,rfl,ah HNT⟩,rfl⟩
end Go.Proofs.YthcppbmkacbbiaaGreat
