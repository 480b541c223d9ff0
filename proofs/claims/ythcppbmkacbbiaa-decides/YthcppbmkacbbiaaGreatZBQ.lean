import Derived.Test.YthcppbmkacbbiaaGreatZBN
set_option linter.unusedSimpArgs false
set_option maxHeartbeats 2000000
set_option maxRecDepth 100000
namespace Go.Proofs.YthcppbmkacbbiaaGreat
open Go.Proofs.Tryz
section
open Go.RowKit
def LX(lo hi:Int):Prop:=∀(w:World) (k n:Int) (s t:ByteArray),lo<=k->k<=hi->s.size<=maxLen->t.size<=maxLen->
 Calls prog 29 #[.agg #[.int .i64 k,.int .i64 n,.string s,.string t]] w λe w'=>e=.returned (.bool true)/\Below w.heap.size w w'
theorem NW(lo hi:Int)(hp:LX lo hi)(w:World)(b off len cap:Nat)(K Nn:Nat->Int)(S Tt:Nat->ByteArray)(hb:b<w.heap.size)(hlen:len<=9223372036854775807)
 (hS:∀i,i<len->(S i).size<=maxLen)(hTt:∀i,i<len->(Tt i).size<=maxLen)
 (c0:∀i,i<len->w.cell? ⟨b,off+i*4,none⟩=some (.int .i64 (K i)))(c1:∀i,i<len->w.cell? ⟨b,off+i*4+1,none⟩=some (.int .i64 (Nn i)))
 (c2:∀i,i<len->w.cell? ⟨b,off+i*4+2,none⟩=some (.string (S i)))(c3:∀i,i<len->w.cell? ⟨b,off+i*4+3,none⟩=some (.string (Tt i))) :
  Calls prog 15 #[.slice (some ⟨b,off,none⟩) len cap,.int .i64 lo,.int .i64 hi] w λe w'=>e=.returned (.int .i64 (-1))/\Below w.heap.size w w':=by
 go_enter func15,ntmps15
 go_wp2_with fail
 go_loopw [7] (λi wr=>∃k:Nat,k<=len/\i=.int .i64 k/\Below w.heap.size w wr) (λi _=>len-(intOf i).toNat)
 case atStart=>exact⟨0,ah9 _,rfl,Below.refl _ _⟩
 case round=>
  obtain⟨k,hk,rfl,hbl⟩:=hrel;by_cases hlt:k<len
  ·have d0:=(hbl.cell (p:=⟨b,off+k*4,none⟩) hb).trans (c0 k hlt);have d1:=(hbl.cell (p:=⟨b,off+k*4+1,none⟩) hb).trans (c1 k hlt);have d2:=(hbl.cell (p:=⟨b,off+k*4+2,none⟩) hb).trans (c2 k hlt);have d3:=(hbl.cell (p:=⟨b,off+k*4+3,none⟩) hb).trans (c3 k hlt);have hSk:Hid _:=hS k hlt;have hTk:Hid _:=hTt k hlt;clear c0 c1 c2 c3 hS hTt;generalize S k=s at d2 hSk;generalize Tt k=t at d3 hTk;generalize K k=kd at d0;generalize Nn k=nn at d1;have Kq:Below w.heap.size w (wr.alloc (.cells #[.int .i64 kd,.int .i64 nn,.string s,.string t] 48)):=hbl.alloc hbl.size _;by_cases hin:lo<=kd/\kd<=hi
   ·have e1:decide (lo<=kd)=true:=(by simpa using hin.1);have e2:decide (kd<=hi)=true:=(by simpa using hin.2);have hin1:=hin.1;have hin2:=hin.2;clear hin
    go_wp2_with fail
    refine(hp _ kd nn s t hin1 hin2 hSk hTk).mono ?_;rintro e w1 ⟨rfl,b1⟩;have PO:=Kq.trans (b1.mono (by have:=hbl.size;simp;omega));clear Kq b1
    go_wp2_with fail
    go_roundw
    case rel=>exact⟨k+1,by omega,by go_num,PO⟩
    case measure=>simp[intOf];omega
   ·go_wp2_with fail
    all_goals
     go_roundw
     case rel=>exact⟨k+1,by omega,by go_num,Kq⟩
     case measure=>simp[intOf];omega
  ·clear c0 c1 c2 c3 hS hTt
   go_wp2_with fail
   go_ret
   exact⟨rfl,hbl⟩
theorem NY(lo hi:Int)(w:World)(ao:Option Addr)(cap:Nat) :
  Calls prog 15 #[.slice ao 0 cap,.int .i64 lo,.int .i64 hi] w λe w'=>e=.returned (.int .i64 (-1))/\Below w.heap.size w w':=by
 go_enter func15,ntmps15
 go_wp2_with fail
 refine wp_loop_rounds 1 ?_;rw[rounds_succ]
 go_wp2_with fail
 go_ret
 exact⟨rfl,Below.refl _ _⟩
end
section
open Sat (View Rule jT cZ)
open au (Key put qY iG jn aA bI dX gy isAtom)
theorem Bq{nt:Nat}{cs:List (Int×Nat)}{ps:List Key}(hcs:∀x∈cs,(x.1=80\/x.1=81)/\x.2<nt){q:Key}(h:q∈kG nt cs ps)(h61:q.1=61):q=(61,0,0)\/(q.2.1<q.2.2/\q.2.2<nt):=by
 unfold kG at h;rcases ai3.1 h with h|h
 ·rcases ai3.1 h with h|h
  ·unfold mG at h;rcases aj8.1 h with h|h
   ·exact Or.inl h
   ·obtain⟨y,hy,h⟩:=an4.1 h;obtain⟨x,hx,rfl⟩:=ah3.1 h;exact Or.inr ⟨aj9.1 hx,aj9.1 hy⟩
  ·unfold oD at h;obtain⟨c,hc,rfl⟩:=ah3.1 h;have hc:=aj9.1 hc;simp only[aN hc]at h61;have:=(hcs _ (af4 hc)).1;omega
 ·unfold vG at h;have:=(ak2.1 h).2;rw[h61]at this;simp[aA]at this
theorem Bv{nt:Nat}{cs:List (Int×Nat)}{ps:List Key}{q:Key}(h:q∈kG nt cs ps)(h8:q.1=80\/q.1=81):∃h:q.2.1<cs.length,q=(cs[q.2.1].1,q.2.1,0):=by
 unfold kG at h;rcases ai3.1 h with h|h
 ·rcases ai3.1 h with h|h
  ·exfalso;unfold mG at h;rcases aj8.1 h with h|h
   ·rw[h]at h8;simp at h8
   ·obtain⟨y,hy,h⟩:=an4.1 h;obtain⟨x,hx,rfl⟩:=ah3.1 h;simp at h8
  ·unfold oD at h;obtain⟨c,hc,rfl⟩:=ah3.1 h;have hc:=aj9.1 hc;exact⟨hc,by simp only[aN hc]⟩
 ·exfalso;unfold vG at h;have:=(ak2.1 h).2;rcases h8 with e|e<;>(rw[e]at this;simp[aA]at this)
section
variable {ts:List Key} {cs:List (Int×Nat)} {ps Us:List Key} {aS ak:List Rule} {τ:List Tr}
theorem NU(hi:bI ts.length cs.length ps)(hk:gy cs ps)(h0:0<ps.length)(hn:0<ts.length)
 (ht:∀i (hi:i<ts.length),ts[i].2.1<ts.length/\ts[i].2.2<ts.length)(hcs:∀x∈cs,(x.1=80\/x.1=81)/\x.2<ts.length)
 (hP:lC Us aS (BH ts cs ps))(hc:∀p∈Us,p∈kG ts.length cs ps)(hd:Sat.Done ak (bel τ))(hs:∀r∈aS,r∈ak)(hall:∀x,x<Us.length->mD τ x=true)(hlt:∀q∈τ,q.1<Us.length) :
  FH (bK ((fU Us τ).map dP)) ts cs ps (lT (fU Us τ) cs.length):=by
 have hkp:=Bc hd hs hP.lp.rg.lt hall;have hH:Hold (VW Us τ) (BH ts cs ps):=(hP.lp.sem Us (am7 _) (Lu τ)).1 hkp;have hE:=hH;unfold BH at hE;rw[fG,fG,fG]at hE;obtain⟨e1,e2,e3⟩:=acd hE.1.1.2;have hnd:=hP.lp.nodup;have aaH:isAtom 61=true:=by decide
 refine I9 hi hk h0 ht hcs hH (λa b ha hb=>⟨λh=>?_,λh=>?_⟩) (λc hc'=>?_)
 ·have hR:Eqv (λa b=>a=b\/(a<ts.length/\b<ts.length/\VW Us τ (ig (dh a b))=true)):=by
   refine⟨λa=>Or.inl rfl,λa b h=>?_,λa b c h k=>?_⟩
   ·rcases h with h|⟨h1,h2,h3⟩
    ·exact Or.inl h.symm
    ·exact Or.inr ⟨h2,h1,e2 _ _ h3⟩
   ·rcases h with rfl|⟨h1,h2,h3⟩
    ·exact k
    ·rcases k with rfl|⟨k1,k2,k3⟩
     ·exact Or.inr ⟨h1,h2,h3⟩
     ·exact Or.inr ⟨h1,k2,e3 _ _ _ h1 h2 k2 h3 k3⟩
  have hpm:∀p∈eqs ((fU Us τ).map dP),p.1<ts.length/\p.2<ts.length/\(p.1=p.2\/(p.1<ts.length/\p.2<ts.length/\VW Us τ (ig (dh p.1 p.2))=true)):=λp hp=>by
   obtain⟨s,hs1,hs2⟩:=ah3.1 (yR.1 hp);obtain⟨g1,g2,g3,g4⟩:=sW hnd hs1;have e4:s.2.2=(61,p):=ap7 Prod.fst hs2;have e5:s.2.1=true:=ap7 Prod.snd hs2;rw[e4]at g1 g3;rw[e5]at g3;rcases Bq hcs (hc _ g1) rfl with h|⟨h,h'⟩
   ·have hp0:p=(0,0):=ap7 Prod.snd h;subst hp0;exact⟨hn,hn,Or.inl rfl⟩
   ·simp only at h h';refine⟨by omega,h',Or.inr ⟨by omega,h',?_⟩⟩;have:ig (dh p.1 p.2)=(61,p):=pY h;rw[this];exact g3.symm
  rcases Et hR (n:=ts.length) (f:=id) hpm (λx y _ _ e=>Or.inl e) a b ha hb h with e|⟨_,_,e⟩
  ·subst e;exact e1 a
  ·exact e
 ·by_cases e:a=b
  ·subst e;rfl
  ·have hm:=Me hlt h;have key:∀x y,ig (dh a b)=(61,x,y)->bK ((fU Us τ).map dP) x=bK ((fU Us τ).map dP) y:=λx y e2=>by
    rw[e2]at hm h;have oC:=Ee (τ:=τ) hm aaH;rw[h]at oC;have:=Af (f:=id) (yR.2 (ah3.2 ⟨_,oC,rfl⟩:((61,(x,y)),true)∈(fU Us τ).map dP));exact this
   by_cases hab:a<b
   ·exact key a b (pY hab)
   ·exact(key b a (uz (by omega))).symm
 ·refine Hy hc' (λs hs1 h61 hsc=>?_) ?_
  ·obtain⟨g1,g2,g3,g4⟩:=sW hnd hs1;have h8:s.2.2.1=80\/s.2.2.1=81:=by
    simp only[isAtom,ak4]at g2;omega
   obtain⟨q1,q2⟩:=Bv (hc _ g1) h8;rw[g3]
   congr 1
   rw[q2];simp only[hsc]
  ·by_cases hm:(cs[c].1,c,0)∈Us
   ·have h8:=(hcs _ (af4 hc')).1;refine Or.inr ⟨_,Ee hm (by simp only[isAtom,ak4];omega),by show cs[c].1≠61;omega,rfl⟩
   ·left;cases hv:VW Us τ (cs[c].1,c,0)
    ·rfl
    ·exact absurd (Me hlt hv) hm
theorem Ht{v:Key->Bool}{L:List (List bG)}(hP:lC Us aS L)(h:Hold v L):∀r∈aS,Sat.keeps (λx=>v (Us.getD x (0,0,0))) r:=by
 refine(hP.lp.sem Us (am7 _) (λx=>v (Us.getD x (0,0,0)))).2 (λc hc=>?_);obtain⟨l,hl,h1⟩:=h c hc;refine⟨l,hl,?_⟩;unfold lv at h1 ⊢;have hm:=am1.2 (hP.mem c hc l hl);simp only;rw[aN hm,aj6 hm];exact h1
theorem NT(hi:bI ts.length cs.length ps)(h0:0<ps.length)(hn:0<ts.length)
 (ht:∀i (hi:i<ts.length),ts[i].2.1<ts.length/\ts[i].2.2<ts.length)(hcs:∀x∈cs,(x.1=80\/x.1=81)/\x.2<ts.length)
 (hP:lC Us aS (BH ts cs ps))(hno:∀α:Nat->Bool,True->¬∀r∈aS,Sat.keeps α r):¬∃f hl,hl.length=cs.length/\FH f ts cs ps hl:=by
 rintro⟨f,hl,_,hm⟩;exact hno _ trivial (Ht hP (JF hi h0 hn ht hcs hm))
end
def Th1(ts:List Key)(cs:List (Int×Nat))(Us:List Key)(α:Nat->Bool):Prop:=
 ∃g hl,yt g ts/\X7 g cs hl/\∀p∈Us,(p.1=61->(g p.2.1=g p.2.2↔α (Us.idxOf p)=true))/\(p.1=80\/p.1=81->hl.getD p.2.1 false=α (Us.idxOf p))
def JD(s:kP):View:=(s.1,!s.2.1)
theorem xZ{ts:List Key}{f f' f'':Nat->Nat}(h':Closed ts f f')(h'':Closed ts f f''){a b:Nat}(ha:a<ts.length)(hb:b<ts.length)(h:f' a=f' b):f'' a=f'' b:=
 h'.least (λa b=>f'' a=f'' b) (EO f'') ((lq f'' ts).1 h''.Iy) (λa b _ _ e=>h''.ker a b e) a b ha hb h
theorem Qj{ts:List Key}{cs:List (Int×Nat)}{said:List bG}{f f' f'':Nat->Nat}(hs:oM ts cs said)(hct:∀x∈cs,(x.1=80\/x.1=81)/\x.2<ts.length)(h':Closed ts f f')(h'':Closed ts f f'')(h:cb f' cs said):cb f'' cs said:=by
 refine⟨λl hl h61 hf e=>?_,λl hl m hm h61 KE hlet e=>?_⟩
 ·rcases hs l hl with⟨_,q1,q2⟩|⟨q,_⟩
  ·exact h.1 l hl h61 hf (xZ h'' h' q1 q2 e)
  ·omega
 ·rcases hs l hl with⟨q,_⟩|⟨_,p1,p2⟩
  ·exact absurd q h61
  ·rcases hs m hm with⟨q,_⟩|⟨_,r1,r2⟩
   ·exact absurd q KE
   ·refine h.2 l hl m hm h61 KE hlet ?_;rw[aN p1,aN r1]at e ⊢;exact xZ h'' h' (hct _ (af4 p1)).2 (hct _ (af4 r1)).2 e
theorem VZ{f:Key->Key}{Us ps:List Key}:∀k,k<=ps.length->∀q∈ps.take k,q.1≠33->f q∈nS f Us ps k:=by
 intro k
 induction k with
 |zero=>intro _ q hq;simp at hq
 |succ k ih=>
  intro hk q hq h33;have hk':k<ps.length:=by omega
  rw[mW hk'];have e:ps.take (k+1)=ps.take k++[ps[k]]:=by rw[ai4,af2 hk'];rfl
  rw[e]at hq;rcases ai3.1 hq with hq|hq
  ·exact(E5 _ _ _).mem (ih (by omega) q hq h33)
  ·rw[ah6.1 hq]at h33 ⊢;unfold E8;rw[af6 h33];exact bF _ _
section
variable {ts:List Key} {cs:List (Int×Nat)} {ps Us:List Key} {aS ak:List Rule} {τ:List Tr}
theorem oI(hi:bI ts.length cs.length ps)(hk:gy cs ps){q:Key}(hq:q∈oZ ps)(ha:isAtom q.1=true):(q.1=61/\q.2.1<ts.length/\q.2.2<ts.length)\/((q.1=80\/q.1=81)/\(∃h:q.2.1<cs.length,cs[q.2.1].1=q.1)/\q.2.2=0):=by
 have hq:=(ak2.1 hq).1;obtain⟨i,hlt,e⟩:=aj2 hq;have ho:=hi.ok i hlt;rw[e]at ho;simp only[isAtom,ak4]at ha;rcases ho with⟨a,_⟩|⟨a,_⟩|⟨a,_,b⟩|⟨a,b,c⟩
 ·omega
 ·rcases ha with e|e|e<;>(rw[e]at a;simp[aA]at a)
 ·exact Or.inr ⟨a,hk.letter q hq a,b⟩
 ·exact Or.inl ⟨a,b,c⟩
theorem zq(hi:bI ts.length cs.length ps)(hk:gy cs ps)(hc:∀p∈Us,p∈oZ ps)(hn:Us.Nodup){S:List kP}(hS:∀s∈S,s∈fU Us τ):oM ts cs (S.map dP):=by
 intro l hl;obtain⟨s,hs,rfl⟩:=ah3.1 hl;obtain⟨g1,g2,_,_⟩:=sW hn (hS s hs);rcases oI hi hk (hc _ g1) g2 with⟨a,b,c⟩|⟨a,b,c⟩
 ·exact Or.inl ⟨a,b,c⟩
 ·exact Or.inr ⟨a,b⟩
theorem OH(hi:bI ts.length cs.length ps)(hk:gy cs ps)(hc:∀p∈Us,p∈oZ ps)(hn:Us.Nodup)(hct:∀x∈cs,(x.1=80\/x.1=81)/\x.2<ts.length){S:List kP}(hS:∀s∈S,s∈fU Us τ){f':Nat->Nat}(hf:Closed ts (bK (S.map dP)) f')(hnc:¬cb f' cs (S.map dP))
 (α:Nat->Bool)(hα:Th1 ts cs Us α):Sat.keeps α (S.map JD):=by
 refine ai0 λhno=>hnc ?_;obtain⟨g,hl,hg,ha,hα⟩:=hα;refine Vr (zq hi hk hc hn hS) hf hct hg ha (λl hlm=>?_);obtain⟨s,hs,rfl⟩:=ah3.1 hlm;obtain⟨g1,g2,g3,g4⟩:=sW hn (hS s hs);have hv:α s.1=s.2.1:=by
  refine ai0 λhne=>hno ⟨JD s,ah3.2 ⟨s,hs,rfl⟩,?_⟩
  show α s.1=!s.2.1
  cases h1:α s.1<;>cases h2:s.2.1<;>simp_all
 obtain⟨q1,q2⟩:=hα _ g1;rw[<-g4,hv]at q1 q2;refine⟨q1,λh61=>q2 ?_⟩;have h61:s.2.2.1≠61:=h61;simp only[isAtom,ak4]at g2;omega
theorem OG(hall:∀x,x<Us.length->mD τ x=true){S:List kP}(hS:∀s∈S,s∈fU Us τ):∀u∈S.map JD,u.1<Us.length/\Sat.wrong (bel τ) u:=by
 intro u hu;obtain⟨s,hs,rfl⟩:=ah3.1 hu;obtain⟨hl,_,h1,_⟩:=zX.1 (hS s hs);obtain⟨b,h2,h3⟩:=MV (hall s.1 hl);refine⟨hl,b,h2,?_⟩
 show b.1≠!s.2.1
 rw[h3,h1];cases Lu τ s.1<;>simp
theorem OL{S:List kP}(h:(S.map (·.1)).Nodup):(S.map JD).Nodup:=by
 unfold List.Nodup at h ⊢;rw[List.pairwise_map]at h ⊢;refine h.imp (λhne e=>hne ?_);have h2:(JD _).1=(JD _).1:=ap7 (λv:View=>v.1) e;exact h2
theorem ZN(f:Nat->Nat)(cs:List (Int×Nat)):cb f cs []:=⟨λl hl=>(by cases hl),λl hl=>(by cases hl)⟩
theorem NS(hi:bI ts.length cs.length ps)(hk:gy cs ps)(h0:0<ps.length)(hct:∀x∈cs,(x.1=80\/x.1=81)/\x.2<ts.length)
 (hP:lC Us aS (mY id ps))(hc:∀p∈Us,p∈oZ ps)(hU:∀q∈ps,q.1≠33->q∈Us)(hd:Sat.Done ak (bel τ))(hs:∀r∈aS,r∈ak)(hall:∀x,x<Us.length->mD τ x=true)
 {f' f'':Nat->Nat}(hf':Closed ts (bK ((fU Us τ).map dP)) f')(hcb:cb f' cs ((fU Us τ).map dP))(abr:Closed ts (bK ((fU Us τ).map dP)) f''):FH f'' ts cs ps (lT (fU Us τ) cs.length):=by
 have hkp:=Bc hd hs hP.lp.rg.lt hall;have hH:Hold (VW Us τ) (mY id ps):=(hP.lp.sem Us (am7 _) (Lu τ)).1 hkp;have hnd:=hP.lp.nodup;have oC:=zq (τ:=τ) hi hk hc hnd (λs hs=>hs);refine IB hi hk h0 hct hH (λq hq ha=>?_) abr (Qj oC hct hf' abr hcb) (λc hc'=>?_)
 ·have hm:=hU q hq (by omega);exact ah3.2 ⟨_,Ee hm (by simp only[isAtom,ak4];exact ha),rfl⟩
 ·refine Hy hc' (λs hs1 h61 hsc=>?_) ?_
  ·obtain⟨g1,g2,g3,g4⟩:=sW hnd hs1;rcases oI hi hk (hc _ g1) g2 with⟨a,_⟩|⟨a,⟨b1,b2⟩,c0⟩
   ·exact absurd a h61
   ·rw[g3]
    congr 1
    have:s.2.2=(s.2.2.1,s.2.2.2.1,s.2.2.2.2):=rfl;rw[this,c0,<-b2];simp only[hsc]
  ·have h8:=(hct _ (af4 hc')).1;have hm:=hU _ (hk.has c hc') (by show cs[c].1≠33;omega);exact Or.inr ⟨_,Ee hm (by simp only[isAtom,ak4];omega),by show cs[c].1≠61;omega,rfl⟩
theorem NR(hi:bI ts.length cs.length ps)(hk:gy cs ps)(h0:0<ps.length)(hP:lC Us aS (mY id ps))(hc:∀p∈Us,p∈oZ ps)(hno:∀α:Nat->Bool,Th1 ts cs Us α->¬∀r∈aS,Sat.keeps α r):¬∃f hl,hl.length=cs.length/\FH f ts cs ps hl:=by
 rintro⟨f,hl,_,hm⟩;refine hno _ ⟨f,hl,hm.Iy,(rW f cs hl).1 hm.agr,λp hp=>?_⟩ (Ht hP (JE hi h0 hm));have hlt:=am1.2 hp;rw[aN hlt,aj6 hlt];refine⟨λh61=>?_,λh8=>(vX h8).symm⟩;rcases oI hi hk (hc _ hp) (by simp[isAtom,h61])with⟨_,b,c⟩|⟨a,_⟩
 ·rw[Yu h61,kM f b,kM f c];simp only[ak4];omega
 ·omega
end
end
open Go.RowKit Go.Maps Go.WideMaps
open Sat (View Rule jT cZ)
open au (Key put dX aA bI)
theorem uU(w:World)(dom:Key->Prop)(X:Nat->Prop) :
  Calls prog 92 #[] w λe w'=>∃lb BU BS,e=.returned (.pointer (some ⟨lb,0,none⟩))/\LG w.heap.size w' lb BU BS id dom [] [] X/\iE w' BS id dom 0/\w.grownBy w' none:=by
 have hmm:=@av4 prog
 go_enter func92,ntmps92
 go_wp2_with fail
 go_ret
 have h1:((w.alloc (.map #[] 0)).alloc (.map #[] 0)).heap.size=w.heap.size+2:=by simp
 have hgF:w.grownBy (((w.alloc (.map #[] 0)).alloc (.map #[] 0)).alloc (.cells #[.map (some w.heap.size),.map (some (w.heap.size+1)),.slice none 0 0] 210)) none:=((ae9 _ _ none).trans (ae9 _ _ none)).trans (ae9 _ _ none);have hm:=iE.made (w.alloc (.map #[] 0)) dom;have e:(w.alloc (.map #[] 0)).heap.size=w.heap.size+1:=by simp
 rw[e]at hm;have hm2:=hm.kept (w':=((w.alloc (.map #[] 0)).alloc (.map #[] 0)).alloc (.cells #[.map (some w.heap.size),.map (some (w.heap.size+1)),.slice none 0 0] 210)) (ag1 _ _ _ (by simp));refine⟨w.heap.size+1+1,w.heap.size,w.heap.size+1,rfl,⟨⟨.slice none 0 0,?_,?_,λk hk=>by cases hk⟩,?_,?_,by omega,by omega⟩,hm2,hgF⟩
 ·refine pq.mk ?_;have e:w.heap.size+1+1=((w.alloc (.map #[] 0)).alloc (.map #[] 0)).heap.size:=by simp
  rw[e,ag4]
 ·exact⟨[],an8 _ _ _ _,λi hi=>by simp at hi⟩
 ·have hm:aP (w.alloc (.map #[] 0)) 93 w.heap.size bD ([]:List Key):=jO w _ _;exact(hm.kept (ag1 _ _ _ (by simp))).kept (ag1 _ _ _ (by simp;omega))
 ·obtain⟨D,nn,a,b,c⟩:=hm2;exact⟨D,nn,by omega,b,c⟩
theorem aP.acL{w:World}{b:Nat}{Us:List Key}(h:aP w 93 b bD Us)(ty:TypeId):(Builtin.len_ #[80] ty #[.map (some b)]).run prog w=.ok (.int .i64 Us.length) w:=by
 obtain⟨D,h1,h2,_⟩:=h;rw[h1.len underlying80 ty,h2]
theorem xO(w:World)(lb BU:Nat)(ms:Option Nat)(rp:Option Addr)(rl rc:Nat)(Us:List Key)(tape:ByteArray)(no:Nat)(caps:Array Value)(hL:pq w lb (some BU) ms (.slice rp rl rc))(hM:aP w 93 BU bD Us) :
  Calls prog 86 #[.pointer (some ⟨lb,0,none⟩),.string tape,.func (.func no) #[] caps] w λe w'=>e=.returned (.pointer (some ⟨w.heap.size,0,none⟩))/\o9 w' w.heap.size Us.length (.slice rp rl rc) (.func (.func no) #[] caps) tape.data.toList none/\w.grownBy w' none:=by
 obtain⟨c0,_,c2⟩:=hL.cells;have HM:=aj hM;clear hM
 go_enter func86,ntmps86
 go_wp2_with fail
 refine aj0 (S:=λW'=>w.grownBy W' none) rfl ?_;have hS0:w.grownBy w.drew none:=⟨rfl,rfl,rfl,af0 _,λ_ _ _=>rfl⟩;simp only[ag3,ag0,ah0,Nat.reduceAdd,af8,af7,ag5,ag9,ag7];change wpAnyH prog .any _ _ _ _ _ _ w.drew;refine tH 0 (.pointer (some ⟨lb,0,none⟩)) (λw' hS=>?_) hS0 ?_
 ·go_simp
 simp only[aG];refine tH 1 (.pointer (some ⟨lb,0,none⟩)) (λw' hS=>?_) hS0 ?_
 ·go_simp
 simp only[aG];refine tH 2 (.pointer (some ⟨lb,0,none⟩)) (λw' hS=>?_) hS0 ?_
 ·go_simp
 simp only[aG];refine tH 3 (.map (some BU)) (λw' hS=>?_) hS0 ?_
 ·have q:=hS.cell c0 (by simp);go_simp
 simp only[aG];refine tH 4 (.int .i64 Us.length) (λw' hS=>?_) hS0 ?_
 ·have hlen:=((ah HM).kept (hS.block BU (ah HM).lt (by simp))).acL 3;simp[execOp,resolve,invoke,builtin,hlen,Result.andThen,go_sem]
 simp only[aG];refine tH 5 (.pointer (some ⟨lb,0,none⟩)) (λw' hS=>?_) hS0 ?_
 ·go_simp
 simp only[aG];refine tH 6 (.pointer (some ⟨lb,0,none⟩)) (λw' hS=>?_) hS0 ?_
 ·go_simp
 simp only[aG];refine tH 7 (.pointer (some ⟨lb,2,none⟩)) (λw' hS=>?_) hS0 ?_
 ·go_simp
 simp only[aG];refine tH 8 (.slice rp rl rc) (λw' hS=>?_) hS0 ?_
 ·have q:=hS.cell c2 (by simp);go_simp
 simp only[aG];refine tH 9 (.func (.func no) #[] caps) (λw' hS=>?_) hS0 ?_
 ·go_simp
 simp only[aG];refine tH 10 (.string tape) (λw' hS=>?_) hS0 ?_
 ·go_simp
 simp only[aG];refine tH 11 (.agg #[.int .i64 Us.length,.slice rp rl rc,.func (.func no) #[] caps,.string tape,.map none]) (λw' hS=>?_) hS0 ?_
 ·go_simp
 simp only[aG];have hgb:w.grownBy (w.drew.alloc (.cells #[.int .i64 Us.length,.slice rp rl rc,.func (.func no) #[] caps,.string tape,.map none] 169)) none:=hS0.trans (ae9 _ _ none);refine oH 12 (λK hK=>?_);go_simp;replace hS0:=hgb;refine hK.out _ _ hS0 ?_;clear hK K;refine oH 13 (λK hK=>?_);go_simp;refine hK.out _ _ (hS0) (ai8 (by kernel_rfl) ?_ _);clear hK K
 go_wp2_with fail
 go_ret
 refine⟨rfl,?_,hgb⟩;refine o9.mk ?_;have:(w.drew.alloc (.cells #[.int .i64 Us.length,.slice rp rl rc,.func (.func no) #[] caps,.string tape,.map none] 169)).heap[w.drew.heap.size]?=_:=ag4 _ _;exact this
end Go.Proofs.YthcppbmkacbbiaaGreat
