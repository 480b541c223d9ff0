import Derived.Test.YthcppbmkacbbiaaGreatYBA
set_option linter.unusedSimpArgs false
set_option maxHeartbeats 1000000
set_option maxRecDepth 100000
namespace Go.Proofs.YthcppbmkacbbiaaGreat
open Go.Proofs.Tryz
section
open aB (Key put Inv jv texts)
open Ast
theorem XF(s:ByteArray):At (pk s) 0 s.data.toList:=λi hi=>by
 have hi':i<s.size:=by simpa using hi
 unfold pk;rw[al5,dif_pos hi'];simp[am5]
end
section
open Sat (View Rule jw bI)
open aB (Key put lY dP jn au aP dH fD)
def JR(f:Nat->Nat)(n:Nat):List Int:=(List.range n).map λi=>(f i:Int)
theorem aT(f:Nat->Nat){n i:Nat}(h:i<n):(JR f n).getD i 0=(f i:Int):=by
 unfold JR;rw[ae7,ak3,List.getElem?_range h];rfl
structure Ak(f:Nat->Nat)(ts:List Key)(cs:List (Int×Nat))(ps:List Key)(hl:List Bool):Prop where
 Dp:wQ f ts
 Xr:∀p∈bg (xF f cs) cs.length,hl.getD p.1 false=hl.getD p.2 false
 Xn:(dP (JR f ts.length) hl ps).getD (ps.length-1) false=true
def NM(f:Nat->Nat)(cs:List (Int×Nat))(hl:List Bool):Prop:=∀i j (hi:i<cs.length) (hj:j<cs.length),cs[i].1=cs[j].1->f cs[i].2=f cs[j].2->hl.getD i false=hl.getD j false
theorem lS(f:Nat->Nat)(cs:List (Int×Nat))(hl:List Bool):(∀p∈bg (xF f cs) cs.length,hl.getD p.1 false=hl.getD p.2 false)↔NM f cs hl:=by
 have hB:=BN (xF f cs) (λi j=>hl.getD i false=hl.getD j false) (λ_=>rfl) (λ_ _ e=>e.symm) (λ_ _ _ e1 e2=>e1.trans e2);rw[fV]at hB;rw[hB];constructor
 ·intro h i j hi hj e1 e2;exact h i j hi hj (by simp[xF,hi,hj,e1,e2])
 ·intro h i j hi hj e;simp only[xF,ak3,ac3 hi,ac3 hj,ap0,ai0,ao9]at e;exact h i j hi hj e.1 e.2
def gB(q:Key):Key:=if q.1=61 then(if q.2.1=q.2.2 then(61,0,0)else if q.2.2<q.2.1 then(61,q.2.2,q.2.1)else q)else q
theorem eX:FW gB:=by
 refine⟨λq h=>?_,λq h=>?_⟩
 ·unfold gB;rw[ae2 h];by_cases e:q.2.1=q.2.2
  ·rw[ae2 e];exact⟨rfl,Or.inr (Or.inr ⟨e,rfl⟩)⟩
  ·rw[ad6 e];by_cases e2:q.2.2<q.2.1
   ·rw[ae2 e2];exact⟨rfl,Or.inr (Or.inl rfl)⟩
   ·rw[ad6 e2];exact⟨h,Or.inl rfl⟩
 ·unfold gB;rw[ad6 h]
theorem Eb(a:Nat):gB (bJ a a)=bJ 0 0:=by simp[gB,bJ]
theorem Oa(a b:Nat):gB (bJ a b)=gB (bJ b a):=by
 unfold gB bJ;simp only[aj0];by_cases e:a=b
 ·subst e;rfl
 ·have e':¬b=a:=λh=>e h.symm;rw[ad6 e,ad6 e'];by_cases h:b<a
  ·rw[ae2 h,ad6 (by omega)]
  ·rw[ad6 h,ae2 (by omega)]
def zK(ts:List Key)(cs:List (Int×Nat))(ps:List Key):List (List aV):=l9 gB ps++Qz gB ts.length++U4 gB ts++Xo gB cs
theorem aG{α:Type}{l:List α}{i:Nat}(h:i<l.length)(d:α):l.getD i d=l[i]:=by
 rw[ae7,ac3 h];rfl
theorem FU{sm:Key->Key}(hs:FW sm){v:Key->Bool}{f:Nat->Nat}{ts:List Key}{cs:List (Int×Nat)}{ps:List Key}{hl:List Bool}(hi:aP ts.length cs.length ps)(hk:fD cs ps)
 (hf:∀q∈ps,q.1=61->(f q.2.1=f q.2.2↔v (sm q)=true))(hh:∀c (h:c<cs.length),hl.getD c false=v (cs[c].1,c,0)):qF sm v (JR f ts.length) hl ps:=by
 intro q hq;obtain⟨i,hlt,e⟩:=ah1 hq;have ho:=hi.ok i hlt;rw[e]at ho;refine⟨λh=>?_,λh=>?_⟩
 ·rcases ho with⟨a,_⟩|⟨a,_⟩|⟨a,_⟩|⟨_,h1,h2⟩
  ·omega
  ·rw[h]at a;simp[au]at a
  ·omega
  ·rw[aT f h1,aT f h2];have:=hf q hq h;cases hv:v (sm q)
   ·rw[hv]at this;have:¬f q.2.1=f q.2.2:=λh=>by have:=this.1 h;cases this
    have:¬(f q.2.1:Int)=(f q.2.2:Int):=(by omega);simp[this]
   ·rw[hv]at this;have:=this.2 rfl;simp[this]
 ·obtain⟨h1,h2⟩:=hk.letter q hq h;rw[hs.other q (by omega),hh _ h1,h2];have h3:q.2.2=0:=by
   rcases ho with⟨a,_,b⟩|⟨a,_⟩|⟨_,_,b⟩|⟨a,_⟩
   ·exact b
   ·rcases h with h|h<;>(rw[h]at a;simp[au]at a)
   ·exact b
   ·omega
  congr 1
  rw[<-h3]
theorem Zp{v:Key->Bool}{n:Nat}(h:Hold v (Qz gB n)):(∀a,v (gB (bJ a a))=true)/\(∀a b,v (gB (bJ a b))=true->v (gB (bJ b a))=true)/\∀a b c,a<n->b<n->c<n->v (gB (bJ a b))=true->v (gB (bJ b c))=true->v (gB (bJ a c))=true:=by
 obtain⟨h1,h2⟩:=EY.1 h;rw[Eb]at h1;have hr:∀a,v (gB (bJ a a))=true:=λa=>by rw[Eb];exact h1
 have hs:∀a b,v (gB (bJ a b))=true->v (gB (bJ b a))=true:=λa b e=>by rw[Oa];exact e
 refine⟨hr,hs,λa b c ha hb hc e1 e2=>?_⟩;by_cases h3:c<a
 ·exact h2 a ha b hb c h3 e1 e2
 ·by_cases h4:a<c
  ·exact hs _ _ (h2 c hc b hb a h4 (hs _ _ e2) (hs _ _ e1))
  ·have:a=c:=(by omega);subst this;exact hr a
theorem F5{v:Key->Bool}{f:Nat->Nat}{ts:List Key}{cs:List (Int×Nat)}{ps:List Key}{hl:List Bool}(hi:aP ts.length cs.length ps)(hk:fD cs ps)(h0:0<ps.length)
 (ht:∀i (hi:i<ts.length),ts[i].2.1<ts.length/\ts[i].2.2<ts.length)(hc:∀x∈cs,(x.1=80\/x.1=81)/\x.2<ts.length)
 (h:Hold v (zK ts cs ps))(hf:∀a b,a<ts.length->b<ts.length->(f a=f b↔v (gB (bJ a b))=true))(hh:∀c (h:c<cs.length),hl.getD c false=v (cs[c].1,c,0)):Ak f ts cs ps hl:=by
 unfold zK at h;rw[dZ,dZ,dZ]at h;obtain⟨⟨⟨h1,h2⟩,h3⟩,h4⟩:=h;obtain⟨e1,e2,e3⟩:=Zp h2;refine⟨?_,?_,?_⟩
 ·rw[iJ];intro i j hi' hj' p1 p2 p3;obtain⟨a1,a2⟩:=ht i hi';obtain⟨b1,b2⟩:=ht j hj';have q2:=(hf _ _ a1 b1).1 p2;have q3:=(hf _ _ a2 b2).1 p3;refine(hf i j hi' hj').2 ?_;have key:=EX.1 h3;by_cases hij:j<i
  ·have:=key i hi' j hij;rw[aG hi',aG hj']at this;exact this p1 q2 q3
  ·by_cases hji:i<j
   ·have:=key j hj' i hji;rw[aG hi',aG hj']at this;exact e2 _ _ (this p1.symm (e2 _ _ q2) (e2 _ _ q3))
   ·have:i=j:=(by omega);subst this;exact e1 i
 ·rw[lS];intro i j hi' hj' p1 p2;have a1:=(hc _ (ac4 hi'));have b1:=(hc _ (ac4 hj'));have q2:=(hf _ _ a1.2 b1.2).1 p2;have key:=EU.1 h4;have s1:gB (cs[i].1,i,0)=(cs[i].1,i,0):=eX.other _ (by show cs[i].1≠61;omega);have s2:gB (cs[j].1,j,0)=(cs[j].1,j,0):=eX.other _ (by show cs[j].1≠61;omega);rw[hh i hi',hh j hj'];by_cases hij:j<i
  ·have:=key i hi' j hij;rw[aG hi',aG hj',s1,s2]at this;exact this p1 q2
  ·by_cases hji:i<j
   ·have:=key j hj' i hji;rw[aG hi',aG hj',s1,s2]at this;exact(this p1.symm (e2 _ _ q2)).symm
   ·have:i=j:=(by omega);subst this;rfl
 ·refine DZ hi h0 (uf.1 h1) (FU eX hi hk (λq hq h61=>?_) hh);obtain⟨i,hlt,e⟩:=ah1 hq;have ho:=hi.ok i hlt;rw[e]at ho;rcases ho with⟨a,_⟩|⟨a,_⟩|⟨a,_⟩|⟨_,g1,g2⟩
  ·omega
  ·rw[h61]at a;simp[au]at a
  ·omega
  ·have:=hf _ _ g1 g2;have eq:q=bJ q.2.1 q.2.2:=(by unfold bJ;rw[<-h61]);rw[<-eq]at this;exact this
theorem qA{sm:Key->Key}(hs:FW sm){f:Nat->Nat}{n:Nat}{hl:List Bool}{ps:List Key}{a b:Nat}(ha:a<n)(hb:b<n):cv (JR f n) hl ps (sm (bJ a b))=true↔f a=f b:=by
 rw[U7 hs (q:=bJ a b) rfl]
 show decide ((JR f n).getD a 0=(JR f n).getD b 0)=true↔_
 rw[aT f ha,aT f hb];simp only[ah4];omega
theorem GU{f:Nat->Nat}{ts:List Key}{cs:List (Int×Nat)}{ps:List Key}{hl:List Bool}(hi:aP ts.length cs.length ps)(h0:0<ps.length)(hn:0<ts.length)
 (ht:∀i (hi:i<ts.length),ts[i].2.1<ts.length/\ts[i].2.2<ts.length)(hc:∀x∈cs,(x.1=80\/x.1=81)/\x.2<ts.length)(h:Ak f ts cs ps hl):Hold (cv (JR f ts.length) hl ps) (zK ts cs ps):=by
 unfold zK;rw[dZ,dZ,dZ];refine⟨⟨⟨uf.2 (FK eX hi h0 h.Xn),EY.2 ⟨?_,λa ha b hb c hc'=>?_⟩⟩,EX.2 λa ha b hb=>?_⟩,EU.2 λa ha b hb=>?_⟩
 ·rw[qA eX hn hn]
 ·rw[qA eX ha hb,qA eX hb (by omega),qA eX ha (by omega)];exact Eq.trans
 ·have hb':b<ts.length:=by omega
  obtain⟨a1,a2⟩:=ht a ha;obtain⟨b1,b2⟩:=ht b hb';rw[aG ha,aG hb',qA eX a1 b1,qA eX a2 b2,qA eX ha hb'];exact(iJ f ts).1 h.Dp a b ha hb'
 ·have hb':b<cs.length:=by omega
  have a1:=hc _ (ac4 ha);have b1:=hc _ (ac4 hb');rw[aG ha,aG hb',qA eX a1.2 b1.2];intro p1 p2;have s1:gB (cs[a].1,a,0)=(cs[a].1,a,0):=eX.other _ (by show cs[a].1≠61;omega);have s2:gB (cs[b].1,b,0)=(cs[b].1,b,0):=eX.other _ (by show cs[b].1≠61;omega);rw[s1,s2,uw a1.1,uw b1.1];exact(lS f cs hl).1 h.Xr a b ha hb' p1 p2
theorem FZ{v:Key->Bool}{f:Nat->Nat}{ts:List Key}{cs:List (Int×Nat)}{ps:List Key}{hl:List Bool}(hi:aP ts.length cs.length ps)(hk:fD cs ps)(h0:0<ps.length)
 (h:Hold v (l9 id ps))(wG:wQ f ts)(aaB:NM f cs hl)(hf:∀q∈ps,q.1=61->(f q.2.1=f q.2.2↔v q=true))(hh:∀c (h:c<cs.length),hl.getD c false=v (cs[c].1,c,0)):Ak f ts cs ps hl:=
 ⟨wG,(lS f cs hl).2 aaB,DZ hi h0 (uf.1 h) (FU Jd hi hk hf hh)⟩
theorem GR{f:Nat->Nat}{ts:List Key}{cs:List (Int×Nat)}{ps:List Key}{hl:List Bool}(hi:aP ts.length cs.length ps)(h0:0<ps.length)(h:Ak f ts cs ps hl):Hold (cv (JR f ts.length) hl ps) (l9 id ps):=
 uf.2 (FK Jd hi h0 h.Xn)
def eqs(said:List aV):List (Nat×Nat):=(said.filter λl=>l.2&&decide (l.1.1=61)).map λl=>l.1.2
def aY(said:List aV):Nat->Nat:=iL id (eqs said)
theorem xG{said:List aV}{p:Nat×Nat}:p∈eqs said↔((61,p),true)∈said:=by
 unfold eqs;rw[ae8];constructor
 ·rintro⟨l,hl,rfl⟩;obtain⟨h1,h2⟩:=ah3.1 hl;simp at h2;obtain⟨⟨c,q⟩,b⟩:=l;simp at h2;obtain⟨rfl,rfl⟩:=h2;exact h1
 ·intro h;exact⟨_,ah3.2 ⟨h,by simp⟩,rfl⟩
structure Closed(ts:List Key)(f f':Nat->Nat):Prop where
 roots:iK f' ts.length
 Dp:wQ f' ts
 XV:∀a b,f a=f b->f' a=f' b
 least:∀R:Nat->Nat->Prop,Xt R->zO R ts->(∀a b,a<ts.length->b<ts.length->f a=f b->R a b)->∀a b,a<ts.length->b<ts.length->f' a=f' b->R a b
def cb(f':Nat->Nat)(cs:List (Int×Nat))(said:List aV):Prop:=
 (∀l∈said,l.1.1=61->l.2=false->f' l.1.2.1≠f' l.1.2.2)/\
 (∀l∈said,∀m∈said,l.1.1≠61->m.1.1≠61->l.1.1=m.1.1->f' (cs.getD l.1.2.1 (0,0)).2=f' (cs.getD m.1.2.1 (0,0)).2->l.2=m.2)
def abp(g:Nat->Nat)(hl:List Bool)(said:List aV):Prop:=
 ∀l∈said,(l.1.1=61->(g l.1.2.1=g l.1.2.2↔l.2=true))/\(l.1.1≠61->hl.getD l.1.2.1 false=l.2)
def og(ts:List Key)(cs:List (Int×Nat))(said:List aV):Prop:=
 ∀l∈said,(l.1.1=61/\l.1.2.1<ts.length/\l.1.2.2<ts.length)\/((l.1.1=80\/l.1.1=81)/\∃h:l.1.2.1<cs.length,cs[l.1.2.1].1=l.1.1)
theorem Q8{ts:List Key}{cs:List (Int×Nat)}{said:List aV}{f' g:Nat->Nat}{hl:List Bool}(hs:og ts cs said)(hc:Closed ts (aY said) f')(hct:∀x∈cs,(x.1=80\/x.1=81)/\x.2<ts.length)
 (hg:wQ g ts)(ha:NM g cs hl)(h:abp g hl said):cb f' cs said:=by
 have hle:=hc.least (λa b=>g a=g b) (CY g) ((iJ g ts).1 hg) (λa b h1 h2 e=>by
  refine Cb (CY g) (l:=eqs said) (f:=id) (λp hp=>?_) (λx y _ _ e=>by rw[show x=y from e]) a b h1 h2 e;have hm:=xG.1 hp;have hb:p.1<ts.length/\p.2<ts.length:=by
   rcases hs _ hm with⟨_,q1,q2⟩|⟨q,_⟩
   ·exact⟨q1,q2⟩
   ·simp at q
  exact⟨hb.1,hb.2,((h _ hm).1 rfl).2 rfl⟩)
 refine⟨λl hl' h61 hf e=>?_,λl hl' m hm h61 Ii hlet e=>?_⟩
 ·rcases hs l hl' with⟨_,q1,q2⟩|⟨q,_⟩
  ·have:=((h l hl').1 h61).1 (hle _ _ q1 q2 e);rw[hf]at this;cases this
  ·omega
 ·rcases hs l hl' with⟨q,_⟩|⟨_,p1,p2⟩
  ·exact absurd q h61
  ·rcases hs m hm with⟨q,_⟩|⟨_,r1,r2⟩
   ·exact absurd q Ii
   ·rw[aG p1,aG r1]at e;have:=ha _ _ p1 r1 (by rw[p2,r2];exact hlet) (hle _ _ (hct _ (ac4 p1)).2 (hct _ (ac4 r1)).2 e);rw[<-(h l hl').2 h61,<-(h m hm).2 Ii];exact this
theorem FM{v:Key->Bool}{ts:List Key}{cs:List (Int×Nat)}{ps:List Key}{hl:List Bool}{said:List aV}{f':Nat->Nat}(hi:aP ts.length cs.length ps)(hk:fD cs ps)(h0:0<ps.length)(hct:∀x∈cs,(x.1=80\/x.1=81)/\x.2<ts.length)
 (h:Hold v (l9 id ps))(hall:∀q∈ps,q.1=61\/q.1=80\/q.1=81->(q,v q)∈said)(hc:Closed ts (aY said) f')(hcb:cb f' cs said)(hh:∀c (h:c<cs.length),hl.getD c false=v (cs[c].1,c,0)):Ak f' ts cs ps hl:=by
 refine FZ hi hk h0 h hc.Dp (λi j hi' hj' e1 e2=>?_) (λq hq h61=>?_) hh
 ·rw[hh i hi',hh j hj'];have a1:=hct _ (ac4 hi');have b1:=hct _ (ac4 hj');have m1:=hall _ (hk.has i hi') (Or.inr a1.1);have m2:=hall _ (hk.has j hj') (Or.inr b1.1);exact hcb.2 _ m1 _ m2 (by show cs[i].1≠61;omega) (by show cs[j].1≠61;omega) e1 (by simp only;rw[aG hi',aG hj'];exact e2)
 ·have hm:=hall q hq (Or.inl h61);constructor
  ·intro e;cases hv:v q
   ·rw[hv]at hm;exact absurd e (hcb.1 _ hm h61 rfl)
   ·rfl
  ·intro hv;rw[hv]at hm;have:q.2∈eqs said:=xG.2 (by rw[<-h61];exact hm);exact hc.XV _ _ (yI this)
end
open Go.RowKit Go.Maps Go.WideMaps
open aB (Key put RT zQ RF RP RQ)
theorem x9{w w':World}{base b e k n:Nat}{v:Value}{xs:List Value}(h:w.ownsRow base e k v n xs)(hb:Below b w w')(hlt:w.heap.size<=b):w'.ownsRow base e k v n xs:=
 h.kept (row:=none) ⟨hb.os,hb.tape,hb.output,hb.size,λj hj _=>hb.block j (ac8 hj hlt)⟩ (by
  cases v<;>first|exact Or.inl rfl|skip
  rename_i p n c;cases p
  ·exact Or.inl rfl
  ·exact Or.inr (by simp[Value.ownBlock]))
theorem jM{w:World}{base e k n X i:Nat}{v x:Value}{xs:List Value}(h:w.ownsRow base e k v n xs)(hX:X<base):(w.setCell ⟨X,i,none⟩ x).ownsRow base e k v n xs:=by
 have hg:w.grownBy (w.setCell ⟨X,i,none⟩ x) (some X):=⟨rfl,rfl,rfl,by simp[World.setCell],λj _ hj=>ae3 _ _ _ _ (λe=>hj (by rw[e]))⟩;refine h.kept hg ?_;rcases h.2 with⟨rfl,_⟩|⟨g,cap,cur,rfl,hb,_⟩
 ·exact Or.inl rfl
 ·refine Or.inr (λe=>?_);simp only[Value.ownBlock,ai0]at e;omega
section
variable (w:World) (s:ByteArray)
theorem SH(hs:s.size<=100)(a1:Nat)(ts:List Key)(cs:List (Int×Nat))(ps:List Key)(m:Nat)(HR:Hid (aB.iT (pk s) (s.size+1) 0 0 [] [] []=.ok (a1,ts,cs,ps,m)))(heq:a1=s.size)(h7:ts.length<=7)(h4:cs.length<=4)
 (hnT:ts.Nodup)(hnC:cs.Nodup)(hnP:ps.Nodup)(hp:ps.length<=100)(hvT:∀x∈ts,∃l,keyOf prog 87 (aS x)=some l)(hvC:∀x∈cs,∃l,keyOf prog 90 (jg x)=some l)(hvP:∀x∈ps,∃l,keyOf prog 93 (aS x)=some l) :
  Calls prog 30 #[.string s] w λe w'=>∃GT GC GP,e=.returned (.tuple #[fv GT GC GP ts.length cs.length ps.length,.int .i64 0,.int .i64 0])/\Below w.heap.size w w'/\FR w' (w.heap.size+1) GT GC GP ts cs ps:=by
 have hmm:=@ar7 prog;have hb:decide ((100:Int)<(s.size:Int))=false:=by simp;omega
 go_enter func30,ntmps30
 go_wp2_with fail
 refine(jE _ _ _ _ s hs (s.size+1) (start w s) 0 0 [] [] [] (by omega) (by omega) (by simp) (by simp) (by simp) (by omega) (sK w s)).mono ?_;rw[ah HR];rintro e w1 ⟨k1,rfl,h1⟩
 go_wp2_with fail
 refine(JO w1 _ _ _ _ s a1 0 ts cs ps heq h1).mono ?_;rintro e w2 ⟨rfl,h2,k2⟩;have k3:=k1.trans k2;have r0:=fB k3 0;have r1:=fB k3 1;have r2:=fB k3 2;have q0:=dK k3 0;have q1:=dK k3 1;have q2:=dK k3 2;simp at r0 r1 r2;have c4:=h2.c4;have c5:=h2.c5;have c6:=h2.c6;have MP:=h2.lt;have mt:=aj h2.mt;have mc:=aj h2.mc;have mp:=aj h2.mp;obtain⟨D,hown,hsz,hall,_⟩:=h2.mt;obtain⟨D2,hown2,hsz2,Qa,_⟩:=h2.mc;have oK:=aj hsz;have Xg:=aj hsz2;clear hall Qa hsz hsz2;have hb7:decide ((7:Int)<(Maps.size D:Int))=false:=by rw[ah oK];simp;omega
 have hb4:decide ((4:Int)<(Maps.size D2:Int))=false:=by rw[ah Xg];simp;omega
 have hl2:=λty=>hown2.len underlying78 ty
 go_wp2_with (at_len;refine wpList_len_own _ rfl (.tmp 33) 76 rfl 87 3 underlying76 _ _ ts.length D rfl hown ?_)
 have hsz3:w.heap.size+5<=w2.heap.size:=by have:=k3.size;rw[nH]at this;exact this
 clear hb7 hb4 hl2 hown hown2;refine ag0 (S:=λW'=>W'.cell? ⟨w.heap.size+1+1+1+1,4,none⟩=some (.map (some (w.heap.size+1)))/\W'.cell? ⟨w.heap.size+1+1+1+1,5,none⟩=some (.map (some (w.heap.size+1+1)))/\W'.cell? ⟨w.heap.size+1+1+1+1,6,none⟩=some (.map (some (w.heap.size+1+1+1)))) rfl ?_;have hS0:w2.drew.cell? ⟨w.heap.size+1+1+1+1,4,none⟩=some (.map (some (w.heap.size+1)))/\w2.drew.cell? ⟨w.heap.size+1+1+1+1,5,none⟩=some (.map (some (w.heap.size+1+1)))/\w2.drew.cell? ⟨w.heap.size+1+1+1+1,6,none⟩=some (.map (some (w.heap.size+1+1+1))):=⟨c4,c5,c6⟩;change wpAnyH prog .any _ _ _ 13 #[false,false,false,false,false,false,false,false,false,false,false,false,false] _ w2.drew;refine tH 0 (.pointer (some ⟨w.heap.size+1+1+1+1,4,none⟩)) (λw' hS=>?_) hS0 ?_
 ·obtain⟨s4,s5,s6⟩:=hS;go_simp
 simp only[aC];refine tH 1 (.map (some (w.heap.size+1))) (λw' hS=>?_) hS0 ?_
 ·obtain⟨s4,s5,s6⟩:=hS;go_simp
 simp only[aC];refine tH 3 (.pointer (some ⟨w.heap.size+1+1+1+1,5,none⟩)) (λw' hS=>?_) hS0 ?_
 ·obtain⟨s4,s5,s6⟩:=hS;go_simp
 simp only[aC];refine tH 4 (.map (some (w.heap.size+1+1))) (λw' hS=>?_) hS0 ?_
 ·obtain⟨s4,s5,s6⟩:=hS;go_simp
 simp only[aC];refine tH 6 (.pointer (some ⟨w.heap.size+1+1+1+1,6,none⟩)) (λw' hS=>?_) hS0 ?_
 ·obtain⟨s4,s5,s6⟩:=hS;go_simp
 simp only[aC];refine tH 7 (.map (some (w.heap.size+1+1+1))) (λw' hS=>?_) hS0 ?_
 ·obtain⟨s4,s5,s6⟩:=hS;go_simp
 simp only[aC];refine oH 2 (λK hK=>?_);go_simp;refine(Lm (w.heap.size+1) ts _ (by omega) hnT (by exact(ah mt).kept rfl) hvT).mono ?_;rintro e w3 ⟨GT,rfl,hGT,bT,rowT⟩;have hST:w3.cell? ⟨w.heap.size+1+1+1+1,4,none⟩=some (.map (some (w.heap.size+1)))/\w3.cell? ⟨w.heap.size+1+1+1+1,5,none⟩=some (.map (some (w.heap.size+1+1)))/\w3.cell? ⟨w.heap.size+1+1+1+1,6,none⟩=some (.map (some (w.heap.size+1+1+1))):=⟨(bT.cell (p:=⟨w.heap.size+1+1+1+1,4,none⟩) (ac5 _ _ hS0.1)).trans hS0.1,(bT.cell (p:=⟨w.heap.size+1+1+1+1,5,none⟩) (ac5 _ _ hS0.2.1)).trans hS0.2.1,(bT.cell (p:=⟨w.heap.size+1+1+1+1,6,none⟩) (ac5 _ _ hS0.2.2)).trans hS0.2.2⟩;refine hK.out _ _ hST ?_;clear hK K;have mc3:aH w3 90 (w.heap.size+1+1) jg cs:=(ah mc).kept (bT.block _ (ah mc).lt);refine oH 5 (λK hK=>?_);go_simp;refine(Lp (w.heap.size+1+1) cs w3 (by omega) hnC mc3 hvC).mono ?_;rintro e w4 ⟨GC,rfl,hGC,bC,Vo⟩;have hSC:w4.cell? ⟨w.heap.size+1+1+1+1,4,none⟩=some (.map (some (w.heap.size+1)))/\w4.cell? ⟨w.heap.size+1+1+1+1,5,none⟩=some (.map (some (w.heap.size+1+1)))/\w4.cell? ⟨w.heap.size+1+1+1+1,6,none⟩=some (.map (some (w.heap.size+1+1+1))):=⟨(bC.cell (p:=⟨w.heap.size+1+1+1+1,4,none⟩) (ac5 _ _ hST.1)).trans hST.1,(bC.cell (p:=⟨w.heap.size+1+1+1+1,5,none⟩) (ac5 _ _ hST.2.1)).trans hST.2.1,(bC.cell (p:=⟨w.heap.size+1+1+1+1,6,none⟩) (ac5 _ _ hST.2.2)).trans hST.2.2⟩;refine hK.out _ _ hSC ?_;clear hK K;have mp4:aH w4 93 (w.heap.size+1+1+1) aS ps:=(ah mp).kept ((bC.block _ (ac8 (ah mp).lt bT.size)).trans (bT.block _ (ah mp).lt));refine oH 8 (λK hK=>?_);go_simp;refine(AV (w.heap.size+1+1+1) ps w4 (by omega) hnP mp4 hvP).mono ?_;rintro e w5 ⟨GP,rfl,hGP,bP,rowP⟩;have hSP:w5.cell? ⟨w.heap.size+1+1+1+1,4,none⟩=some (.map (some (w.heap.size+1)))/\w5.cell? ⟨w.heap.size+1+1+1+1,5,none⟩=some (.map (some (w.heap.size+1+1)))/\w5.cell? ⟨w.heap.size+1+1+1+1,6,none⟩=some (.map (some (w.heap.size+1+1+1))):=⟨(bP.cell (p:=⟨w.heap.size+1+1+1+1,4,none⟩) (ac5 _ _ hSC.1)).trans hSC.1,(bP.cell (p:=⟨w.heap.size+1+1+1+1,5,none⟩) (ac5 _ _ hSC.2.1)).trans hSC.2.1,(bP.cell (p:=⟨w.heap.size+1+1+1+1,6,none⟩) (ac5 _ _ hSC.2.2)).trans hSC.2.2⟩;refine hK.out _ _ hSP ?_;clear hK K;have sT:=bT.size;have sC:=bC.size;have sP:=bP.size;have sT':w2.heap.size<=w3.heap.size:=sT;have hb5:Below w2.heap.size w2 w5:=(⟨bT.os,bT.tape,bT.output,bT.size,bT.block⟩:Below w2.heap.size w2 w3).trans ((bC.mono sT').trans (bP.mono (ae4 sT' sC)));have r0':w5.cell? ⟨w.heap.size,0,none⟩=some (.slice none 0 0):=(hb5.cell (p:=⟨w.heap.size,0,none⟩) (by show w.heap.size<w2.heap.size;omega)).trans r0;have r1':w5.cell? ⟨w.heap.size,1,none⟩=some (.slice none 0 0):=(hb5.cell (p:=⟨w.heap.size,1,none⟩) (by show w.heap.size<w2.heap.size;omega)).trans r1;have r2':w5.cell? ⟨w.heap.size,2,none⟩=some (.slice none 0 0):=(hb5.cell (p:=⟨w.heap.size,2,none⟩) (by show w.heap.size<w2.heap.size;omega)).trans r2;have q0':w5.frozen? ⟨w.heap.size,0,none⟩=false:=(ah5 (hb5.block _ (by show w.heap.size<w2.heap.size;omega))).trans q0;have q1':w5.frozen? ⟨w.heap.size,1,none⟩=false:=(ah5 (hb5.block _ (by show w.heap.size<w2.heap.size;omega))).trans q1;have q2':w5.frozen? ⟨w.heap.size,2,none⟩=false:=(ah5 (hb5.block _ (by show w.heap.size<w2.heap.size;omega))).trans q2;refine oH 9 (λK hK=>?_);go_simp;refine hK.out _ _ hSP ?_;clear hK K;refine oH 10 (λK hK=>?_);go_simp;have hSF:∀(a b c:Value),(((w5.setCell ⟨w.heap.size,0,none⟩ a).setCell ⟨w.heap.size,1,none⟩ b).setCell ⟨w.heap.size,2,none⟩ c).cell? ⟨w.heap.size+1+1+1+1,4,none⟩=some (.map (some (w.heap.size+1)))/\
   (((w5.setCell ⟨w.heap.size,0,none⟩ a).setCell ⟨w.heap.size,1,none⟩ b).setCell ⟨w.heap.size,2,none⟩ c).cell? ⟨w.heap.size+1+1+1+1,5,none⟩=some (.map (some (w.heap.size+1+1)))/\
   (((w5.setCell ⟨w.heap.size,0,none⟩ a).setCell ⟨w.heap.size,1,none⟩ b).setCell ⟨w.heap.size,2,none⟩ c).cell? ⟨w.heap.size+1+1+1+1,6,none⟩=some (.map (some (w.heap.size+1+1+1))):=λa b c=>by
  have hk:∀(u:World) (i j:Nat) (x:Value),(u.setCell ⟨w.heap.size,i,none⟩ x).cell? ⟨w.heap.size+1+1+1+1,j,none⟩=u.cell? ⟨w.heap.size+1+1+1+1,j,none⟩:=λu i j x=>ae0 (ae3 _ _ _ _ (by show w.heap.size+1+1+1+1≠w.heap.size;omega));simp only[hk];exact hSP
 refine hK.out _ _ (hSF _ _ _) ?_;clear hK K;refine oH 11 (λK hK=>?_);go_simp;refine hK.out _ _ (hSF _ _ _) ?_;clear hK K;refine oH 12 (λK hK=>?_);go_simp;refine hK.out _ _ (hSF _ _ _) (af4 (by kernel_rfl) ?_ _);clear hK K
 go_wp2_with fail
 have hbw:Below w.heap.size w w5:=(mF k3).trans (hb5.mono (by omega));refine af2 (v:=.tuple #[fv GT GC GP ts.length cs.length ps.length,.int .i64 0,.int .i64 0]) (by simp[results,results30,go_sem,fv,r0',r1',r2']) rfl ⟨GT,GC,GP,rfl,?_,?_⟩
 ·exact((hbw.setCell (ac2 _) _).setCell (ac2 _) _).setCell (ac2 _) _
 ·have gT:w.heap.size+1<=w2.heap.size:=by omega
  have g3:w.heap.size+1<=w3.heap.size:=by omega
  have g4:w.heap.size+1<=w4.heap.size:=by omega
  refine⟨jM (jM (jM (fO (x9 (x9 rowT bC (ac2 _)) bP (ac2 _)) gT) (by omega)) (by omega)) (by omega),
   jM (jM (jM (fO (x9 Vo bP (ac2 _)) g3) (by omega)) (by omega)) (by omega),jM (jM (jM (fO rowP g4) (by omega)) (by omega)) (by omega)⟩
end
end Go.Proofs.YthcppbmkacbbiaaGreat
