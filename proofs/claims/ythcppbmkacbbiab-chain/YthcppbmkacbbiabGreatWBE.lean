import Derived.Test.YthcppbmkacbbiabGreatWBA
import Derived.Test.YthcppbmkacbbiabGreatRows
import Derived.OpenShut
import Derived.ShutString
import Derived.ChangeOld
import Derived.Lib.SmallJoins
import Derived.Deep.Slices
set_option linter.unusedSimpArgs false
namespace Go.Proofs.YthcppbmkacbbiabGreat
open Go.Proofs.Tryz
section
open Sat (View Rule jk bG)
open aB (Key put oJ dY jn au aQ dJ)
structure Gs(sm:Key->Key):Prop where
 eq:∀q:Key,q.1=61->(sm q).1=61/\(sm q=q\/((sm q).2=(q.2.2,q.2.1))\/(q.2.1=q.2.2/\(sm q).2.1=(sm q).2.2))
 other:∀q:Key,q.1≠61->sm q=q
theorem JD:Gs id:=⟨λ_ h=>⟨h,Or.inl rfl⟩,λ_ _=>rfl⟩
def cv(cl:List Int)(hl:List Bool)(ps:List Key):Key->Bool:=λp=>oJ cl hl (dY cl hl ps) p
theorem VL{cl:List Int}{hl:List Bool}{ps:List Key}{q:Key}(h:q.1=61):cv cl hl ps q=decide (cl.getD q.2.1 0=cl.getD q.2.2 0):=by
 unfold cv oJ;rw[af6 h]
theorem uF{cl:List Int}{hl:List Bool}{ps:List Key}{q:Key}(h:q.1=80\/q.1=81):cv cl hl ps q=hl.getD q.2.1 false:=by
 have h1:q.1≠61:=by omega
 unfold cv oJ;rw[af2 h1,af6 h]
theorem VJ{sm:Key->Key}(hs:Gs sm){cl:List Int}{hl:List Bool}{ps:List Key}{q:Key}(h:q.1=61):cv cl hl ps (sm q)=decide (cl.getD q.2.1 0=cl.getD q.2.2 0):=by
 obtain⟨h1,h2⟩:=hs.eq q h;rw[VL h1];rcases h2 with e|e|⟨e1,e2⟩
 ·rw[e]
 ·rw[e];simp only[ar0];exact⟨Eq.symm,Eq.symm⟩
 ·rw[e1,e2];simp
theorem Gf{sm:Key->Key}(hs:Gs sm)(cl:List Int)(hl:List Bool)(ps qs:List Key):qj sm (cv cl hl ps) cl hl qs:=by
 refine λq _=>⟨λh=>VJ hs h,λh=>?_⟩;rw[hs.other q (by omega),uF h]
theorem Rk{sm:Key->Key}(hs:Gs sm){cl:List Int}{hl:List Bool}{nt nc:Nat}{ps:List Key}(hi:aQ nt nc ps):∀n,n<=ps.length->LK sm (cv cl hl ps) (ps.take n):=by
 intro n
 induction n with
 |zero=>
  intro _ ps1 q hp;simp at hp
 |succ n ih=>
  intro hn;have e:ps.take (n+1)=ps.take n++[ps[n]]:=by rw[ah1,ad6 (by omega)];rfl
  have hk:=ih (by omega);rw[e];refine LK.snoc.2 ⟨hk,λhj=>?_⟩;have hv:=yN (nt:=nt) (nc:=nc) (ps.take n) (λi h=>by
   have h2:i<ps.length:=(by simp at h;omega);rw[List.getElem_take];exact hi.ok i h2) hk (Gf hs cl hl ps (ps.take n))
  have hq:=hi.ok n (by omega);have hlen:(lits sm (ps.take n)).length=n:=by rw[iE];simp;omega
  have hpl:(dY cl hl (ps.take n)).length=n:=by rw[aB.iW];simp;omega
  have hpre:dY cl hl (ps.take n) <+: dY cl hl ps:=aB.rE (List.take_prefix _ _);have h33:ps[n].1≠33:=by intro e;rw[e]at hj;simp[au]at hj
  have h61:ps[n].1≠61:=by intro e;rw[e]at hj;simp[au]at hj
  have h80:¬(ps[n].1=80\/ps[n].1=81):=by rintro(e|e)<;>(rw[e]at hj;simp[au]at hj)
  rcases hq with⟨a,_⟩|⟨_,b,c⟩|⟨a,_⟩|⟨a,_⟩
  ·exact absurd a h33
  ·rw[fQ hv (by omega),fQ hv (by omega),hs.other _ h61];unfold cv oJ;rw[af2 h61,af2 h80,af2 h33,aB.mg hpre (by omega),aB.mg hpre (by omega)]
  ·exact absurd a h80
  ·exact absurd a h61
def Stt(sm:Key->Key)(ps:List Key)(v:Key->Bool):Prop:=LK sm v ps/\lv v ((lits sm ps).getD (ps.length-1) ((0,0,0),false))=true
theorem Ej{sm:Key->Key}{v:Key->Bool}{cl:List Int}{hl:List Bool}{nt nc:Nat}{ps:List Key}(hi:aQ nt nc ps)(h0:0<ps.length)(h:Stt sm ps v)(ha:qj sm v cl hl ps):(dY cl hl ps).getD (ps.length-1) false=true:=by
 have hv:=yN ps hi.ok h.1 ha;rw[<-h.2,fQ hv (by rw[iE];omega)]
theorem Gh{sm:Key->Key}(hs:Gs sm){cl:List Int}{hl:List Bool}{nt nc:Nat}{ps:List Key}(hi:aQ nt nc ps)(h0:0<ps.length)(h:(dY cl hl ps).getD (ps.length-1) false=true):Stt sm ps (cv cl hl ps):=by
 have hk:=Rk (cl:=cl) (hl:=hl) hs hi ps.length (ad5 _);rw[ai7]at hk;have hv:=yN ps hi.ok hk (Gf hs cl hl ps ps);exact⟨hk,by rw[fQ hv (by rw[iE];omega)];exact h⟩
def Hold(v:Key->Bool)(L:List (List aU)):Prop:=∀c∈L,∃l∈c,lv v l=true
theorem dZ{v:Key->Bool}{L M:List (List aU)}:Hold v (L++M)↔Hold v L/\Hold v M:=by
 unfold Hold;constructor
 ·intro h;exact⟨λc hc=>h c (ai5 _ hc),λc hc=>h c (ao7 _ hc)⟩
 ·rintro⟨h1,h2⟩ c hc;rcases ag9.1 hc with hc|hc
  ·exact h1 c hc
  ·exact h2 c hc
structure jW(Us:List Key)(ak:List Rule)(L:List (List aU)):Prop where
 lp:LP Us ak (λv=>Hold v L)
 mem:∀c∈L,∀l∈c,l.1∈Us
 len:ak.length=L.length
theorem jW.nil:jW [] [] []:=⟨LP.nil.imp (λ_=>⟨λ_ c hc=>by(cases hc),λ_=>trivial⟩),λc hc=>by(cases hc),rfl⟩
theorem jW.so{Us:List Key}{ak:List Rule}{L:List (List aU)}(h:jW Us ak L)(p:Key):jW (put Us p) ak L:=
 ⟨h.lp.so p,λc hc l hl=>(fH Us p).mem (h.mem c hc l hl),h.len⟩
theorem jW.demand{Us:List Key}{ak:List Rule}{L:List (List aU)}(h:jW Us ak L){ls:List aU}(h0:ls≠[])(h1:ls.length<=1000)(hm:∀l∈ls,l.1∈Us):jW Us (ak++[dd (ls.map (vw Us))]) (L++[ls]):=by
 refine⟨(h.lp.demand h0 h1 hm).imp (λv=>?_),λc hc=>?_,by simp[h.len]⟩
 ·rw[dZ];refine and_congr Iff.rfl ⟨λe c hc=>?_,λe=>e ls (by simp)⟩;rw[ag0.1 hc];exact e
 ·rcases ag9.1 hc with hc|hc
  ·exact h.mem c hc
  ·rw[ag0.1 hc];exact hm
theorem aT(Us:List Key)(p:Key):p∈put Us p:=tJ.2 (Or.inr rfl)
def lC(w f s:aU):List (List aU):=[[nl w,f],[nl w,s],[w,nl f,nl s]]
def pX(w f s:aU):List (List aU):=[[w,f,s],[w,nl f,nl s],[nl w,f,nl s],[nl w,nl f,s]]
theorem vC{v:Key->Bool}{w f s:aU}:Hold v (lC w f s)↔lv v w=(lv v f&&lv v s):=by
 unfold Hold lC;simp only[ah8,ak8,ap2,forall_eq_or_imp,forall_eq,exists_eq_or_imp,ar8,wB];cases lv v w<;>cases lv v f<;>cases lv v s<;>simp
theorem Io{v:Key->Bool}{w f s:aU}:Hold v (pX w f s)↔lv v w=(lv v f==lv v s):=by
 unfold Hold pX;simp only[ah8,ak8,ap2,forall_eq_or_imp,forall_eq,exists_eq_or_imp,ar8,wB];cases lv v w<;>cases lv v f<;>cases lv v s<;>simp
def xM(sm:Key->Key)(acc:List aU)(q:Key):List (List aU):=
 if q.1=38 then lC (sm q,true) (acc.getD q.2.1 ((0,0,0),false)) (acc.getD q.2.2 ((0,0,0),false))
 else if q.1=124 then lC (nl (sm q,true)) (nl (acc.getD q.2.1 ((0,0,0),false))) (nl (acc.getD q.2.2 ((0,0,0),false)))
 else if q.1=62 then lC (nl (sm q,true)) (acc.getD q.2.1 ((0,0,0),false)) (nl (acc.getD q.2.2 ((0,0,0),false)))
 else if q.1=45 then pX (sm q,true) (acc.getD q.2.1 ((0,0,0),false)) (acc.getD q.2.2 ((0,0,0),false))
 else []
theorem Qi{sm:Key->Key}{v:Key->Bool}{acc:List aU}{q:Key}:Hold v (xM sm acc q)↔(au q.1=true->v (sm q)=jn q.1 (lv v (acc.getD q.2.1 ((0,0,0),false))) (lv v (acc.getD q.2.2 ((0,0,0),false)))):=by
 have hw:lv v (sm q,true)=v (sm q):=by simp[lv]
 unfold xM jn;by_cases h1:q.1=38
 ·rw[af6 h1,vC,hw,af6 h1];simp[au,h1]
 ·rw[af2 h1];by_cases h2:q.1=124
  ·rw[af6 h2,vC,wB,wB,wB,hw];simp[au,h2]
  ·rw[af2 h2];by_cases h3:q.1=62
   ·rw[af6 h3,vC,wB,wB,hw];simp[au,h3]
   ·rw[af2 h3];by_cases h4:q.1=45
    ·rw[af6 h4,Io,hw];simp[au,h4]
    ·rw[af2 h4];have:au q.1=false:=(by simp[au,h1,h2,h3,h4]);simp[this,Hold]
def uD(sm:Key->Key):Nat->List Key->List (List aU)
 |0,_=>[]
 |k+1,ps=>uD sm k ps++match ps[k]? with
  |some q=>xM sm (lits sm (ps.take k)) q
  |none=>[]
theorem BI{sm:Key->Key}{k:Nat}{ps:List Key}(h:k<ps.length):uD sm (k+1) ps=uD sm k ps++xM sm (lits sm (ps.take k)) ps[k]:=by
 show _++_=_
 rw[ad6 h]
theorem Np{sm:Key->Key}{v:Key->Bool}{ps:List Key}:∀k,k<=ps.length->(Hold v (uD sm k ps)↔LK sm v (ps.take k)):=by
 intro k
 induction k with
 |zero=>
  intro _;constructor
  ·intro _ ps1 q hp;simp at hp
  ·intro _ c hc;cases hc
 |succ k ih=>
  intro hk;have e:ps.take (k+1)=ps.take k++[ps[k]]:=by rw[ah1,ad6 (by omega)];rfl
  rw[BI (by omega),dZ,ih (by omega),Qi,e,LK.snoc]
def lK(sm:Key->Key)(ps:List Key):List (List aU):=uD sm ps.length ps++[[(lits sm ps).getD (ps.length-1) ((0,0,0),false)]]
theorem uh{sm:Key->Key}{v:Key->Bool}{ps:List Key}:Hold v (lK sm ps)↔Stt sm ps v:=by
 unfold lK Stt;rw[dZ,Np _ (ad5 _),ai7];refine and_congr Iff.rfl ⟨λh=>?_,λh c hc=>?_⟩
 ·obtain⟨l,hl,h1⟩:=h _ (ag0.2 rfl);rw[ag0.1 hl]at h1;exact h1
 ·rw[ag0.1 hc];exact⟨_,ag0.2 rfl,h⟩
def bH(a b:Nat):Key:=(61,a,b)
def QW(sm:Key->Key)(n:Nat):List (List aU):=
 [[(sm (bH 0 0),true)]]++(List.range n).flatMap λa=>(List.range n).flatMap λb=>(List.range a).map λc=>[(sm (bH a b),false),(sm (bH b c),false),(sm (bH a c),true)]
def VG(sm:Key->Key)(ts:List Key):List (List aU):=
 (List.range ts.length).flatMap λa=>(List.range a).flatMap λb=>
  if (ts.getD a (0,0,0)).1=(ts.getD b (0,0,0)).1 then [[(sm (bH (ts.getD a (0,0,0)).2.1 (ts.getD b (0,0,0)).2.1),false),(sm (bH (ts.getD a (0,0,0)).2.2 (ts.getD b (0,0,0)).2.2),false),(sm (bH a b),true)]]else []
def X8(sm:Key->Key)(cs:List (Int×Nat)):List (List aU):=
 (List.range cs.length).flatMap λa=>(List.range a).flatMap λb=>
  if (cs.getD a (0,0)).1=(cs.getD b (0,0)).1 then
   [[(sm (bH (cs.getD a (0,0)).2 (cs.getD b (0,0)).2),false),(sm ((cs.getD a (0,0)).1,a,0),true),(sm ((cs.getD b (0,0)).1,b,0),false)],
    [(sm (bH (cs.getD a (0,0)).2 (cs.getD b (0,0)).2),false),(sm ((cs.getD a (0,0)).1,a,0),false),(sm ((cs.getD b (0,0)).1,b,0),true)]]else []
theorem jU{v:Key->Bool}{n:Nat}{g:Nat->List (List aU)}:Hold v ((List.range n).flatMap g)↔∀a,a<n->Hold v (g a):=by
 unfold Hold;constructor
 ·intro h a ha c hc;exact h c (al8.2 ⟨a,aj2.2 ha,hc⟩)
 ·intro h c hc;obtain⟨a,ha,hc⟩:=al8.1 hc;exact h a (aj2.1 ha) c hc
theorem FP{sm:Key->Key}{v:Key->Bool}{n:Nat}:Hold v (QW sm n)↔v (sm (bH 0 0))=true/\∀a,a<n->∀b,b<n->∀c,c<a->v (sm (bH a b))=true->v (sm (bH b c))=true->v (sm (bH a c))=true:=by
 unfold QW;rw[dZ,jU];refine and_congr ?_ (am4 λa=>am4 λha=>?_)
 ·unfold Hold;simp only[ah8,ak8,ap2,forall_eq,ar8,lv];cases v (sm (bH 0 0))<;>simp
 ·rw[jU];refine am4 λb=>am4 λhb=>?_;unfold Hold;constructor
  ·intro h c hc h1 h2;have:=h _ (af9.2 ⟨c,aj2.2 hc,rfl⟩);simp[lv,h1,h2]at this;exact this
  ·intro h c hc;obtain⟨c',hc',rfl⟩:=af9.1 hc;have:=h c' (aj2.1 hc');simp only[ah8,ak8,ap2,exists_eq_or_imp,ar8,lv];cases h1:v (sm (bH a b))<;>cases h2:v (sm (bH b c'))<;>simp_all
theorem FN{sm:Key->Key}{v:Key->Bool}{ts:List Key}:Hold v (VG sm ts)↔∀a,a<ts.length->∀b,b<a->(ts.getD a (0,0,0)).1=(ts.getD b (0,0,0)).1->v (sm (bH (ts.getD a (0,0,0)).2.1 (ts.getD b (0,0,0)).2.1))=true->v (sm (bH (ts.getD a (0,0,0)).2.2 (ts.getD b (0,0,0)).2.2))=true->v (sm (bH a b))=true:=by
 unfold VG;rw[jU];refine am4 λa=>am4 λha=>?_;rw[jU];refine am4 λb=>am4 λhb=>?_;by_cases e:(ts.getD a (0,0,0)).1=(ts.getD b (0,0,0)).1
 ·rw[af6 e];unfold Hold;simp only[ah8,ak8,ap2,forall_eq,exists_eq_or_imp,ar8,lv];constructor
  ·intro h _ h1 h2;rw[h1,h2]at h;cases h3:v (sm (bH a b))<;>simp_all
  ·intro h;have:=h e;cases h1:v (sm (bH (ts.getD a (0,0,0)).2.1 (ts.getD b (0,0,0)).2.1))<;>cases h2:v (sm (bH (ts.getD a (0,0,0)).2.2 (ts.getD b (0,0,0)).2.2))<;>simp_all
 ·rw[af2 e];exact⟨λ_ h=>absurd h e,λ_ c hc=>by cases hc⟩
theorem FK{sm:Key->Key}{v:Key->Bool}{cs:List (Int×Nat)}:Hold v (X8 sm cs)↔∀a,a<cs.length->∀b,b<a->(cs.getD a (0,0)).1=(cs.getD b (0,0)).1->v (sm (bH (cs.getD a (0,0)).2 (cs.getD b (0,0)).2))=true->v (sm ((cs.getD a (0,0)).1,a,0))=v (sm ((cs.getD b (0,0)).1,b,0)):=by
 unfold X8;rw[jU];refine am4 λa=>am4 λha=>?_;rw[jU];refine am4 λb=>am4 λhb=>?_;by_cases e:(cs.getD a (0,0)).1=(cs.getD b (0,0)).1
 ·rw[af6 e];unfold Hold;simp only[ah8,ak8,ap2,forall_eq_or_imp,forall_eq,exists_eq_or_imp,ar8,lv];constructor
  ·rintro⟨h1,h2⟩ _ h3;rw[h3]at h1 h2;cases h4:v (sm ((cs.getD a (0,0)).1,a,0))<;>cases h5:v (sm ((cs.getD b (0,0)).1,b,0))<;>simp_all
  ·intro h;have:=h e;cases h3:v (sm (bH (cs.getD a (0,0)).2 (cs.getD b (0,0)).2))<;>cases h4:v (sm ((cs.getD a (0,0)).1,a,0))<;>cases h5:v (sm ((cs.getD b (0,0)).1,b,0))<;>simp_all
 ·rw[af2 e];exact⟨λ_ h=>absurd h e,λ_ c hc=>by cases hc⟩
end
section
open aB (Key)
def iI(f:Nat->Nat)(l:List (Nat×Nat)):Nat->Nat:=l.foldl (λf p=>nS f p.1 p.2) f
theorem Bl(f:Nat->Nat)(l:List (Nat×Nat))(p:Nat×Nat):iI f (l++[p])=nS (iI f l) p.1 p.2:=by
 unfold iI;rw[an8];rfl
def rts(f:Nat->Nat)(n:Nat):Nat:=(List.range n).countP λi=>decide (f i=i)
def iH(f:Nat->Nat)(n:Nat):Prop:=∀i,i<n->f i<n/\f (f i)=f i
theorem OJ(n:Nat):iH id n:=λ_ h=>⟨h,rfl⟩
theorem iH.nS{f:Nat->Nat}{n:Nat}(h:iH f n){i j:Nat}(hi:i<n):iH (nS f i j) n:=by
 intro k hk;have h1:=h k hk;have h2:=h i hi;unfold Proofs.YthcppbmkacbbiabGreat.nS;by_cases e:f k=f j
 ·rw[af6 e];refine⟨h2.1,?_⟩;rw[h2.2];by_cases e2:f i=f j
  ·rw[af6 e2]
  ·rw[af2 e2]
 ·rw[af2 e];refine⟨h1.1,?_⟩;rw[h1.2,af2 e]
theorem iH.iI{f:Nat->Nat}{n:Nat}{l:List (Nat×Nat)}:iH f n->(∀p∈l,p.1<n)->iH (iI f l) n:=by
 induction l generalizing f with
 |nil=>intro h _;exact h
 |cons p l ih=>intro h hl;exact ih (h.nS (hl p (by simp))) (λq hq=>hl q (by simp[hq]))
theorem tX(f:Nat->Nat)(i j k:Nat)(h:f k=f j):nS f i j k=f i:=by unfold nS;rw[af6 h]
theorem l9(f:Nat->Nat)(i j k:Nat)(h:f k≠f j):nS f i j k=f k:=by unfold nS;rw[af2 h]
theorem Ul{f:Nat->Nat}{i j a b:Nat}(h:f a=f b):nS f i j a=nS f i j b:=by unfold nS;rw[h]
theorem MW(f:Nat->Nat)(i j:Nat):nS f i j i=nS f i j j:=by
 unfold nS;rw[af6 rfl];split<;>rfl
theorem Fp{l:List (Nat×Nat)}:∀{f:Nat->Nat} {a b:Nat},f a=f b->iI f l a=iI f l b:=by
 induction l with
 |nil=>intro f a b h;exact h
 |cons p l ih=>intro f a b h;exact ih (Ul h)
theorem yO{l:List (Nat×Nat)}:∀{f:Nat->Nat} {p:Nat×Nat},p∈l->iI f l p.1=iI f l p.2:=by
 induction l with
 |nil=>intro f p h;cases h
 |cons q l ih=>
  intro f p h;rcases ah8.1 h with e|h
  ·subst e;exact Fp (l:=l) (MW f p.1 p.2)
  ·exact ih h
structure Yc(R:Nat->Nat->Prop):Prop where
 refl:∀a,R a a
 symm:∀a b,R a b->R b a
 trans:∀a b c,R a b->R b c->R a c
theorem Dt(f:Nat->Nat):Yc (λa b=>f a=f b):=⟨λ_=>rfl,λ_ _ h=>h.symm,λ_ _ _ h k=>h.trans k⟩
theorem Wq{R:Nat->Nat->Prop}(hR:Yc R){f:Nat->Nat}{n i j:Nat}(hi:i<n)(hj:j<n)(h:∀a b,a<n->b<n->f a=f b->R a b)(hij:R i j):∀a b,a<n->b<n->nS f i j a=nS f i j b->R a b:=by
 intro a b ha hb e;by_cases e1:f a=f j<;>by_cases e2:f b=f j
 ·exact h a b ha hb (e1.trans e2.symm)
 ·rw[tX _ _ _ _ e1,l9 _ _ _ _ e2]at e;exact hR.trans _ _ _ (h a j ha hj e1) (hR.trans _ _ _ (hR.symm _ _ hij) (h i b hi hb e))
 ·rw[l9 _ _ _ _ e1,tX _ _ _ _ e2]at e;exact hR.trans _ _ _ (h a i ha hi e) (hR.trans _ _ _ hij (h j b hj hb e2.symm))
 ·rw[l9 _ _ _ _ e1,l9 _ _ _ _ e2]at e;exact h a b ha hb e
theorem CY{R:Nat->Nat->Prop}(hR:Yc R){n:Nat}{l:List (Nat×Nat)}:∀{f:Nat->Nat},(∀p∈l,p.1<n/\p.2<n/\R p.1 p.2)->(∀a b,a<n->b<n->f a=f b->R a b)->∀a b,a<n->b<n->iI f l a=iI f l b->R a b:=by
 induction l with
 |nil=>intro f _ h;exact h
 |cons p l ih=>
  intro f hl h;obtain⟨h1,h2,h3⟩:=hl p (by simp);exact ih (λq hq=>hl q (by simp[hq])) (Wq hR h1 h2 h h3)
theorem NP{n:Nat}{p q:Nat->Bool}(hpq:∀i,i<n->p i=true->q i=true){x:Nat}(hx:x<n)(h1:p x=false)(h2:q x=true):(List.range n).countP p+1<=(List.range n).countP q:=by
 induction n with
 |zero=>omega
 |succ n ih=>
  rw[aq0,List.countP_append,List.countP_append];by_cases e:x=n
  ·subst e;have hle:(List.range x).countP p<=(List.range x).countP q:=by
    apply List.countP_mono_left;intro i hi;exact hpq i (by have:=aj2.1 hi;omega)
   simp[h1,h2];omega
  ·have:=ih (λi hi=>hpq i (by omega)) (by omega);have hn:=hpq n (by omega);have:([n]:List Nat).countP p<=([n]:List Nat).countP q:=by
    simp only[ap5,List.countP_nil];cases hp:p n
    ·simp
    ·simp[hn hp]
   omega
theorem xB{f:Nat->Nat}{n i j:Nat}(h:iH f n)(hi:i<n)(hj:j<n)(hne:f i≠f j):rts (nS f i j) n+1<=rts f n:=by
 unfold rts;refine NP (x:=f j) (λk hk e=>?_) (h j hj).1 ?_ ?_
 ·have e:nS f i j k=k:=by simpa using e
  have:f k=k:=by
   by_cases e2:f k=f j
   ·rw[tX _ _ _ _ e2]at e;rw[<-e]at e2;rw[(h i hi).2]at e2;exact absurd e2 hne
   ·rw[l9 _ _ _ _ e2]at e;exact e
  simpa using this
 ·have:nS f i j (f j)≠f j:=by rw[tX _ _ _ _ (h j hj).2];exact hne
  simpa using this
 ·simpa using (h j hj).2
theorem GX{f:Nat->Nat}{n i j:Nat}(h:iH f n)(hi:i<n)(hj:j<n):rts (nS f i j) n<=rts f n:=by
 by_cases e:f i=f j
 ·rw[pK e];exact ad5 _
 ·have:=xB h hi hj e;omega
theorem V5(f:Nat->Nat)(n:Nat):rts f n<=n:=by
 unfold rts;have:=List.countP_le_length (p:=λi=>decide (f i=i)) (l:=List.range n);simpa using this
def qh(f:Nat->Nat)(ts:List Key):Prop:=∀p∈aO (mkd f ts) ts.length,f p.1=f p.2
def KF(R:Nat->Nat->Prop)(ts:List Key):Prop:=
 ∀i j (hi:i<ts.length) (hj:j<ts.length),ts[i].1=ts[j].1->R ts[i].2.1 ts[j].2.1->R ts[i].2.2 ts[j].2.2->R i j
theorem iG(f:Nat->Nat)(ts:List Key):qh f ts↔KF (λa b=>f a=f b) ts:=by
 have hA:=CO (mkd f ts) (λi j=>f i=f j) (λ_=>rfl) (λ_ _ e=>e.symm) (λ_ _ _ e1 e2=>e1.trans e2);rw[aV]at hA;unfold qh;rw[hA];constructor
 ·intro h i j hi hj e1 e2 e3;refine h i j hi hj ?_;simp[mkd,hi,hj,e1,e2,e3]
 ·intro h i j hi hj e;simp only[mkd,aj8,ad6 hi,ad6 hj,ap9,ai4,ar2]at e;exact h i j hi hj e.1 e.2.1 e.2.2
theorem OZ{R:Nat->Nat->Prop}{f:Nat->Nat}{ts:List Key}(hR:KF R ts)(ht:∀i (hi:i<ts.length),ts[i].2.1<ts.length/\ts[i].2.2<ts.length)(h:∀a b,a<ts.length->b<ts.length->f a=f b->R a b) :
  ∀p∈aO (mkd f ts) ts.length,p.1<ts.length/\p.2<ts.length/\R p.1 p.2:=by
 intro p hp;have hm:=(gU (mkd f ts) ts.length (by rw[aV];exact ad5 _) p).1 hp;obtain⟨h1,h2,h3⟩:=hm;have hp1:p.1<ts.length:=by omega
 refine⟨hp1,h1,?_⟩;have e:(mkd f ts)[p.1]'(by rw[aV];exact hp1)=(mkd f ts)[p.2]'(by rw[aV];exact h1):=by
  refine(BA (by rw[aV];exact hp1) (by rw[aV];exact h1)).1 ?_;rw[h2,F6 _ _ (by rw[aV];exact h1)]
 simp only[mkd,ak0,ar2]at e;obtain⟨a1,a2⟩:=ht p.1 hp1;obtain⟨b1,b2⟩:=ht p.2 h1;exact hR p.1 p.2 hp1 h1 e.1 (h _ _ a1 b1 e.2.1) (h _ _ a2 b2 e.2.2)
end
section
open Sat (View Rule jk bG)
open aB (Key put oJ dY jn au aQ dJ fE)
def Rx(f:Nat->Nat)(n:Nat):List Int:=(List.range n).map λi=>(f i:Int)
theorem jF(f:Nat->Nat){n i:Nat}(h:i<n):(Rx f n).getD i 0=(f i:Int):=by
 unfold Rx;rw[ag2,aj8,List.getElem?_range h];rfl
structure xP(f:Nat->Nat)(ts:List Key)(cs:List (Int×Nat))(ps:List Key)(hl:List Bool):Prop where
 DI:qh f ts
 Ya:∀p∈aO (uX f cs) cs.length,hl.getD p.1 false=hl.getD p.2 false
 X7:(dY (Rx f ts.length) hl ps).getD (ps.length-1) false=true
def Vp(f:Nat->Nat)(cs:List (Int×Nat))(hl:List Bool):Prop:=∀i j (hi:i<cs.length) (hj:j<cs.length),cs[i].1=cs[j].1->f cs[i].2=f cs[j].2->hl.getD i false=hl.getD j false
theorem qM(f:Nat->Nat)(cs:List (Int×Nat))(hl:List Bool):(∀p∈aO (uX f cs) cs.length,hl.getD p.1 false=hl.getD p.2 false)↔Vp f cs hl:=by
 have hB:=CO (uX f cs) (λi j=>hl.getD i false=hl.getD j false) (λ_=>rfl) (λ_ _ e=>e.symm) (λ_ _ _ e1 e2=>e1.trans e2);rw[fO]at hB;rw[hB];constructor
 ·intro h i j hi hj e1 e2;exact h i j hi hj (by simp[uX,hi,hj,e1,e2])
 ·intro h i j hi hj e;simp only[uX,aj8,ad6 hi,ad6 hj,ap9,ai4,ar2]at e;exact h i j hi hj e.1 e.2
def fZ(q:Key):Key:=if q.1=61 then(if q.2.1=q.2.2 then(61,0,0)else if q.2.2<q.2.1 then(61,q.2.2,q.2.1)else q)else q
theorem eU:Gs fZ:=by
 refine⟨λq h=>?_,λq h=>?_⟩
 ·unfold fZ;rw[af6 h];by_cases e:q.2.1=q.2.2
  ·rw[af6 e];exact⟨rfl,Or.inr (Or.inr ⟨e,rfl⟩)⟩
  ·rw[af2 e];by_cases e2:q.2.2<q.2.1
   ·rw[af6 e2];exact⟨rfl,Or.inr (Or.inl rfl)⟩
   ·rw[af2 e2];exact⟨h,Or.inl rfl⟩
 ·unfold fZ;rw[af2 h]
theorem Ew(a:Nat):fZ (bH a a)=bH 0 0:=by simp[fZ,bH]
theorem OA(a b:Nat):fZ (bH a b)=fZ (bH b a):=by
 unfold fZ bH;simp only[al0];by_cases e:a=b
 ·subst e;rfl
 ·have e':¬b=a:=λh=>e h.symm;rw[af2 e,af2 e'];by_cases h:b<a
  ·rw[af6 h,af2 (by omega)]
  ·rw[af2 h,af6 (by omega)]
def zM(ts:List Key)(cs:List (Int×Nat))(ps:List Key):List (List aU):=lK fZ ps++QW fZ ts.length++VG fZ ts++X8 fZ cs
theorem aG{α:Type}{l:List α}{i:Nat}(h:i<l.length)(d:α):l.getD i d=l[i]:=by
 rw[ag2,ad6 h];rfl
theorem Gp{sm:Key->Key}(hs:Gs sm){v:Key->Bool}{f:Nat->Nat}{ts:List Key}{cs:List (Int×Nat)}{ps:List Key}{hl:List Bool}(hi:aQ ts.length cs.length ps)(hk:fE cs ps)
 (hf:∀q∈ps,q.1=61->(f q.2.1=f q.2.2↔v (sm q)=true))(hh:∀c (h:c<cs.length),hl.getD c false=v (cs[c].1,c,0)):qj sm v (Rx f ts.length) hl ps:=by
 intro q hq;obtain⟨i,hlt,e⟩:=ai0 hq;have ho:=hi.ok i hlt;rw[e]at ho;refine⟨λh=>?_,λh=>?_⟩
 ·rcases ho with⟨a,_⟩|⟨a,_⟩|⟨a,_⟩|⟨_,h1,h2⟩
  ·omega
  ·rw[h]at a;simp[au]at a
  ·omega
  ·rw[jF f h1,jF f h2];have:=hf q hq h;cases hv:v (sm q)
   ·rw[hv]at this;have:¬f q.2.1=f q.2.2:=λh=>by have:=this.1 h;cases this
    have:¬(f q.2.1:Int)=(f q.2.2:Int):=(by omega);simp[this]
   ·rw[hv]at this;have:=this.2 rfl;simp[this]
 ·obtain⟨h1,h2⟩:=hk.letter q hq h;rw[hs.other q (by omega),hh _ h1,h2];have h3:q.2.2=0:=by
   rcases ho with⟨a,_,b⟩|⟨a,_⟩|⟨_,_,b⟩|⟨a,_⟩
   ·exact b
   ·rcases h with h|h<;>(rw[h]at a;simp[au]at a)
   ·exact b
   ·omega
  congr 1
  rw[<-h3]
theorem Z8{v:Key->Bool}{n:Nat}(h:Hold v (QW fZ n)):(∀a,v (fZ (bH a a))=true)/\(∀a b,v (fZ (bH a b))=true->v (fZ (bH b a))=true)/\∀a b c,a<n->b<n->c<n->v (fZ (bH a b))=true->v (fZ (bH b c))=true->v (fZ (bH a c))=true:=by
 obtain⟨h1,h2⟩:=FP.1 h;rw[Ew]at h1;have hr:∀a,v (fZ (bH a a))=true:=λa=>by rw[Ew];exact h1
 have hs:∀a b,v (fZ (bH a b))=true->v (fZ (bH b a))=true:=λa b e=>by rw[OA];exact e
 refine⟨hr,hs,λa b c ha hb hc e1 e2=>?_⟩;by_cases h3:c<a
 ·exact h2 a ha b hb c h3 e1 e2
 ·by_cases h4:a<c
  ·exact hs _ _ (h2 c hc b hb a h4 (hs _ _ e2) (hs _ _ e1))
  ·have:a=c:=(by omega);subst this;exact hr a
theorem Gy{v:Key->Bool}{f:Nat->Nat}{ts:List Key}{cs:List (Int×Nat)}{ps:List Key}{hl:List Bool}(hi:aQ ts.length cs.length ps)(hk:fE cs ps)(h0:0<ps.length)
 (ht:∀i (hi:i<ts.length),ts[i].2.1<ts.length/\ts[i].2.2<ts.length)(hc:∀x∈cs,(x.1=80\/x.1=81)/\x.2<ts.length)
 (h:Hold v (zM ts cs ps))(hf:∀a b,a<ts.length->b<ts.length->(f a=f b↔v (fZ (bH a b))=true))(hh:∀c (h:c<cs.length),hl.getD c false=v (cs[c].1,c,0)):xP f ts cs ps hl:=by
 unfold zM at h;rw[dZ,dZ,dZ]at h;obtain⟨⟨⟨h1,h2⟩,h3⟩,h4⟩:=h;obtain⟨e1,e2,e3⟩:=Z8 h2;refine⟨?_,?_,?_⟩
 ·rw[iG];intro i j hi' hj' p1 p2 p3;obtain⟨a1,a2⟩:=ht i hi';obtain⟨b1,b2⟩:=ht j hj';have q2:=(hf _ _ a1 b1).1 p2;have q3:=(hf _ _ a2 b2).1 p3;refine(hf i j hi' hj').2 ?_;have key:=FN.1 h3;by_cases hij:j<i
  ·have:=key i hi' j hij;rw[aG hi',aG hj']at this;exact this p1 q2 q3
  ·by_cases hji:i<j
   ·have:=key j hj' i hji;rw[aG hi',aG hj']at this;exact e2 _ _ (this p1.symm (e2 _ _ q2) (e2 _ _ q3))
   ·have:i=j:=(by omega);subst this;exact e1 i
 ·rw[qM];intro i j hi' hj' p1 p2;have a1:=(hc _ (ad8 hi'));have b1:=(hc _ (ad8 hj'));have q2:=(hf _ _ a1.2 b1.2).1 p2;have key:=FK.1 h4;have s1:fZ (cs[i].1,i,0)=(cs[i].1,i,0):=eU.other _ (by show cs[i].1≠61;omega);have s2:fZ (cs[j].1,j,0)=(cs[j].1,j,0):=eU.other _ (by show cs[j].1≠61;omega);rw[hh i hi',hh j hj'];by_cases hij:j<i
  ·have:=key i hi' j hij;rw[aG hi',aG hj',s1,s2]at this;exact this p1 q2
  ·by_cases hji:i<j
   ·have:=key j hj' i hji;rw[aG hi',aG hj',s1,s2]at this;exact(this p1.symm (e2 _ _ q2)).symm
   ·have:i=j:=(by omega);subst this;rfl
 ·refine Ej hi h0 (uh.1 h1) (Gp eU hi hk (λq hq h61=>?_) hh);obtain⟨i,hlt,e⟩:=ai0 hq;have ho:=hi.ok i hlt;rw[e]at ho;rcases ho with⟨a,_⟩|⟨a,_⟩|⟨a,_⟩|⟨_,g1,g2⟩
  ·omega
  ·rw[h61]at a;simp[au]at a
  ·omega
  ·have:=hf _ _ g1 g2;have eq:q=bH q.2.1 q.2.2:=(by unfold bH;rw[<-h61]);rw[<-eq]at this;exact this
theorem pW{sm:Key->Key}(hs:Gs sm){f:Nat->Nat}{n:Nat}{hl:List Bool}{ps:List Key}{a b:Nat}(ha:a<n)(hb:b<n):cv (Rx f n) hl ps (sm (bH a b))=true↔f a=f b:=by
 rw[VJ hs (q:=bH a b) rfl]
 show decide ((Rx f n).getD a 0=(Rx f n).getD b 0)=true↔_
 rw[jF f ha,jF f hb];simp only[aj7];omega
theorem H9{f:Nat->Nat}{ts:List Key}{cs:List (Int×Nat)}{ps:List Key}{hl:List Bool}(hi:aQ ts.length cs.length ps)(h0:0<ps.length)(hn:0<ts.length)
 (ht:∀i (hi:i<ts.length),ts[i].2.1<ts.length/\ts[i].2.2<ts.length)(hc:∀x∈cs,(x.1=80\/x.1=81)/\x.2<ts.length)(h:xP f ts cs ps hl):Hold (cv (Rx f ts.length) hl ps) (zM ts cs ps):=by
 unfold zM;rw[dZ,dZ,dZ];refine⟨⟨⟨uh.2 (Gh eU hi h0 h.X7),FP.2 ⟨?_,λa ha b hb c hc'=>?_⟩⟩,FN.2 λa ha b hb=>?_⟩,FK.2 λa ha b hb=>?_⟩
 ·rw[pW eU hn hn]
 ·rw[pW eU ha hb,pW eU hb (by omega),pW eU ha (by omega)];exact Eq.trans
 ·have hb':b<ts.length:=by omega
  obtain⟨a1,a2⟩:=ht a ha;obtain⟨b1,b2⟩:=ht b hb';rw[aG ha,aG hb',pW eU a1 b1,pW eU a2 b2,pW eU ha hb'];exact(iG f ts).1 h.DI a b ha hb'
 ·have hb':b<cs.length:=by omega
  have a1:=hc _ (ad8 ha);have b1:=hc _ (ad8 hb');rw[aG ha,aG hb',pW eU a1.2 b1.2];intro p1 p2;have s1:fZ (cs[a].1,a,0)=(cs[a].1,a,0):=eU.other _ (by show cs[a].1≠61;omega);have s2:fZ (cs[b].1,b,0)=(cs[b].1,b,0):=eU.other _ (by show cs[b].1≠61;omega);rw[s1,s2,uF a1.1,uF b1.1];exact(qM f cs hl).1 h.Ya a b ha hb' p1 p2
theorem Gx{v:Key->Bool}{f:Nat->Nat}{ts:List Key}{cs:List (Int×Nat)}{ps:List Key}{hl:List Bool}(hi:aQ ts.length cs.length ps)(hk:fE cs ps)(h0:0<ps.length)
 (h:Hold v (lK id ps))(kS:qh f ts)(aa4:Vp f cs hl)(hf:∀q∈ps,q.1=61->(f q.2.1=f q.2.2↔v q=true))(hh:∀c (h:c<cs.length),hl.getD c false=v (cs[c].1,c,0)):xP f ts cs ps hl:=
 ⟨kS,(qM f cs hl).2 aa4,Ej hi h0 (uh.1 h) (Gp JD hi hk hf hh)⟩
theorem H8{f:Nat->Nat}{ts:List Key}{cs:List (Int×Nat)}{ps:List Key}{hl:List Bool}(hi:aQ ts.length cs.length ps)(h0:0<ps.length)(h:xP f ts cs ps hl):Hold (cv (Rx f ts.length) hl ps) (lK id ps):=
 uh.2 (Gh JD hi h0 h.X7)
end
open Go.ChangeShapes Go.WideShapes Go.ChangeAt Go.RowKit
open Go.ChangeMaps (open_string shut_string)
theorem Yl:ownKnob prog.godebug=none:=by kernel_rfl
theorem kL:laidOutB prog=true:=by kernel_rfl
end Go.Proofs.YthcppbmkacbbiabGreat
