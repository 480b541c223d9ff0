import Derived.Test.YthcppbmkacbbiaaGreatXBC
set_option linter.unusedSimpArgs false
set_option maxHeartbeats 1000000
set_option maxRecDepth 100000
namespace Go.Proofs.YthcppbmkacbbiaaGreat
open Go.Proofs.Tryz
section
open Sat (View Rule je bG)
open aB (Key put lD dR jn au aO dF)
def Hold(v:Key->Bool)(L:List (List aT)):Prop:=∀c∈L,∃l∈c,lv v l=true
theorem dY{v:Key->Bool}{L M:List (List aT)}:Hold v (L++M)↔Hold v L/\Hold v M:=by
 unfold Hold;constructor
 ·intro h;exact⟨λc hc=>h c (ag7 _ hc),λc hc=>h c (am2 _ hc)⟩
 ·rintro⟨h1,h2⟩ c hc;rcases ae6.1 hc with hc|hc
  ·exact h1 c hc
  ·exact h2 c hc
structure jQ(Us:List Key)(ak:List Rule)(L:List (List aT)):Prop where
 lp:LP Us ak (λv=>Hold v L)
 mem:∀c∈L,∀l∈c,l.1∈Us
 len:ak.length=L.length
theorem jQ.nil:jQ [] [] []:=⟨LP.nil.imp (λ_=>⟨λ_ c hc=>by(cases hc),λ_=>trivial⟩),λc hc=>by(cases hc),rfl⟩
theorem jQ.so{Us:List Key}{ak:List Rule}{L:List (List aT)}(h:jQ Us ak L)(p:Key):jQ (put Us p) ak L:=
 ⟨h.lp.so p,λc hc l hl=>(cO Us p).mem (h.mem c hc l hl),h.len⟩
theorem jQ.demand{Us:List Key}{ak:List Rule}{L:List (List aT)}(h:jQ Us ak L){ls:List aT}(h0:ls≠[])(h1:ls.length<=1000)(hm:∀l∈ls,l.1∈Us):jQ Us (ak++[dd (ls.map (vw Us))]) (L++[ls]):=by
 refine⟨(h.lp.demand h0 h1 hm).imp (λv=>?_),λc hc=>?_,by simp[h.len]⟩
 ·rw[dY];refine and_congr Iff.rfl ⟨λe c hc=>?_,λe=>e ls (by simp)⟩;rw[ad8.1 hc];exact e
 ·rcases ae6.1 hc with hc|hc
  ·exact h.mem c hc
  ·rw[ad8.1 hc];exact hm
theorem aS(Us:List Key)(p:Key):p∈put Us p:=sH.2 (Or.inr rfl)
def kX(w f s:aT):List (List aT):=[[nl w,f],[nl w,s],[w,nl f,nl s]]
def pK(w f s:aT):List (List aT):=[[w,f,s],[w,nl f,nl s],[nl w,f,nl s],[nl w,nl f,s]]
theorem uI{v:Key->Bool}{w f s:aT}:Hold v (kX w f s)↔lv v w=(lv v f&&lv v s):=by
 unfold Hold kX;simp only[ag1,ai4,am7,forall_eq_or_imp,forall_eq,exists_eq_or_imp,exists_eq_left,vJ];cases lv v w<;>cases lv v f<;>cases lv v s<;>simp
theorem GX{v:Key->Bool}{w f s:aT}:Hold v (pK w f s)↔lv v w=(lv v f==lv v s):=by
 unfold Hold pK;simp only[ag1,ai4,am7,forall_eq_or_imp,forall_eq,exists_eq_or_imp,exists_eq_left,vJ];cases lv v w<;>cases lv v f<;>cases lv v s<;>simp
def xu(sm:Key->Key)(acc:List aT)(q:Key):List (List aT):=
 if q.1=38 then kX (sm q,true) (acc.getD q.2.1 ((0,0,0),false)) (acc.getD q.2.2 ((0,0,0),false))
 else if q.1=124 then kX (nl (sm q,true)) (nl (acc.getD q.2.1 ((0,0,0),false))) (nl (acc.getD q.2.2 ((0,0,0),false)))
 else if q.1=62 then kX (nl (sm q,true)) (acc.getD q.2.1 ((0,0,0),false)) (nl (acc.getD q.2.2 ((0,0,0),false)))
 else if q.1=45 then pK (sm q,true) (acc.getD q.2.1 ((0,0,0),false)) (acc.getD q.2.2 ((0,0,0),false))
 else []
theorem O5{sm:Key->Key}{v:Key->Bool}{acc:List aT}{q:Key}:Hold v (xu sm acc q)↔(au q.1=true->v (sm q)=jn q.1 (lv v (acc.getD q.2.1 ((0,0,0),false))) (lv v (acc.getD q.2.2 ((0,0,0),false)))):=by
 have hw:lv v (sm q,true)=v (sm q):=by simp[lv]
 unfold xu jn;by_cases h1:q.1=38
 ·rw[ad3 h1,uI,hw,ad3 h1];simp[au,h1]
 ·rw[ac2 h1];by_cases h2:q.1=124
  ·rw[ad3 h2,uI,vJ,vJ,vJ,hw];simp[au,h2]
  ·rw[ac2 h2];by_cases h3:q.1=62
   ·rw[ad3 h3,uI,vJ,vJ,hw];simp[au,h3]
   ·rw[ac2 h3];by_cases h4:q.1=45
    ·rw[ad3 h4,GX,hw];simp[au,h4]
    ·rw[ac2 h4];have:au q.1=false:=(by simp[au,h1,h2,h3,h4]);simp[this,Hold]
def tJ(sm:Key->Key):Nat->List Key->List (List aT)
 |0,_=>[]
 |k+1,ps=>tJ sm k ps++match ps[k]? with
  |some q=>xu sm (lits sm (ps.take k)) q
  |none=>[]
theorem AY{sm:Key->Key}{k:Nat}{ps:List Key}(h:k<ps.length):tJ sm (k+1) ps=tJ sm k ps++xu sm (lits sm (ps.take k)) ps[k]:=by
 show _++_=_
 rw[ab4 h]
theorem LQ{sm:Key->Key}{v:Key->Bool}{ps:List Key}:∀k,k<=ps.length->(Hold v (tJ sm k ps)↔LK sm v (ps.take k)):=by
 intro k
 induction k with
 |zero=>
  intro _;constructor
  ·intro _ ps1 q hp;simp at hp
  ·intro _ c hc;cases hc
 |succ k ih=>
  intro hk;have e:ps.take (k+1)=ps.take k++[ps[k]]:=by rw[af6,ab4 (by omega)];rfl
  rw[AY (by omega),dY,ih (by omega),O5,e,LK.snoc]
def lG(sm:Key->Key)(ps:List Key):List (List aT):=tJ sm ps.length ps++[[(lits sm ps).getD (ps.length-1) ((0,0,0),false)]]
theorem sV{sm:Key->Key}{v:Key->Bool}{ps:List Key}:Hold v (lG sm ps)↔Zm sm ps v:=by
 unfold lG Zm;rw[dY,LQ _ (ab3 _),ag9];refine and_congr Iff.rfl ⟨λh=>?_,λh c hc=>?_⟩
 ·obtain⟨l,hl,h1⟩:=h _ (ad8.2 rfl);rw[ad8.1 hl]at h1;exact h1
 ·rw[ad8.1 hc];exact⟨_,ad8.2 rfl,h⟩
def bH(a b:Nat):Key:=(61,a,b)
def Qb(sm:Key->Key)(n:Nat):List (List aT):=
 [[(sm (bH 0 0),true)]]++(List.range n).flatMap λa=>(List.range n).flatMap λb=>(List.range a).map λc=>[(sm (bH a b),false),(sm (bH b c),false),(sm (bH a c),true)]
def Uz(sm:Key->Key)(ts:List Key):List (List aT):=
 (List.range ts.length).flatMap λa=>(List.range a).flatMap λb=>
  if (ts.getD a (0,0,0)).1=(ts.getD b (0,0,0)).1 then [[(sm (bH (ts.getD a (0,0,0)).2.1 (ts.getD b (0,0,0)).2.1),false),(sm (bH (ts.getD a (0,0,0)).2.2 (ts.getD b (0,0,0)).2.2),false),(sm (bH a b),true)]]else []
def WQ(sm:Key->Key)(cs:List (Int×Nat)):List (List aT):=
 (List.range cs.length).flatMap λa=>(List.range a).flatMap λb=>
  if (cs.getD a (0,0)).1=(cs.getD b (0,0)).1 then
   [[(sm (bH (cs.getD a (0,0)).2 (cs.getD b (0,0)).2),false),(sm ((cs.getD a (0,0)).1,a,0),true),(sm ((cs.getD b (0,0)).1,b,0),false)],
    [(sm (bH (cs.getD a (0,0)).2 (cs.getD b (0,0)).2),false),(sm ((cs.getD a (0,0)).1,a,0),false),(sm ((cs.getD b (0,0)).1,b,0),true)]]else []
theorem jM{v:Key->Bool}{n:Nat}{g:Nat->List (List aT)}:Hold v ((List.range n).flatMap g)↔∀a,a<n->Hold v (g a):=by
 unfold Hold;constructor
 ·intro h a ha c hc;exact h c (aj6.2 ⟨a,ah2.2 ha,hc⟩)
 ·intro h c hc;obtain⟨a,ha,hc⟩:=aj6.1 hc;exact h a (ah2.1 ha) c hc
theorem ER{sm:Key->Key}{v:Key->Bool}{n:Nat}:Hold v (Qb sm n)↔v (sm (bH 0 0))=true/\∀a,a<n->∀b,b<n->∀c,c<a->v (sm (bH a b))=true->v (sm (bH b c))=true->v (sm (bH a c))=true:=by
 unfold Qb;rw[dY,jM];refine and_congr ?_ (ak1 λa=>ak1 λha=>?_)
 ·unfold Hold;simp only[ag1,ai4,am7,forall_eq,exists_eq_left,lv];cases v (sm (bH 0 0))<;>simp
 ·rw[jM];refine ak1 λb=>ak1 λhb=>?_;unfold Hold;constructor
  ·intro h c hc h1 h2;have:=h _ (ad9.2 ⟨c,ah2.2 hc,rfl⟩);simp[lv,h1,h2]at this;exact this
  ·intro h c hc;obtain⟨c',hc',rfl⟩:=ad9.1 hc;have:=h c' (ah2.1 hc');simp only[ag1,ai4,am7,exists_eq_or_imp,exists_eq_left,lv];cases h1:v (sm (bH a b))<;>cases h2:v (sm (bH b c'))<;>simp_all
theorem EP{sm:Key->Key}{v:Key->Bool}{ts:List Key}:Hold v (Uz sm ts)↔∀a,a<ts.length->∀b,b<a->(ts.getD a (0,0,0)).1=(ts.getD b (0,0,0)).1->v (sm (bH (ts.getD a (0,0,0)).2.1 (ts.getD b (0,0,0)).2.1))=true->v (sm (bH (ts.getD a (0,0,0)).2.2 (ts.getD b (0,0,0)).2.2))=true->v (sm (bH a b))=true:=by
 unfold Uz;rw[jM];refine ak1 λa=>ak1 λha=>?_;rw[jM];refine ak1 λb=>ak1 λhb=>?_;by_cases e:(ts.getD a (0,0,0)).1=(ts.getD b (0,0,0)).1
 ·rw[ad3 e];unfold Hold;simp only[ag1,ai4,am7,forall_eq,exists_eq_or_imp,exists_eq_left,lv];constructor
  ·intro h _ h1 h2;rw[h1,h2]at h;cases h3:v (sm (bH a b))<;>simp_all
  ·intro h;have:=h e;cases h1:v (sm (bH (ts.getD a (0,0,0)).2.1 (ts.getD b (0,0,0)).2.1))<;>cases h2:v (sm (bH (ts.getD a (0,0,0)).2.2 (ts.getD b (0,0,0)).2.2))<;>simp_all
 ·rw[ac2 e];exact⟨λ_ h=>absurd h e,λ_ c hc=>by cases hc⟩
theorem EN{sm:Key->Key}{v:Key->Bool}{cs:List (Int×Nat)}:Hold v (WQ sm cs)↔∀a,a<cs.length->∀b,b<a->(cs.getD a (0,0)).1=(cs.getD b (0,0)).1->v (sm (bH (cs.getD a (0,0)).2 (cs.getD b (0,0)).2))=true->v (sm ((cs.getD a (0,0)).1,a,0))=v (sm ((cs.getD b (0,0)).1,b,0)):=by
 unfold WQ;rw[jM];refine ak1 λa=>ak1 λha=>?_;rw[jM];refine ak1 λb=>ak1 λhb=>?_;by_cases e:(cs.getD a (0,0)).1=(cs.getD b (0,0)).1
 ·rw[ad3 e];unfold Hold;simp only[ag1,ai4,am7,forall_eq_or_imp,forall_eq,exists_eq_or_imp,exists_eq_left,lv];constructor
  ·rintro⟨h1,h2⟩ _ h3;rw[h3]at h1 h2;cases h4:v (sm ((cs.getD a (0,0)).1,a,0))<;>cases h5:v (sm ((cs.getD b (0,0)).1,b,0))<;>simp_all
  ·intro h;have:=h e;cases h3:v (sm (bH (cs.getD a (0,0)).2 (cs.getD b (0,0)).2))<;>cases h4:v (sm ((cs.getD a (0,0)).1,a,0))<;>cases h5:v (sm ((cs.getD b (0,0)).1,b,0))<;>simp_all
 ·rw[ac2 e];exact⟨λ_ h=>absurd h e,λ_ c hc=>by cases hc⟩
end
section
open aB (Key)
def iH(f:Nat->Nat)(l:List (Nat×Nat)):Nat->Nat:=l.foldl (λf p=>nJ f p.1 p.2) f
theorem AB(f:Nat->Nat)(l:List (Nat×Nat))(p:Nat×Nat):iH f (l++[p])=nJ (iH f l) p.1 p.2:=by
 unfold iH;rw[al5];rfl
def rts(f:Nat->Nat)(n:Nat):Nat:=(List.range n).countP λi=>decide (f i=i)
def iG(f:Nat->Nat)(n:Nat):Prop:=∀i,i<n->f i<n/\f (f i)=f i
theorem NQ(n:Nat):iG id n:=λ_ h=>⟨h,rfl⟩
theorem iG.nJ{f:Nat->Nat}{n:Nat}(h:iG f n){i j:Nat}(hi:i<n):iG (nJ f i j) n:=by
 intro k hk;have h1:=h k hk;have h2:=h i hi;unfold Proofs.YthcppbmkacbbiaaGreat.nJ;by_cases e:f k=f j
 ·rw[ad3 e];refine⟨h2.1,?_⟩;rw[h2.2];by_cases e2:f i=f j
  ·rw[ad3 e2]
  ·rw[ac2 e2]
 ·rw[ac2 e];refine⟨h1.1,?_⟩;rw[h1.2,ac2 e]
theorem iG.iH{f:Nat->Nat}{n:Nat}{l:List (Nat×Nat)}:iG f n->(∀p∈l,p.1<n)->iG (iH f l) n:=by
 induction l generalizing f with
 |nil=>intro h _;exact h
 |cons p l ih=>intro h hl;exact ih (h.nJ (hl p (by simp))) (λq hq=>hl q (by simp[hq]))
theorem sN(f:Nat->Nat)(i j k:Nat)(h:f k=f j):nJ f i j k=f i:=by unfold nJ;rw[ad3 h]
theorem lX(f:Nat->Nat)(i j k:Nat)(h:f k≠f j):nJ f i j k=f k:=by unfold nJ;rw[ac2 h]
theorem SA{f:Nat->Nat}{i j a b:Nat}(h:f a=f b):nJ f i j a=nJ f i j b:=by unfold nJ;rw[h]
theorem Lm(f:Nat->Nat)(i j:Nat):nJ f i j i=nJ f i j j:=by
 unfold nJ;rw[ad3 rfl];split<;>rfl
theorem EH{l:List (Nat×Nat)}:∀{f:Nat->Nat} {a b:Nat},f a=f b->iH f l a=iH f l b:=by
 induction l with
 |nil=>intro f a b h;exact h
 |cons p l ih=>intro f a b h;exact ih (SA h)
theorem yA{l:List (Nat×Nat)}:∀{f:Nat->Nat} {p:Nat×Nat},p∈l->iH f l p.1=iH f l p.2:=by
 induction l with
 |nil=>intro f p h;cases h
 |cons q l ih=>
  intro f p h;rcases ag1.1 h with e|h
  ·subst e;exact EH (l:=l) (Lm f p.1 p.2)
  ·exact ih h
structure WU(R:Nat->Nat->Prop):Prop where
 refl:∀a,R a a
 symm:∀a b,R a b->R b a
 trans:∀a b c,R a b->R b c->R a c
theorem CJ(f:Nat->Nat):WU (λa b=>f a=f b):=⟨λ_=>rfl,λ_ _ h=>h.symm,λ_ _ _ h k=>h.trans k⟩
theorem U7{R:Nat->Nat->Prop}(hR:WU R){f:Nat->Nat}{n i j:Nat}(hi:i<n)(hj:j<n)(h:∀a b,a<n->b<n->f a=f b->R a b)(hij:R i j):∀a b,a<n->b<n->nJ f i j a=nJ f i j b->R a b:=by
 intro a b ha hb e;by_cases e1:f a=f j<;>by_cases e2:f b=f j
 ·exact h a b ha hb (e1.trans e2.symm)
 ·rw[sN _ _ _ _ e1,lX _ _ _ _ e2]at e;exact hR.trans _ _ _ (h a j ha hj e1) (hR.trans _ _ _ (hR.symm _ _ hij) (h i b hi hb e))
 ·rw[lX _ _ _ _ e1,sN _ _ _ _ e2]at e;exact hR.trans _ _ _ (h a i ha hi e) (hR.trans _ _ _ hij (h j b hj hb e2.symm))
 ·rw[lX _ _ _ _ e1,lX _ _ _ _ e2]at e;exact h a b ha hb e
theorem BL{R:Nat->Nat->Prop}(hR:WU R){n:Nat}{l:List (Nat×Nat)}:∀{f:Nat->Nat},(∀p∈l,p.1<n/\p.2<n/\R p.1 p.2)->(∀a b,a<n->b<n->f a=f b->R a b)->∀a b,a<n->b<n->iH f l a=iH f l b->R a b:=by
 induction l with
 |nil=>intro f _ h;exact h
 |cons p l ih=>
  intro f hl h;obtain⟨h1,h2,h3⟩:=hl p (by simp);exact ih (λq hq=>hl q (by simp[hq])) (U7 hR h1 h2 h h3)
theorem MN{n:Nat}{p q:Nat->Bool}(hpq:∀i,i<n->p i=true->q i=true){x:Nat}(hx:x<n)(h1:p x=false)(h2:q x=true):(List.range n).countP p+1<=(List.range n).countP q:=by
 induction n with
 |zero=>omega
 |succ n ih=>
  rw[ao1,List.countP_append,List.countP_append];by_cases e:x=n
  ·subst e;have hle:(List.range x).countP p<=(List.range x).countP q:=by
    apply List.countP_mono_left;intro i hi;exact hpq i (by have:=ah2.1 hi;omega)
   simp[h1,h2];omega
  ·have:=ih (λi hi=>hpq i (by omega)) (by omega);have hn:=hpq n (by omega);have:([n]:List Nat).countP p<=([n]:List Nat).countP q:=by
    simp only[ao0,List.countP_nil];cases hp:p n
    ·simp
    ·simp[hn hp]
   omega
theorem wS{f:Nat->Nat}{n i j:Nat}(h:iG f n)(hi:i<n)(hj:j<n)(hne:f i≠f j):rts (nJ f i j) n+1<=rts f n:=by
 unfold rts;refine MN (x:=f j) (λk hk e=>?_) (h j hj).1 ?_ ?_
 ·have e:nJ f i j k=k:=by simpa using e
  have:f k=k:=by
   by_cases e2:f k=f j
   ·rw[sN _ _ _ _ e2]at e;rw[<-e]at e2;rw[(h i hi).2]at e2;exact absurd e2 hne
   ·rw[lX _ _ _ _ e2]at e;exact e
  simpa using this
 ·have:nJ f i j (f j)≠f j:=by rw[sN _ _ _ _ (h j hj).2];exact hne
  simpa using this
 ·simpa using (h j hj).2
theorem F6{f:Nat->Nat}{n i j:Nat}(h:iG f n)(hi:i<n)(hj:j<n):rts (nJ f i j) n<=rts f n:=by
 by_cases e:f i=f j
 ·rw[pq e];exact ab3 _
 ·have:=wS h hi hj e;omega
theorem UU(f:Nat->Nat)(n:Nat):rts f n<=n:=by
 unfold rts;have:=List.countP_le_length (p:=λi=>decide (f i=i)) (l:=List.range n);simpa using this
def wE(f:Nat->Nat)(ts:List Key):Prop:=∀p∈aY (mkd f ts) ts.length,f p.1=f p.2
def uf(R:Nat->Nat->Prop)(ts:List Key):Prop:=
 ∀i j (hi:i<ts.length) (hj:j<ts.length),ts[i].1=ts[j].1->R ts[i].2.1 ts[j].2.1->R ts[i].2.2 ts[j].2.2->R i j
theorem iF(f:Nat->Nat)(ts:List Key):wE f ts↔uf (λa b=>f a=f b) ts:=by
 have hA:=BF (mkd f ts) (λi j=>f i=f j) (λ_=>rfl) (λ_ _ e=>e.symm) (λ_ _ _ e1 e2=>e1.trans e2);rw[aU]at hA;unfold wE;rw[hA];constructor
 ·intro h i j hi hj e1 e2 e3;refine h i j hi hj ?_;simp[mkd,hi,hj,e1,e2,e3]
 ·intro h i j hi hj e;simp only[mkd,aj0,ab4 hi,ab4 hj,an3,ag8,an2]at e;exact h i j hi hj e.1 e.2.1 e.2.2
theorem N7{R:Nat->Nat->Prop}{f:Nat->Nat}{ts:List Key}(hR:uf R ts)(ht:∀i (hi:i<ts.length),ts[i].2.1<ts.length/\ts[i].2.2<ts.length)(h:∀a b,a<ts.length->b<ts.length->f a=f b->R a b) :
  ∀p∈aY (mkd f ts) ts.length,p.1<ts.length/\p.2<ts.length/\R p.1 p.2:=by
 intro p hp;have hm:=(iM (mkd f ts) ts.length (by rw[aU];exact ab3 _) p).1 hp;obtain⟨h1,h2,h3⟩:=hm;have hp1:p.1<ts.length:=by omega
 refine⟨hp1,h1,?_⟩;have e:(mkd f ts)[p.1]'(by rw[aU];exact hp1)=(mkd f ts)[p.2]'(by rw[aU];exact h1):=by
  refine(AQ (by rw[aU];exact hp1) (by rw[aU];exact h1)).1 ?_;rw[h2,Jw _ _ (by rw[aU];exact h1)]
 simp only[mkd,aj8,an2]at e;obtain⟨a1,a2⟩:=ht p.1 hp1;obtain⟨b1,b2⟩:=ht p.2 h1;exact hR p.1 p.2 hp1 h1 e.1 (h _ _ a1 b1 e.2.1) (h _ _ a2 b2 e.2.2)
end
open Go.RowKit
def TL(d:Nat):ByteArray:=(⟨#[48,49,50,51,52,53,54,55,56,57]⟩:ByteArray).extract d (d+1)
theorem TK:∀d:Fin 10,(TL d.val).size=1/\(TL d.val).data.toList.any lV=false:=by decide +kernel
theorem IX{t:ByteArray}(h:t.size<=60)(hn:t.data.toList.any lV=false):dG t=false:=by
 unfold dG;rw[hn];simp;omega
theorem KP(w:World)(s:ByteArray) :
  Calls prog 25 #[.string s] w λe w'=>(∃t,e=.returned (.string t)/\dG t=false)/\w'=w:=by
 go_enter func25,ntmps25
 go_wp2_with fail
 go_loop [3,4] (λtv iv=>∃(k:Nat) (t:ByteArray),k<=60/\tv=.string t/\iv=.int .i64 k/\t.size<=k/\Hid (t.data.toList.any lV=false)) (λtv iv=>60-(intOf iv).toNat)
 case atStart=>exact⟨0,⟨#[]⟩,af4 _,rfl,rfl,ab3 _,aj (by decide)⟩
 case round=>
  obtain⟨k,t,hk,rfl,rfl,htk,hno⟩:=hrel;by_cases hlt:k<s.size
  ·have hbk:(k:Int)<(s.size:Int):=(by omega);by_cases h60:k<60
   ·have hb60:(k:Int)<60:=(by omega);have Vo:=s[k].toNat_lt;obtain⟨c,hc⟩:∃c:Nat,s[k].toNat=c:=⟨_,rfl⟩;obtain⟨d,hd⟩:∃d,c%10=d:=⟨_,rfl⟩;have hd10:d<10:=(by omega);have hm:(c:Int).tmod 10=(d:Int):=by
     rw[Int.tmod_eq_emod_of_nonneg (by omega)];omega
    have hdk:=TK ⟨d,hd10⟩;have HDK:=aj hdk;have HD:=aj hd;rw[hc]at Vo;clear hd hdk
    go_wp2_with fail
    refine⟨⟨k+1,t++TL d,by omega,rfl,by go_num,?_,?_⟩,by simp[intOf];omega⟩
    ·rw[ByteArray.size_append,(ah HDK).1];omega
    ·show(t++TL d).data.toList.any lV=false
     rw[ByteArray.data_append,Array.toList_append,List.any_append,ah hno,(ah HDK).2];rfl
   ·have hb60:¬(k:Int)<60:=(by omega);have hnt:dG t=false:=IX (by omega) (ah hno);have HNT:=aj hnt;clear hnt
    go_wp2_with fail
    refine ae3 (v:=.string t) (by simp[results,results25,go_sem]) rfl ⟨⟨t,rfl,ah HNT⟩,rfl⟩
  ·have hbk:¬(k:Int)<(s.size:Int):=(by omega);have hnt:dG t=false:=IX (by omega) (ah hno);have HNT:=aj hnt;clear hnt
   go_wp2_with fail
   refine ae3 (v:=.string t) (by simp[results,results25,go_sem]) rfl ⟨⟨t,rfl,ah HNT⟩,rfl⟩
end Go.Proofs.YthcppbmkacbbiaaGreat
