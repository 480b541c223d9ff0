import Derived.Test.YthcppbmkacbbiaaGreatYAG
import Derived.Test.YthcppbmkacbbiaaGreatSrt
import Derived.Lib.Strings
import Derived.ScopeJumps
set_option linter.unusedSimpArgs false
namespace Go.Proofs.YthcppbmkacbbiaaGreat
namespace aB
section
variable {pk:Nat->Int} {N:Nat}
theorem KE{pk:Nat->Int}{σ:St}{c:Int}(h:oq pk σ c=true):σ.E=0/\pk σ.a=c:=by simpa[oq]using h
end
def rend(T:List (List UInt8))(k:Key):List UInt8:=
 if k.1=102 then 102::40::(T.getD k.2.1 []++[41])
 else if k.1=103 then 103::40::(T.getD k.2.1 []++44::(T.getD k.2.2 []++[41]))
 else [UInt8.ofNat k.1.toNat]
def texts(ts:List Key):List (List UInt8):=ts.foldl (λT k=>T++[rend T k]) []
theorem kE(ts:List Key)(k:Key):texts (ts++[k])=texts ts++[rend (texts ts) k]:=by
 unfold texts;rw[an0];rfl
theorem bY(ts:List Key):(texts ts).length=ts.length:=by
 suffices h:∀(ts:List Key) (T:List (List UInt8)),(ts.foldl (λT k=>T++[rend T k]) T).length=T.length+ts.length by
  have:=h ts [];simpa[texts]using this
 intro ts
 induction ts with
 |nil=>intro T;simp
 |cons k r ih=>intro T;simp only[List.foldl_cons,ih];simp;omega
def eH(n:Nat)(k:Key):Prop:=
 (97<=k.1/\k.1<=101/\k.2.1=0/\k.2.2=0)\/(k.1=102/\k.2.1<n/\k.2.2=0)\/(k.1=103/\k.2.1<n/\k.2.2<n)
theorem eH.mono{n m:Nat}{k:Key}(h:eH n k)(hm:n<=m):eH m k:=by
 rcases h with h|⟨h1,h2,h3⟩|⟨h1,h2,h3⟩
 ·exact Or.inl h
 ·exact Or.inr (Or.inl ⟨h1,by omega,h3⟩)
 ·exact Or.inr (Or.inr ⟨h1,by omega,by omega⟩)
theorem uO{T R:List (List UInt8)}{k:Key}(h:eH T.length k):rend (T++R) k=rend T k:=by
 rcases h with⟨h1,h2,h3,h4⟩|⟨h1,h2,h3⟩|⟨h1,h2,h3⟩
 ·unfold rend;rw[ad6 (by omega),ad6 (by omega),ad6 (by omega),ad6 (by omega)]
 ·unfold rend;rw[ae2 h1,ae2 h1];simp[ae7,aj9 h2]
 ·unfold rend;rw[ad6 (by omega),ae2 h1,ad6 (by omega),ae2 h1];simp[ae7,aj9 h2,aj9 h3]
def skip:Nat->List UInt8->Option (List UInt8)
 |0,_=>none
 |_+1,[]=>none
 |n+1,c::r=>
  if 97<=c/\c<=101 then some r
  else if c=102 then
   match r with
   |40::r1=>(match skip n r1 with|some (41::r2)=>some r2|_=>none)
   |_=>none
  else if c=103 then
   match r with
   |40::r1=>(match skip n r1 with|some (44::r2)=>(match skip n r2 with|some (41::r3)=>some r3|_=>none)|_=>none)
   |_=>none
  else none
def JX(t:List UInt8):Prop:=∃n,∀m,n<=m->∀r,skip m (t++r)=some r
theorem JX.cancel{t u x y:List UInt8}(ht:JX t)(hu:JX u)(h:t++x=u++y):t=u/\x=y:=by
 obtain⟨n,h1⟩:=ht;obtain⟨m,h2⟩:=hu;have a1:=h1 (n+m) (by omega) x;have a2:=h2 (n+m) (by omega) y;rw[h,a2]at a1;have e:y=x:=aj6 a1;subst e;exact⟨ar6 h,rfl⟩
theorem Pn{c:UInt8}(h:97<=c/\c<=101):JX [c]:=by
 refine⟨1,λm hm r=>?_⟩;obtain⟨k,rfl⟩:∃k,m=k+1:=⟨m-1,by omega⟩;simp[skip,h]
theorem XZ{t:List UInt8}(h:JX t):JX (102::40::(t++[41])):=by
 obtain⟨n,h1⟩:=h;refine⟨n+1,λm hm r=>?_⟩;obtain⟨k,rfl⟩:∃k,m=k+1:=⟨m-1,by omega⟩;have e:(102::40::(t++[41]))++r=102::40::(t++(41::r)):=by simp
 rw[e];unfold skip;rw[ad6 (by decide),ae2 rfl];simp only[h1 k (by omega)]
theorem XY{t u:List UInt8}(ht:JX t)(hu:JX u):JX (103::40::(t++44::(u++[41]))):=by
 obtain⟨n,h1⟩:=ht;obtain⟨n2,h2⟩:=hu;refine⟨n+n2+1,λm hm r=>?_⟩;obtain⟨k,rfl⟩:∃k,m=k+1:=⟨m-1,by omega⟩;have e:(103::40::(t++44::(u++[41])))++r=103::40::(t++(44::(u++(41::r)))):=by simp
 rw[e];unfold skip;rw[ad6 (by decide),ad6 (by decide),ae2 rfl];simp only[h1 k (by omega),h2 k (by omega)]
structure Inv(ts:List Key):Prop where
 key:∀i (h:i<ts.length),eH i ts[i]
 nd:(texts ts).Nodup
 tm:∀t∈texts ts,JX t
 get:∀i (h:i<ts.length),(texts ts).getD i []=rend (texts ts) ts[i]
theorem qP:Inv []:=⟨λi h=>absurd h (by simp),by simp[texts],by simp[texts],λi h=>absurd h (by simp)⟩
theorem getD_mem{T:List (List UInt8)}{i:Nat}(h:i<T.length):T.getD i []∈T:=by
 rw[ae7,ac3 h];exact ac4 h
theorem jX{α:Type}{T:List α}(hn:T.Nodup){i j:Nat}(hi:i<T.length)(hj:j<T.length)(h:T[i]=T[j]):i=j:=by
 rcases Nat.lt_trichotomy i j with hlt|he|hlt
 ·exact absurd h (al2.1 hn i j hi hj hlt)
 ·exact he
 ·exact absurd h.symm (al2.1 hn j i hj hi hlt)
theorem kQ{T:List (List UInt8)}(hn:T.Nodup){i j:Nat}(hi:i<T.length)(hj:j<T.length)(h:T.getD i []=T.getD j []):i=j:=by
 rw[ae7,ac3 hi,ae7,ac3 hj]at h;exact jX hn hi hj h
theorem Pm{T:List (List UInt8)}(hT:∀t∈T,JX t){k:Key}(h:eH T.length k):JX (rend T k):=by
 rcases h with⟨h1,h2,h3,h4⟩|⟨h1,h2,h3⟩|⟨h1,h2,h3⟩
 ·unfold rend;rw[ad6 (by omega),ad6 (by omega)];apply Pn;have e:(UInt8.ofNat k.1.toNat).toNat=k.1.toNat:=by simp;omega
  constructor
  ·rw[UInt8.le_iff_toNat_le,e];simp;omega
  ·rw[UInt8.le_iff_toNat_le,e];simp;omega
 ·unfold rend;rw[ae2 h1];exact XZ (hT _ (getD_mem h2))
 ·unfold rend;rw[ad6 (by omega),ae2 h1];exact XY (hT _ (getD_mem h2)) (hT _ (getD_mem h3))
theorem Ol{T:List (List UInt8)}(hn:T.Nodup)(hT:∀t∈T,JX t){k k':Key}(h:eH T.length k)(h':eH T.length k')(e:rend T k=rend T k'):k=k':=by
 obtain⟨c,x,y⟩:=k;obtain⟨c',x',y'⟩:=k';rcases h with⟨h1,h2,h3,h4⟩|⟨h1,h2,h3⟩|⟨h1,h2,h3⟩<;>rcases h' with⟨g1,g2,g3,g4⟩|⟨g1,g2,g3⟩|⟨g1,g2,g3⟩<;>simp only at h1 h2 h3 g1 g2 g3
 ·simp only at h4 g4;unfold rend at e;rw[ad6 (by simp only;omega),ad6 (by simp only;omega),ad6 (by simp only;omega),ad6 (by simp only;omega)]at e;have e1:UInt8.ofNat c.toNat=UInt8.ofNat c'.toNat:=by simpa using e
  have e2:=am8 UInt8.toNat e1;simp at e2;have:c=c':=by omega
  subst this;subst h3;subst h4;subst g3;subst g4;rfl
 ·exfalso;unfold rend at e;rw[ad6 (by simp only;omega),ad6 (by simp only;omega),ae2 (by simp only;omega)]at e;simp at e
 ·exfalso;unfold rend at e;rw[ad6 (by simp only;omega),ad6 (by simp only;omega),ad6 (by simp only;omega),ae2 (by simp only;omega)]at e;simp at e
 ·exfalso;unfold rend at e;rw[ae2 (by simp only;omega),ad6 (by simp only;omega),ad6 (by simp only;omega)]at e;simp at e
 ·unfold rend at e;rw[ae2 h1,ae2 g1]at e;simp only[List.cons.injEq,true_and]at e;have e2:=ar6 e;have:=kQ hn h2 g2 e2;subst this;subst h1;subst h3;subst g1;subst g3;rfl
 ·exfalso;unfold rend at e;rw[ae2 (by simp only;omega),ad6 (by simp only;omega),ae2 (by simp only;omega)]at e;simp at e
 ·exfalso;unfold rend at e;rw[ad6 (by simp only;omega),ae2 (by simp only;omega),ad6 (by simp only;omega),ad6 (by simp only;omega)]at e;simp at e
 ·exfalso;unfold rend at e;rw[ad6 (by simp only;omega),ae2 (by simp only;omega),ae2 (by simp only;omega)]at e;simp at e
 ·unfold rend at e;rw[ad6 (by simp only;omega),ae2 h1,ad6 (by simp only;omega),ae2 g1]at e;simp only[List.cons.injEq,true_and]at e;obtain⟨e2,e3⟩:=JX.cancel (hT _ (getD_mem h2)) (hT _ (getD_mem g2)) e;simp only[List.cons.injEq,true_and]at e3;have e4:=ar6 e3;have:=kQ hn h2 g2 e2;have:=kQ hn h3 g3 e4;subst h1;subst g1;simp;omega
theorem Inv.find{ts:List Key}(h:Inv ts){k:Key}(hk:eH ts.length k):(texts ts).contains (rend (texts ts) k)=ts.contains k/\(texts ts).idxOf (rend (texts ts) k)=ts.idxOf k:=by
 have hl:=bY ts;have hk':eH (texts ts).length k:=by rw[hl];exact hk
 have back:∀i (hi:i<ts.length),(texts ts)[i]'(by omega)=rend (texts ts) k->ts[i]=k:=λi hi e=>by
  have g:=h.get i hi;rw[ae7,ac3 (by omega)]at g;simp at g;exact Ol h.nd h.tm ((h.key i hi).mono (by omega)) hk' (g.symm.trans e)
 have fwd:∀i (hi:i<ts.length),ts[i]=k->(texts ts)[i]'(by omega)=rend (texts ts) k:=λi hi e=>by
  have g:=h.get i hi;rw[ae7,ac3 (by omega)]at g;simp at g;rw[g,e]
 have hm:rend (texts ts) k∈texts ts↔k∈ts:=by
  constructor
  ·intro hmem;obtain⟨i,hi,e⟩:=ah1 hmem;rw[<-back i (by omega) e];exact ac4 _
  ·intro hmem;obtain⟨i,hi,e⟩:=ah1 hmem;rw[<-fwd i hi e];exact ac4 _
 refine⟨by rw[Bool.eq_iff_iff];simpa using hm,?_⟩;by_cases hmem:k∈ts
 ·have hi:=af8 hmem;have e1:=fwd _ hi (ag2 hi);have hmem':=hm.2 hmem;have hj:=af8 hmem';have e2:=ag2 hj;exact jX h.nd hj (by omega) (e2.trans e1.symm)
 ·rw[ag4 hmem,ag4 (λe=>hmem (hm.1 e)),hl]
theorem Inv.put{ts:List Key}(h:Inv ts){k:Key}(hk:eH ts.length k):Inv (put ts k)/\texts (put ts k)=aB.put (texts ts) (rend (texts ts) k):=by
 have hf:=h.find hk;have hl:=bY ts;unfold aB.put;rw[hf.1];by_cases hc:ts.contains k=true
 ·rw[ae2 hc,ae2 hc];exact⟨h,rfl⟩
 ·rw[ad6 hc,ad6 hc];refine⟨⟨?_,?_,?_,?_⟩,kE ts k⟩
  ·intro i hi;by_cases hlt:i<ts.length
   ·rw[ah9 hlt];exact h.key i hlt
   ·have:i=ts.length:=(by simp at hi;omega);subst this;simpa using hk
  ·rw[kE];refine am9.2 ⟨h.nd,by simp,λa ha b hb=>?_⟩;simp at hb;subst hb;intro e;subst e;have hcc:(texts ts).contains (rend (texts ts) k)=true:=(by simpa using ha);rw[hf.1]at hcc;exact hc hcc
  ·intro t ht;rw[kE]at ht;rcases af7.1 ht with ht|ht
   ·exact h.tm t ht
   ·simp at ht;subst ht;exact Pm h.tm (by rw[hl];exact hk)
  ·intro i hi;rw[kE];by_cases hlt:i<ts.length
   ·rw[ah9 hlt,uO ((h.key i hlt).mono (by omega)),<-h.get i hlt];simp[ae7,aj9 (show i<(texts ts).length by omega)]
   ·have:i=ts.length:=(by simp at hi;omega);subst this;rw[uO (by simpa[hl]using hk)];simp[ae7,<-hl]
def bU(l:List UInt8)(a:Nat):Int:=match l[a]? with|some b=>(b.toNat:Int)|none=>0
theorem jK{l:List UInt8}{a:Nat}(h:bU l a≠0):a<l.length:=by
 unfold bU at h;by_cases hl:a<l.length
 ·exact hl
 ·rw[List.getElem?_eq_none (by omega)]at h;exact absurd rfl h
theorem jP{l:List UInt8}{a:Nat}{c:UInt8}(h:bU l a=(c.toNat:Int))(hc:c≠0):l[a]?=some c:=by
 have h0:c.toNat≠0:=λe=>hc (UInt8.toNat_inj.1 (by rw[e];rfl));have hl:=jK (l:=l) (a:=a) (by omega);unfold bU at h;rw[ac3 hl]at h ⊢;simp at h;have:l[a].toNat=c.toNat:=by omega
 rw[UInt8.toNat_inj.1 this]
theorem jQ{l:List UInt8}{a:Nat}{c:UInt8}(h:l[a]?=some c):cut l a (a+1)=[c]:=by
 have hl:a<l.length:=by
  by_cases hl:a<l.length
  ·exact hl
  ·rw[List.getElem?_eq_none (by omega)]at h;cases h
 rw[ac3 hl]at h;unfold cut;rw[show a+1-a=1 by omega,List.drop_eq_getElem_cons hl,aj6 h];rfl
theorem jR(l:List UInt8){x y z:Nat}(h1:x<=y)(h2:y<=z):cut l x z=cut l x y++cut l y z:=by
 unfold cut;rw[show z-x=(y-x)+(z-y) by omega,List.take_add,List.drop_drop,show x+(y-x)=y by omega]
def Dd(σ:St)(E:Int)(p:Nat):Prop:=σ.E=E/\σ.a=p/\E≠0
section
variable {pk:Nat->Int} {l:List UInt8} {E:Int} {p:Nat} {σ:St}
theorem Dd.one(h:Dd σ E p)(L:List Int):kK pk L σ=(σ,0):=by unfold kK;rw[ad6 (by rw[h.1];exact h.2.2)]
theorem Dd.sees(h:Dd σ E p)(c:Int):oq pk σ c=false:=by unfold oq;rw[an7 (by rw[h.1];exact h.2.2)];rfl
theorem Dd.shut(h:Dd σ E p):Dd (kH pk σ) E p:=by unfold kH;rw[h.one];exact h
theorem Dd.term(h:Dd σ E p)(n:Nat):fC l pk n σ=(σ,0):=by
 cases n with
 |zero=>rfl
 |succ n=>
  unfold fC;rw[h.one];have e:NP pk (λτ=>(fC l pk n τ).1) 0 σ=σ:=by unfold NP;rw[ad6 (by decide),ad6 (by decide)]
  simp only[e];unfold kL;rw[ad6 (by rw[h.1];exact h.2.2)]
theorem Dd.formula(h:Dd σ E p)(n:Nat):fP l pk n σ=σ:=by
 cases n with
 |zero=>rfl
 |succ n=>
  unfold fP;rw[ad6 (by rw[h.sees];simp),ad6 (by rw[h.sees,h.sees];simp),ad6 (by rw[h.sees];simp),h.term,h.one,h.term]
theorem Dd.O9(h:Dd σ E p)(x:Nat):kL l x σ=(σ,0):=by unfold kL;rw[ad6 (by rw[h.1];exact h.2.2)]
theorem Dd.XW(h:Dd σ E p)(x:Nat):rO l x σ=σ:=by unfold rO;rw[ad6 (by rw[h.1];exact h.2.2)]
end
def abq(l:List UInt8)(a d:Nat)(ts:List Key)(C:List (List UInt8))(r:RT)(x:St×Nat):Prop:=
 match r with
 |.ok (a1,aF,m)=>x=(⟨a1,d,0,texts aF,C⟩,m)/\Inv aF/\ts <+: aF/\m<aF.length/\(texts aF).getD m []=cut l a a1/\a<=a1
 |.error (E,p)=>Dd x.1 E p
def RelA(l:List UInt8)(a d:Nat)(ts:List Key)(C:List (List UInt8))(r:RT)(x:St):Prop:=
 match r with
 |.ok (a1,aF,m)=>x=⟨a1,d,0,texts aF,C⟩/\Inv aF/\ts <+: aF/\m<aF.length/\cut l a a1=40::((texts aF).getD m []++[41])/\a<=a1
 |.error (E,p)=>Dd x E p
def ZF(l:List UInt8)(a d:Nat)(ts:List Key)(C:List (List UInt8))(r:zQ)(x:St):Prop:=
 match r with
 |.ok (a1,aF,m,m2)=>x=⟨a1,d,0,texts aF,C⟩/\Inv aF/\ts <+: aF/\m<aF.length/\m2<aF.length/\cut l a a1=40::((texts aF).getD m []++44::((texts aF).getD m2 []++[41]))/\a<=a1
 |.error (E,p)=>Dd x E p
theorem iR{ts aF:List Key}(h:ts <+: aF):texts ts <+: texts aF:=by
 obtain⟨r,rfl⟩:=h
 suffices h:∀(r:List Key) (ts:List Key),texts ts <+: texts (ts++r)from h r ts
 intro r
 induction r with
 |nil=>intro ts;simp
 |cons k r ih=>
  intro ts;have h1:=ih (ts++[k]);rw[kE]at h1;have e:ts++k::r=ts++[k]++r:=by simp
  rw[e];exact(an6 _ _).trans h1
theorem lI{T U:List (List UInt8)}(h:T <+: U){i:Nat}(hi:i<T.length):U.getD i []=T.getD i []:=by
 obtain⟨r,rfl⟩:=h;simp[ae7,aj9 hi]
section
variable {l:List UInt8} {C:List (List UInt8)}
theorem mP{a d:Nat}{T:List (List UInt8)}(h:bU l a≠40):Dd (kJ (bU l) ⟨a,d,0,T,C⟩) 2 a:=by
 have hd:sS (bU l) ⟨a,d,0,T,C⟩=⟨a,d,0,T,C⟩:=by unfold sS;rw[ad6 (λe=>h (KE e.1).2)]
 unfold kJ;rw[hd];unfold kK ZM;rw[ae2 rfl,ad6 (by simpa using h)];exact⟨rfl,rfl,by decide⟩
theorem ji{a:Nat}{T:List (List UInt8)}(h:bU l a=40):Dd (kJ (bU l) ⟨a,8,0,T,C⟩) 3 a:=by
 have hd:sS (bU l) ⟨a,8,0,T,C⟩=⟨a,8,3,T,C⟩:=by unfold sS;rw[ae2 ⟨by simp[oq,h],rfl⟩]
 unfold kJ;rw[hd];unfold kK ZM;rw[ad6 (show ¬((3:Int)=0) by decide)];exact⟨rfl,rfl,by decide⟩
theorem dG{a d:Nat}{T:List (List UInt8)}(h:bU l a=40)(h8:d≠8):kJ (bU l) ⟨a,d,0,T,C⟩=⟨a+1,d+1,0,T,C⟩:=by
 have hd:sS (bU l) ⟨a,d,0,T,C⟩=⟨a,d,0,T,C⟩:=by unfold sS;rw[ad6 (λe=>h8 e.2)]
 unfold kJ;rw[hd];unfold kK ZM;rw[ae2 rfl,ae2 (by simpa using h)]
theorem yt{a d:Nat}{T:List (List UInt8)}{L:List Int}(h:L.contains (bU l a)=false):Dd (kK (bU l) L ⟨a,d,0,T,C⟩).1 2 a:=by
 unfold kK;rw[ae2 rfl,ad6 (by rw[h];simp)];exact⟨rfl,rfl,by decide⟩
theorem nO{a d:Nat}{T:List (List UInt8)}{L:List Int}(h:L.contains (bU l a)=true):kK (bU l) L ⟨a,d,0,T,C⟩=(⟨a+1,d,0,T,C⟩,bU l a):=by
 unfold kK;rw[ae2 rfl,ae2 h]
theorem nJ{a d:Nat}{T:List (List UInt8)}(h:bU l a≠41):Dd (kH (bU l) ⟨a,d,0,T,C⟩) 2 a:=by
 have:=yt (l:=l) (C:=C) (a:=a) (d:=d) (T:=T) (L:=[41]) (by simpa using h);unfold kH;exact this
theorem kG{a d:Nat}{T:List (List UInt8)}(h:bU l a=41):kH (bU l) ⟨a,d+1,0,T,C⟩=⟨a+1,d,0,T,C⟩:=by
 unfold kH;rw[nO (by simpa using h)];rfl
def Rt(l:List UInt8)(C:List (List UInt8))(n:Nat):Prop:=
 ∀(a d:Nat) (ts:List Key),a<=l.length->l.length<a+n->Inv ts->abq l a d ts C (dX (bU l) n a d ts) (fC l (bU l) n ⟨a,d,0,texts ts,C⟩)
theorem Au{n a d:Nat}{ts:List Key}(hT:Rt l C n)(_ha:a<=l.length)(hn:l.length<a+1+n)(hi:Inv ts) :
  RelA l a d ts C (arg1 (bU l) (dX (bU l) n) a d ts) (kH (bU l) (fC l (bU l) n (kJ (bU l) ⟨a,d,0,texts ts,C⟩)).1):=by
 unfold arg1;by_cases h40:bU l a=40
 ·rw[ae2 h40];have hlt:=jK (l:=l) (a:=a) (by omega);by_cases h8:d=8
  ·rw[ae2 h8];subst h8;have hd:=ji (l:=l) (C:=C) (T:=texts ts) h40;rw[hd.term];exact hd.shut
  ·rw[ad6 h8,dG h40 h8];have h:=hT (a+1) (d+1) ts (by omega) (by omega) hi;cases hR:dX (bU l) n (a+1) (d+1) ts with
   |error Ep=>
    obtain⟨E,p⟩:=Ep;rw[hR]at h;exact Dd.shut h
   |ok q=>
    obtain⟨a1,aF,m⟩:=q;rw[hR]at h;obtain⟨h1,h2,h3,h4,h5,h6⟩:=h;rw[h1];by_cases h41:bU l a1=41
    ·simp only[h41,aj0];rw[kG h41];refine⟨rfl,h2,h3,h4,?_,by omega⟩;have e0:=jQ (jP (l:=l) (a:=a) (c:=40) h40 (by decide));have e1:=jQ (jP (l:=l) (a:=a1) (c:=41) h41 (by decide));rw[jR l (show a<=a+1 by omega) (show a+1<=a1+1 by omega),jR l (show a+1<=a1 by omega) (show a1<=a1+1 by omega),e0,e1,h5];simp
    ·simp only[h41,am7];exact nJ h41
 ·rw[ad6 h40];have hd:=mP (l:=l) (C:=C) (d:=d) (T:=texts ts) h40;rw[hd.term];exact hd.shut
theorem KF{n a d:Nat}{ts:List Key}(hT:Rt l C n)(_ha:a<=l.length)(hn:l.length<a+1+n)(hi:Inv ts) :
  ZF l a d ts C (arg2 (bU l) (dX (bU l) n) a d ts) (kH (bU l) (fC l (bU l) n (kK (bU l) [44] (fC l (bU l) n (kJ (bU l) ⟨a,d,0,texts ts,C⟩)).1).1).1):=by
 unfold arg2;by_cases h40:bU l a=40
 ·rw[ae2 h40];have hlt:=jK (l:=l) (a:=a) (by omega);by_cases h8:d=8
  ·rw[ae2 h8];subst h8;have hd:=ji (l:=l) (C:=C) (T:=texts ts) h40;rw[hd.term,hd.one,hd.term];exact hd.shut
  ·rw[ad6 h8,dG h40 h8];have h:=hT (a+1) (d+1) ts (by omega) (by omega) hi;cases hR:dX (bU l) n (a+1) (d+1) ts with
   |error Ep=>
    obtain⟨E,p⟩:=Ep;rw[hR]at h;have hd:Dd (fC l (bU l) n ⟨a+1,d+1,0,texts ts,C⟩).1 E p:=h;rw[hd.one,hd.term];exact hd.shut
   |ok q=>
    obtain⟨a1,aF,m⟩:=q;rw[hR]at h;obtain⟨h1,h2,h3,h4,h5,h6⟩:=h;rw[h1];by_cases h44:bU l a1=44
    ·have hlt1:=jK (l:=l) (a:=a1) (by omega);simp only[h44,aj0];rw[nO (by simpa using h44)];have g:=hT (a1+1) (d+1) aF (by omega) (by omega) h2;cases hR2:dX (bU l) n (a1+1) (d+1) aF with
     |error Ep=>
      obtain⟨E,p⟩:=Ep;rw[hR2]at g;exact Dd.shut g
     |ok q=>
      obtain⟨a2,ts2,m2⟩:=q;rw[hR2]at g;obtain⟨g1,g2,g3,g4,g5,g6⟩:=g;simp only;rw[g1];have hlen:aF.length<=ts2.length:=g3.length_le;by_cases h41:bU l a2=41
      ·simp only[h41,aj0];rw[kG h41];refine⟨rfl,g2,h3.trans g3,by omega,g4,?_,by omega⟩;have e0:=jQ (jP (l:=l) (a:=a) (c:=40) h40 (by decide));have e1:=jQ (jP (l:=l) (a:=a1) (c:=44) h44 (by decide));have e2:=jQ (jP (l:=l) (a:=a2) (c:=41) h41 (by decide));have em:(texts ts2).getD m []=(texts aF).getD m []:=lI (iR g3) (by rw[bY];exact h4);rw[jR l (show a<=a+1 by omega) (show a+1<=a2+1 by omega),jR l (show a+1<=a1 by omega) (show a1<=a2+1 by omega),jR l (show a1<=a1+1 by omega) (show a1+1<=a2+1 by omega),
        jR l (show a1+1<=a2 by omega) (show a2<=a2+1 by omega),e0,e1,e2,em,h5,g5]
       simp
      ·simp only[h41,am7];exact nJ h41
    ·simp only[h44,am7];have hd:=yt (l:=l) (C:=C) (a:=a1) (d:=d+1) (T:=texts aF) (L:=[44]) (by simpa using h44);rw[hd.term];exact hd.shut
 ·rw[ad6 h40];have hd:=mP (l:=l) (C:=C) (d:=d) (T:=texts ts) h40;rw[hd.term,hd.one,hd.term];exact hd.shut
theorem BZ{a a1 d:Nat}{aF:List Key}{k:Key}(h:Inv aF)(hk:eH aF.length k)(hc:cut l a a1=rend (texts aF) k) :
  kL l a ⟨a1,d,0,texts aF,C⟩=(⟨a1,d,0,texts (put aF k),C⟩,aF.idxOf k):=by
 unfold kL;rw[ae2 rfl];simp only[hc];rw[(h.put hk).2,(h.find hk).2]
theorem Ce{ts:List Key}(h:Inv ts){k:Key}(hk:eH ts.length k):(texts (put ts k)).getD (ts.idxOf k) []=rend (texts ts) k:=by
 have hf:=h.find hk;rw[(h.put hk).2,<-hf.2];unfold aB.put;by_cases hc:(texts ts).contains (rend (texts ts) k)=true
 ·rw[ae2 hc];have hm:rend (texts ts) k∈texts ts:=by simpa using hc
  have hi:=af8 hm;rw[ae7,ac3 hi];exact ag2 hi
 ·rw[ad6 hc];have hm:¬rend (texts ts) k∈texts ts:=by simpa using hc
  rw[ag4 hm];simp[ae7]
theorem nM{ts:List Key}(k:Key):ts <+: put ts k:=by
 unfold put;split
 ·exact List.prefix_rfl
 ·exact an6 _ _
theorem uN:∀n,Rt l C n:=by
 intro n
 induction n with
 |zero=>intro a d ts ha hn;omega
 |succ n ih=>
  intro a d ts ha hn hi;unfold dX fC;by_cases hnm:isName (bU l a)=true
  ·rw[ae2 hnm];have hb:97<=bU l a/\bU l a<=101:=(by simpa[isName]using hnm);have hin:letters.contains (bU l a)=true:=(by simp[letters];omega);rw[nO hin];have hIn:NP (bU l) (λτ=>(fC l (bU l) n τ).1) (bU l a) ⟨a+1,d,0,texts ts,C⟩=⟨a+1,d,0,texts ts,C⟩:=(by unfold NP;rw[ad6 (by omega),ad6 (by omega)]);simp only[hIn];have hk:eH ts.length (bU l a,0,0):=Or.inl ⟨hb.1,hb.2,rfl,rfl⟩;have hc:cut l a (a+1)=rend (texts ts) (bU l a,0,0):=by
    have hg:=jP (l:=l) (a:=a) (c:=UInt8.ofNat (bU l a).toNat) (by simp;omega) (λe=>by have:=am8 UInt8.toNat e;simp at this;omega);rw[jQ hg];unfold rend;rw[ad6 (by simp only;omega),ad6 (by simp only;omega)]
   rw[BZ hi hk hc];exact⟨rfl,(hi.put hk).1,nM _,jB _ _,by rw[Ce hi hk,hc],by omega⟩
  ·rw[ad6 hnm];by_cases hf:bU l a=102
   ·rw[ae2 hf];have hlt:=jK (l:=l) (a:=a) (by omega);have hin:letters.contains (bU l a)=true:=(by rw[hf];decide);rw[nO hin,hf];have hIn:NP (bU l) (λτ=>(fC l (bU l) n τ).1) 102 ⟨a+1,d,0,texts ts,C⟩=kH (bU l) (fC l (bU l) n (kJ (bU l) ⟨a+1,d,0,texts ts,C⟩)).1:=(by unfold NP;rw[ae2 rfl]);simp only[hIn];have h:=Au (d:=d) ih (a:=a+1) (by omega) (by omega) hi;cases hR:arg1 (bU l) (dX (bU l) n) (a+1) d ts with
    |error Ep=>
     obtain⟨E,p⟩:=Ep;rw[hR]at h;have hd:Dd _ E p:=h
     show Dd (kL l a _).1 E p
     rw[hd.O9];exact hd
    |ok q=>
     obtain⟨a1,aF,m⟩:=q;rw[hR]at h;obtain⟨h1,h2,h3,h4,h5,h6⟩:=h;rw[h1];have hk:eH aF.length (102,m,0):=Or.inr (Or.inl ⟨rfl,h4,rfl⟩);have hc:cut l a a1=rend (texts aF) (102,m,0):=by
      rw[jR l (show a<=a+1 by omega) (show a+1<=a1 by omega),jQ (jP (l:=l) (a:=a) (c:=102) hf (by decide)),h5];rfl
     rw[BZ h2 hk hc];exact⟨rfl,(h2.put hk).1,h3.trans (nM _),jB _ _,by rw[Ce h2 hk,hc],by omega⟩
   ·rw[ad6 hf];by_cases hg:bU l a=103
    ·rw[ae2 hg];have hlt:=jK (l:=l) (a:=a) (by omega);have hin:letters.contains (bU l a)=true:=(by rw[hg];decide);rw[nO hin,hg];have hIn:NP (bU l) (λτ=>(fC l (bU l) n τ).1) 103 ⟨a+1,d,0,texts ts,C⟩=kH (bU l) (fC l (bU l) n (kK (bU l) [44] (fC l (bU l) n (kJ (bU l) ⟨a+1,d,0,texts ts,C⟩)).1).1).1:=by
      unfold NP;rw[ad6 (by decide),ae2 rfl]
     simp only[hIn];have h:=KF (d:=d) ih (a:=a+1) (by omega) (by omega) hi;cases hR:arg2 (bU l) (dX (bU l) n) (a+1) d ts with
     |error Ep=>
      obtain⟨E,p⟩:=Ep;rw[hR]at h;have hd:Dd _ E p:=h
      show Dd (kL l a _).1 E p
      rw[hd.O9];exact hd
     |ok q=>
      obtain⟨a1,aF,m,m2⟩:=q;rw[hR]at h;obtain⟨h1,h2,h3,h4,h4',h5,h6⟩:=h;rw[h1];have hk:eH aF.length (103,m,m2):=Or.inr (Or.inr ⟨rfl,h4,h4'⟩);have hc:cut l a a1=rend (texts aF) (103,m,m2):=by
       rw[jR l (show a<=a+1 by omega) (show a+1<=a1 by omega),jQ (jP (l:=l) (a:=a) (c:=103) hg (by decide)),h5];rfl
      rw[BZ h2 hk hc];exact⟨rfl,(h2.put hk).1,h3.trans (nM _),jB _ _,by rw[Ce h2 hk,hc],by omega⟩
    ·rw[ad6 hg];have hin:letters.contains (bU l a)=false:=by
      have hb:¬(97<=bU l a/\bU l a<=101):=(by simpa[isName]using hnm);simp[letters];omega
     have hd:=yt (l:=l) (C:=C) (a:=a) (d:=d) (T:=texts ts) hin;have h0:(kK (bU l) letters ⟨a,d,0,texts ts,C⟩).2=0:=(by unfold kK;rw[ae2 rfl,ad6 (by rw[hin];simp)]);rw[h0];have hIn:∀σ,NP (bU l) (λτ=>(fC l (bU l) n τ).1) 0 σ=σ:=λσ=>by unfold NP;rw[ad6 (by decide),ad6 (by decide)]
     rw[hIn]
     show Dd (kL l a _).1 2 a
     rw[hd.O9];exact hd
end
def dV(T:List (List UInt8))(c:Int×Nat):List UInt8:=UInt8.ofNat c.1.toNat::40::(T.getD c.2 []++[41])
def Vr(n:Nat)(c:Int×Nat):Prop:=(c.1=80\/c.1=81)/\c.2<n
def jv(ts:List Key)(cs:List (Int×Nat)):Prop:=∀c∈cs,Vr ts.length c
theorem KJ{ts:List Key}(h:Inv ts){c c':Int×Nat}(hc:Vr ts.length c)(hc':Vr ts.length c')(e:dV (texts ts) c=dV (texts ts) c'):c=c':=by
 obtain⟨x,m⟩:=c;obtain⟨x',m'⟩:=c';obtain⟨h1,h2⟩:=hc;obtain⟨h1',h2'⟩:=hc';simp only at h1 h2 h1' h2';unfold dV at e;simp only[List.cons.injEq,true_and]at e;obtain⟨e1,e2⟩:=e;have e3:=ar6 e2;have:=kQ h.nd (by rw[bY];exact h2) (by rw[bY];exact h2') e3;have e4:=am8 UInt8.toNat e1;simp at e4;subst this;simp;omega
theorem Gn{ts aF:List Key}(hp:ts <+: aF){c:Int×Nat}(h:Vr ts.length c):dV (texts aF) c=dV (texts ts) c:=by
 unfold dV;rw[lI (iR hp) (by rw[bY];exact h.2)]
theorem wJ{ts aF:List Key}(hp:ts <+: aF){cs:List (Int×Nat)}(h:jv ts cs):cs.map (dV (texts aF))=cs.map (dV (texts ts)):=
 List.map_congr_left λc hc=>Gn hp (h c hc)
theorem jv.more{ts aF:List Key}(hp:ts <+: aF){cs:List (Int×Nat)}(h:jv ts cs):jv aF cs:=λc hc=>⟨(h c hc).1,ac8 (h c hc).2 hp.length_le⟩
theorem Zn{ts:List Key}(h:Inv ts){cs:List (Int×Nat)}(hcs:jv ts cs){c:Int×Nat}(hc:Vr ts.length c):(cs.map (dV (texts ts))).contains (dV (texts ts) c)=cs.contains c:=by
 rw[Bool.eq_iff_iff];simp only[List.contains_eq_mem,ah4,ae8];constructor
 ·rintro⟨c',hm,e⟩;rw[<-KJ h (hcs c' hm) hc e];exact hm
 ·intro hm;exact⟨c,hm,rfl⟩
theorem ZT{ts:List Key}(h:Inv ts){cs:List (Int×Nat)}(hcs:jv ts cs){c:Int×Nat}(hc:Vr ts.length c) :
  put (cs.map (dV (texts ts))) (dV (texts ts) c)=(put cs c).map (dV (texts ts))/\jv ts (put cs c):=by
 unfold put;rw[Zn h hcs hc];by_cases hm:cs.contains c=true
 ·rw[ae2 hm,ae2 hm];exact⟨rfl,hcs⟩
 ·rw[ad6 hm,ad6 hm];refine⟨by simp,λx hx=>?_⟩;rcases af7.1 hx with hx|hx
  ·exact hcs x hx
  ·simp at hx;subst hx;exact hc
def Uz(d:Nat)(r:RF)(x:St):Prop:=
 match r with
 |.ok (a1,aF,cs1)=>x=⟨a1,d,0,texts aF,cs1.map (dV (texts aF))⟩/\Inv aF/\jv aF cs1
 |.error (E,p)=>Dd x E p
section
variable {l:List UInt8}
theorem same_eq{n a d:Nat}{ts:List Key}{cs:List (Int×Nat)}(ha:a<=l.length)(hn:l.length<a+n)(hi:Inv ts)(hcs:jv ts cs) :
  Uz d (KP (bU l) n a d ts cs) (fC l (bU l) n (kK (bU l) [61] (fC l (bU l) n ⟨a,d,0,texts ts,cs.map (dV (texts ts))⟩).1).1).1:=by
 unfold KP;have h:=uN (l:=l) (C:=cs.map (dV (texts ts))) n a d ts ha hn hi;cases hR:dX (bU l) n a d ts with
 |error Ep=>
  obtain⟨E,p⟩:=Ep;rw[hR]at h;have hd:Dd (fC l (bU l) n ⟨a,d,0,texts ts,cs.map (dV (texts ts))⟩).1 E p:=h;rw[hd.one,hd.term];exact hd
 |ok q=>
  obtain⟨a1,aF,m⟩:=q;rw[hR]at h;obtain⟨h1,h2,h3,h4,h5,h6⟩:=h;rw[h1];by_cases h61:bU l a1=61
  ·have hlt:=jK (l:=l) (a:=a1) (by omega);simp only[h61,aj0];rw[nO (by simpa using h61)];have g:=uN (l:=l) (C:=cs.map (dV (texts ts))) n (a1+1) d aF (by omega) (by omega) h2;cases hR2:dX (bU l) n (a1+1) d aF with
   |error Ep=>
    obtain⟨E,p⟩:=Ep;rw[hR2]at g;exact g
   |ok q=>
    obtain⟨a2,ts2,m2⟩:=q;rw[hR2]at g;obtain⟨g1,g2,g3,g4,g5,g6⟩:=g;simp only;rw[g1];refine⟨?_,g2,hcs.more (h3.trans g3)⟩;rw[wJ (h3.trans g3) hcs]
  ·simp only[h61,am7];have hd:=yt (l:=l) (C:=cs.map (dV (texts ts))) (a:=a1) (d:=d) (T:=texts aF) (L:=[61]) (by simpa using h61);rw[hd.term];exact hd
theorem SB(c:Int)(a d:Nat)(T C:List (List UInt8)):oq (bU l) ⟨a,d,0,T,C⟩ c=decide (bU l a=c):=by simp[oq]
theorem BK:∀(n a d:Nat) (ts:List Key) (cs:List (Int×Nat)),a<=l.length->l.length<a+n->Inv ts->jv ts cs->
  Uz d (Gq (bU l) n a d ts cs) (fP l (bU l) n ⟨a,d,0,texts ts,cs.map (dV (texts ts))⟩):=by
 intro n
 induction n with
 |zero=>intro a d ts cs ha hn;omega
 |succ n ih=>
  intro a d ts cs ha hn hi hcs;unfold Gq fP;simp only[SB];by_cases h33:bU l a=33
  ·have hlt:=jK (l:=l) (a:=a) (by omega);rw[ae2 h33,ae2 (show decide (bU l a=33)=true by simpa using h33)];exact ih (a+1) d ts cs (by omega) (by omega) hi hcs
  ·rw[ad6 h33,ad6 (show ¬(decide (bU l a=33)=true) by simpa using h33)];by_cases h40:bU l a=40
   ·have hlt:=jK (l:=l) (a:=a) (by omega);rw[ae2 h40,ad6 (show ¬((decide (bU l a=80)||decide (bU l a=81))=true) by simp;omega),ae2 (show decide (bU l a=40)=true by simpa using h40)];by_cases h8:d=8
    ·rw[ae2 h8];subst h8;have hd:=ji (l:=l) (C:=cs.map (dV (texts ts))) (T:=texts ts) h40;rw[hd.formula,hd.one,hd.formula];exact hd.shut
    ·rw[ad6 h8,dG h40 h8];have h:=ih (a+1) (d+1) ts cs (by omega) (by omega) hi hcs;have hok:=qJ (pk:=bU l) (N:=l.length) (λa h=>jK h) n (a+1) (d+1) ts cs (by omega);cases hR:Gq (bU l) n (a+1) (d+1) ts cs with
     |error Ep=>
      obtain⟨E,p⟩:=Ep;rw[hR]at h;have hd:Dd (fP l (bU l) n ⟨a+1,d+1,0,texts ts,cs.map (dV (texts ts))⟩) E p:=h;rw[hd.one,hd.formula];exact hd.shut
     |ok q=>
      obtain⟨a1,aF,cs1⟩:=q;rw[hR]at h hok;obtain⟨h1,h2,h3⟩:=h;obtain⟨o1,o2,_⟩:=hok;rw[h1];by_cases hj:au (bU l a1)=true
      ·have hlt1:=jK (l:=l) (a:=a1) (λe=>by rw[e]at hj;simp[au]at hj);simp only[hj,aj0];have hjj:List.contains [38,124,62,45] (bU l a1)=true:=(by simpa[au,or_assoc]using hj);rw[nO hjj];have g:=ih (a1+1) (d+1) aF cs1 (by omega) (by omega) h2 h3;cases hR2:Gq (bU l) n (a1+1) (d+1) aF cs1 with
       |error Ep=>
        obtain⟨E,p⟩:=Ep;rw[hR2]at g;exact Dd.shut g
       |ok q=>
        obtain⟨a2,ts2,cs2⟩:=q;rw[hR2]at g;obtain⟨g1,g2,g3⟩:=g;simp only;rw[g1];by_cases h41:bU l a2=41
        ·simp only[h41,aj0];rw[kG h41];exact⟨rfl,g2,g3⟩
        ·simp only[h41,am7];exact nJ h41
      ·simp only[hj];have hjj:List.contains [38,124,62,45] (bU l a1)=false:=(by simpa[au,or_assoc]using hj);have hd:=yt (l:=l) (C:=cs1.map (dV (texts aF))) (a:=a1) (d:=d+1) (T:=texts aF) hjj;rw[hd.formula];exact hd.shut
   ·rw[ad6 h40];by_cases h8:bU l a=80\/bU l a=81
    ·have hlt:=jK (l:=l) (a:=a) (by omega);rw[ae2 h8,ae2 (show(decide (bU l a=80)||decide (bU l a=81))=true by simpa using h8)];have h:=Au (l:=l) (C:=cs.map (dV (texts ts))) (n:=n+1) (d:=d) (uN _) (a:=a+1) (by omega) (by omega) hi;cases hR:arg1 (bU l) (dX (bU l) (n+1)) (a+1) d ts with
     |error Ep=>
      obtain⟨E,p⟩:=Ep;rw[hR]at h;have hd:Dd _ E p:=h
      show Dd (rO l a _) E p
      rw[hd.XW];exact hd
     |ok q=>
      obtain⟨a1,aF,m⟩:=q;rw[hR]at h;obtain⟨h1,h2,h3,h4,h5,h6⟩:=h;rw[h1];have hc:Vr aF.length (bU l a,m):=⟨h8,h4⟩;have hcut:cut l a a1=dV (texts aF) (bU l a,m):=by
       have hg:=jP (l:=l) (a:=a) (c:=UInt8.ofNat (bU l a).toNat) (by simp;omega) (λe=>by have:=am8 UInt8.toNat e;simp at this;omega);rw[jR l (show a<=a+1 by omega) (show a+1<=a1 by omega),jQ hg,h5];rfl
      have hp:=ZT h2 (hcs.more h3) hc
      show Uz d (.ok (a1,aF,put cs (bU l a,m))) _
      refine⟨?_,h2,hp.2⟩;unfold rO;rw[ae2 rfl];simp only[hcut];rw[<-wJ h3 hcs,hp.1]
    ·rw[ad6 h8,ad6 (show ¬((decide (bU l a=80)||decide (bU l a=81))=true) by simpa using h8),ad6 (show ¬(decide (bU l a=40)=true) by simpa using h40)];exact same_eq ha (by omega) hi hcs
end
def Gd(l:List UInt8)(σ:St):Prop:=(∀t∈σ.T,t.length<=l.length)/\(∀t∈σ.C,t.length<=l.length)/\σ.C.Nodup
theorem QK(l:List UInt8)(x y:Nat):(cut l x y).length<=l.length:=by unfold cut;simp;omega
theorem put_mem{α:Type}[BEq α][LawfulBEq α]{L:List α}{k t:α}(h:t∈put L k):t∈L\/t=k:=by
 unfold put at h;split at h
 ·exact Or.inl h
 ·rcases af7.1 h with h|h
  ·exact Or.inl h
  ·exact Or.inr (by simpa using h)
theorem mJ{α:Type}[BEq α][LawfulBEq α]{L:List α}(k:α)(h:L.Nodup):(put L k).Nodup:=by
 unfold put;split
 ·exact h
 ·rename_i hc;refine am9.2 ⟨h,by simp,λa ha b hb e=>?_⟩;simp at hb;subst hb;subst e;exact hc (by simpa using ha)
section
variable {l:List UInt8} {pk:Nat->Int}
theorem vg{σ:St}(L:List Int)(h:Gd l σ):Gd l (kK pk L σ).1:=by
 unfold kK;split
 ·split
  ·exact h
  ·exact h
 ·exact h
theorem xI{σ:St}(h:Gd l σ):Gd l (kJ pk σ):=by
 have h1:Gd l (sS pk σ):=by unfold sS;split;exact h;exact h
 have h2:=vg (pk:=pk) [40] h1;exact h2
theorem xH{σ:St}(h:Gd l σ):Gd l (kH pk σ):=vg (pk:=pk) [41] h
theorem Qs{σ:St}(x:Nat)(h:Gd l σ):Gd l (kL l x σ).1:=by
 unfold kL;split
 ·refine⟨λt ht=>?_,h.2.1,h.2.2⟩;rcases put_mem ht with ht|ht
  ·exact h.1 t ht
  ·subst ht;exact QK _ _ _
 ·exact h
theorem Qu{σ:St}(x:Nat)(h:Gd l σ):Gd l (rO l x σ):=by
 unfold rO;split
 ·refine⟨h.1,λt ht=>?_,mJ _ h.2.2⟩;rcases put_mem ht with ht|ht
  ·exact h.2.1 t ht
  ·subst ht;exact QK _ _ _
 ·exact h
theorem CP:∀(n:Nat) (σ:St),Gd l σ->Gd l (fC l pk n σ).1:=by
 intro n
 induction n with
 |zero=>intro σ h;exact h
 |succ n ih=>
  intro σ h;unfold fC;refine Qs _ ?_;have h1:=vg (pk:=pk) letters h;unfold NP;split
  ·exact xH (ih _ (xI h1))
  ·split
   ·exact xH (ih _ (vg _ (ih _ (xI h1))))
   ·exact h1
theorem Ik:∀(n:Nat) (σ:St),Gd l σ->Gd l (fP l pk n σ):=by
 intro n
 induction n with
 |zero=>intro σ h;exact h
 |succ n ih=>
  intro σ h;unfold fP;split
  ·exact ih _ h
  ·split
   ·exact Qu _ (xH (CP _ _ (xI (σ:={σ with a:=σ.a+1}) h)))
   ·split
    ·exact xH (ih _ (vg _ (ih _ (xI h))))
    ·exact CP _ _ (vg _ (CP _ _ h))
end
theorem Inv.nodup{ts:List Key}(h:Inv ts):ts.Nodup:=by
 refine al2.2 λi j hi hj hlt e=>?_;have g1:=h.get i hi;have g2:=h.get j hj;rw[e,<-g2]at g1;have:=kQ h.nd (by rw[bY];exact hi) (by rw[bY];exact hj) g1;omega
end aB
section
open Go.RowKit Go.Maps Go.WideMaps Go.Sort
def Ru(m0 Mb BT:Nat)(W W':World):Prop:=(∀(k:Nat) (o:Obj),m0<=k->W.heap[k]?=some o->o.isCells=true->W'.heap[k]?=some o)/\W'.heap[Mb]?=W.heap[Mb]?/\W'.heap[BT]?=W.heap[BT]?
theorem Ru.trans{m0 Mb BT:Nat}{A B C:World}(h:Ru m0 Mb BT A B)(g:Ru m0 Mb BT B C):Ru m0 Mb BT A C:=⟨λk o hk ho hc=>g.1 k o hk (h.1 k o hk ho hc) hc,g.2.1.trans h.2.1,g.2.2.trans h.2.2⟩
theorem flat_get{α:Type}{f:α->List Value}{k:Nat}(hk:∀x,(f x).length=k)(k0:0<k):∀(ss:List α) (i:Nat) (hi:i<ss.length) (c:Nat),c<k->(ss.flatMap f)[i*k+c]?=(f ss[i])[c]?
 |[],i,hi,_,_=>absurd hi (by simp)
 |x::r,0,_,c,hc=>by
  rw[ap5,ap4,al5,aj9 (by rw[hk];exact hc)];rfl
 |x::r,i+1,hi,c,hc=>by
  rw[ap5,List.getElem?_append_right (by rw[hk,am0];omega),hk];have e:(i+1)*k+c-k=i*k+c:=by rw[am0];omega
  rw[e,flat_get hk k0 r i (by simpa using hi) c hc];rfl
theorem QO(a b:Int):eF a b<0↔a<b:=by
 unfold eF;by_cases h:a<b
 ·simp[h]
 ·by_cases h2:b<a
  ·simp[h,h2]
  ·simp[h,h2]
theorem jT{n:Nat}(i j:Fin n):(ltOf λi j:Fin n=>eF i.val j.val) i j=decide (i.val<j.val):=by
 show decide (eF i.val j.val<0)=decide (i.val<j.val)
 rw[ao6,QO];omega
theorem uD(n:Nat):SWO (ltOf λi j:Fin n=>eF i.val j.val):=by
 constructor
 ·intro x;rw[jT];simp
 ·intro x y z;rw[jT,jT,jT];simp only[ah4];omega
 ·intro x y z;rw[jT,jT,jT];simp only[decide_eq_false_iff_not];omega
theorem uz{n:Nat}(i j:Fin n)(h1:(ltOf λi j:Fin n=>eF i.val j.val) i j=false)(h2:(ltOf λi j:Fin n=>eF i.val j.val) j i=false):i=j:=by
 rw[jT]at h1 h2;simp at h1 h2;exact Fin.ext (by omega)
theorem sN{n:Nat}{ss:List (Fin n)}(hp:ss.Perm (List.finRange n)):(ss.mergeSort λx y=>!(ltOf λi j:Fin n=>eF i.val j.val) y x)=List.finRange n:=by
 have hle:∀a b:Fin n,(!(ltOf λi j:Fin n=>eF i.val j.val) b a)=decide (a.val<=b.val):=λa b=>by
  rw[jT];by_cases h:b.val<a.val
  ·simp[h]
  ·simp[h];omega
 have e:(λx y:Fin n=>!(ltOf λi j:Fin n=>eF i.val j.val) y x)=λx y=>decide (x.val<=y.val):=funext λa=>funext λb=>hle a b;rw[e];refine List.Perm.eq_of_pairwise (le:=λa b:Fin n=>a.val<=b.val) (λa b _ _ h1 h2=>Fin.ext (by omega)) ?_ ?_ ((List.mergeSort_perm ss _).trans hp)
 ·have h:=List.pairwise_mergeSort (le:=λx y:Fin n=>decide (x.val<=y.val)) (λa b c h1 h2=>by simp at *;omega) (λa b=>by simp;omega) ss;exact h.imp (λhx=>by simpa using hx)
 ·refine al2.2 λi j hi hj hij=>?_;simp only[List.getElem_finRange];simp;omega
theorem uV{α:Type}[Inhabited α]{f:α->List Value}{k:Nat}(hk:∀x,(f x).length=k)(k0:0<k){w:World}{g e:Nat}{cur:Array Value}{ss:List α}(hb:w.heap[g]?=some (.cells cur e (0,0)))(ht:cur.toList.take (ss.length*k)=ss.flatMap f):HoldsK f k w g 0 ss.toArray:=by
 intro j hj;have hj':j<ss.length*k:=by simpa using hj
 refine⟨?_,by simp[World.frozen?,hb]⟩;have hdiv:j/k<ss.length:=Nat.div_lt_of_lt_mul (by rw[Nat.mul_comm];exact hj');have hmod:j%k<k:=Nat.mod_lt _ k0;have hjj:j/k*k+j%k=j:=by rw[Nat.mul_comm];exact Nat.div_add_mod j k
 have h1:(cur.toList.take (ss.length*k))[j]?=(ss.flatMap f)[j]?:=by rw[ht]
 rw[List.getElem?_take_of_lt hj']at h1;have h2:=flat_get hk k0 ss (j/k) hdiv (j%k) hmod;rw[hjj]at h2;rw[h2]at h1;simp only[World.cell?,hb,al5];simp only[Option.isSome_none,am4,am7];rw[<-Array.getElem?_toList,h1,get_flatK _ _ _ _ (by simpa using hj')];rw[an5 ss.toArray (j/k) (by simpa using hdiv),an5 (f _) (j%k) (by rw[hk];exact hmod)];simp
theorem fE{α:Type}[Inhabited α](f:α->List Value)(k:Nat)(w:World)(g n:Nat)(d:Array α)(os:Array Obj):w.grownBy (sortWorldK f k w g 0 n d os) (some g):=by
 refine⟨rfl,rfl,rfl,by simp[sortWorldK,putRowK],λj hj hne=>?_⟩;unfold sortWorldK putRowK;rw[heap_grow_old _ _ (by simpa using hj)];have:g≠j:=λe=>hne (by rw[e]);simp[putRow,mapBlock,Sort.ahead,ao1,this]
end
section
open Go.RowKit Go.Maps Go.WideMaps
structure LI(w:World)(X G n e kn S:Nat)(T:List Value)(k:Nat)(W:World):Prop where
 x:W.cell? ⟨X,0,none⟩=some (.slice (some ⟨G,0,none⟩) k n)
 fx:W.frozen? ⟨X,0,none⟩=false
 row:W.ownsRow w.heap.size e kn (.slice (some ⟨G,0,none⟩) k n) k (T.take (k*kn))
 below:Below w.heap.size w W
 sz:S<=W.heap.size
section
variable {w:World} {X G n e kn S:Nat} {T:List Value} {k:Nat} {W:World}
theorem LI.lt(h:LI w X G n e kn S T k W):X<W.heap.size/\G<W.heap.size:=⟨ac5 W _ h.x,(h.row.lt G rfl).2⟩
theorem LI.own(B:Nat)(hw:w.heap.size<=B):OwnFrom B (LI w X G n e kn S T):=by
 intro k W W' row h hg hr;have hr':∀r,row=some r->∃o:Obj,W.heap[r]?=some o/\o.isCells=false:=λr e=>(hr r e).2;exact⟨bF h.x hg hr',(kY h.x hg hr').trans h.fx,jA h.row hg hr',ownFrom_below (β:=Unit) (ac2 _) hw () W W' row h.below hg hr,ae4 h.sz hg.size⟩
theorem LI.close{B Mb BT:Nat}{a:Act}{Wc w4:World}{news:List Value}(hX:X<B)(hG:G<B)(hwX:w.heap.size<=X)(hwG:w.heap.size<=G)(hXG:X≠G)(hXM:X≠Mb)(hXT:X≠BT)(hGM:G≠Mb)(hGT:G≠BT)(hMb:Mb<W.heap.size)(hBT:BT<W.heap.size)
 (h:LI w X G n e kn S T k W)(hg:W.grownBy Wc none)(hn:T.take ((k+1)*kn)=T.take (k*kn)++news)
 (r1:w4.ownsRow w.heap.size e kn (.slice (some ⟨G,0,none⟩) (k+1) n) (k+1) (T.take (k*kn)++news))(r2:Wc.grownBy w4 (some G)) :
  iG B (Ru B Mb BT) (LI w X G n e kn S T (k+1)) W .normal a (w4.setCell ⟨X,0,none⟩ (.slice (some ⟨G,0,none⟩) (k+1) n)):=by
 have hlX:=h.lt.1;have hs:∀j,j<W.heap.size->j≠X->j≠G->(w4.setCell ⟨X,0,none⟩ (.slice (some ⟨G,0,none⟩) (k+1) n)).heap[j]?=W.heap[j]?:=λj hj h1 h2=>
  (ae3 w4 _ _ j h1).trans ((r2.block j (ac8 hj hg.size) (by simpa using h2)).trans (hg.block j hj (by simp)))
 have hX4:w4.heap[X]?=W.heap[X]?:=(r2.block X (ac8 hlX hg.size) (by simpa using hXG)).trans (hg.block X hlX (by simp));have c4:w4.cell? ⟨X,0,none⟩=some (.slice (some ⟨G,0,none⟩) k n):=(ae0 hX4).trans h.x;have f4:w4.frozen? ⟨X,0,none⟩=false:=(ah5 hX4).trans h.fx;have hsz:W.heap.size<=(w4.setCell ⟨X,0,none⟩ (.slice (some ⟨G,0,none⟩) (k+1) n)).heap.size:=by
  have h1:=ae4 hg.size r2.size;simpa[World.setCell]using h1
 have hb:=h.below;refine⟨⟨hsz,λj o hj ho _=>(hs j (ac0.1 ho).1 (by omega) (by omega)).trans ho⟩,⟨λj o hj ho _=>(hs j (ac0.1 ho).1 (by omega) (by omega)).trans ho,hs Mb hMb hXM.symm hGM.symm,hs BT hBT hXT.symm hGT.symm⟩,
  World.cell?_setCell_same' _ _ _ (by rw[c4];rfl),by rw[aq1];exact f4,?_,?_,ae4 h.sz hsz⟩
 ·rw[hn];exact r1.kept (grownBy_setCell' w4 X _) (Or.inr (by simp only[Value.ownBlock,ne_eq,ai0];exact λe=>hXG e.symm))
 ·exact⟨r2.os.trans (hg.os.trans hb.os),r2.tape.trans (hg.tape.trans hb.tape),r2.output.trans (hg.output.trans hb.output),ae4 hb.size hsz,λj hj=>(hs j (ac8 hj hb.size) (by omega) (by omega)).trans (hb.block j hj)⟩
end
theorem jW{α:Type}{f:α->List Value}{k:Nat}(hk:∀x,(f x).length=k):∀(ss:List α) (i:Nat) (hi:i<ss.length),(ss.flatMap f).take ((i+1)*k)=(ss.flatMap f).take (i*k)++f ss[i]
 |[],i,hi=>absurd hi (by simp)
 |x::r,0,_=>by
  rw[ap5,al5,Nat.one_mul,ap4,an3,ad9,List.take_append_of_le_length (by rw[hk];exact ac2 _),ah2 (by rw[hk];exact ac2 _)];rfl
 |x::r,i+1,hi=>by
  rw[ap5];have e1:(i+1+1)*k=(f x).length+(i+1)*k:=by rw[hk,am0 (i+1) 1 k];omega
  have e2:(i+1)*k=(f x).length+i*k:=by rw[hk,am0 i 1 k];omega
  rw[e1,e2,List.take_length_add_append,List.take_length_add_append,ai7];have e3:(f x).length+i*k=(i+1)*k:=by rw[hk,am0];omega
  rw[e3,jW hk r i (by simpa using hi)];rfl
theorem mZ{α:Type}{f:α->List Value}{k:Nat}(hk:∀x,(f x).length=k):∀(ss:List α),(ss.flatMap f).length=ss.length*k
 |[]=>by simp
 |x::r=>by rw[ap5,ae9,hk,mZ hk r,ac9,am0];omega
end
open Go
def iW(J:Nat->Act->World->Prop)(Q:Exit->Act->World->Prop):Exit->Act->World->Prop
 |.goto l,a,w=>J l a w
 |e,a,w=>Q e a w
theorem zS{P:Program}{a:Act}{w:World}{Q:Exit->Act->World->Prop}{c:Code}(J:Nat->Nat->Act->World->Prop)
 (first:c.wp P (iW (λl a w=>∃r,J r l a w) Q) a w)
 (pass:∀r l a w,J r l a w->∃rest,findLabel c l=some rest/\rest.wp P (iW (λl' a' w'=>∃r',r'<r/\J r' l' a' w') Q) a w):(Code.scope c).wp P Q a w:=by
 intro b k cs;have key:∀r l a w,J r l a w->∃rest e a' w',findLabel c l=some rest/\Q e a' w'/\Arrives P (lone (b.at a (.code rest::.inScope c::k)) cs w) b k cs e a' w':=by
  intro r
  induction r using Nat.strongRecOn with
  |_ r ih=>
   intro l a w hJ;obtain⟨rest,hf,hp⟩:=pass r l a w hJ;obtain⟨e,a1,w1,hq,harr⟩:=hp b (.inScope c::k) cs;cases e with
   |normal=>exact⟨rest,.normal,a1,w1,hf,hq,Steps.trans harr (.one step_inScope)⟩
   |exit id=>exact⟨rest,.exit id,a1,w1,hf,hq,λk' hk=>harr k' (by simp[exitTo,hk])⟩
   |goto l'=>
    obtain⟨r',hlt,hJ'⟩:=hq;obtain⟨Oj,e2,a2,w2,hf2,hq2,P9⟩:=ih r' hlt l' a1 w1 hJ';have hg:gotoIn l' (.inScope c::k)=some (.code Oj::.inScope c::k):=(by simp[gotoIn,hf2]);exact⟨rest,e2,a2,w2,hf,hq2,.of_steps (harr _ hg) P9⟩
   |ret=>exact⟨rest,_,a1,w1,hf,hq,harr⟩
   |panic ch=>exact⟨rest,_,a1,w1,hf,hq,harr⟩
   |outgrown=>exact⟨rest,_,a1,w1,hf,hq,harr⟩
 obtain⟨e,a1,w1,hq,harr⟩:=first b (.inScope c::k) cs
 cases e with
 |normal=>exact⟨.normal,a1,w1,hq,.head step_scope (Steps.trans harr (.one step_inScope))⟩
 |exit id=>exact⟨.exit id,a1,w1,hq,λk' hk=>.head step_scope (harr k' (by simp[exitTo,hk]))⟩
 |goto l'=>
  obtain⟨r,hJ⟩:=hq;obtain⟨Oj,e2,a2,w2,hf2,hq2,P9⟩:=key r l' a1 w1 hJ;have hg:gotoIn l' (.inScope c::k)=some (.code Oj::.inScope c::k):=by simp[gotoIn,hf2]
  exact⟨e2,a2,w2,hq2,.of_steps (.head step_scope (harr _ hg)) P9⟩
 |ret=>exact⟨_,a1,w1,hq,.of_steps (.one step_scope) harr⟩
 |panic ch=>exact⟨_,a1,w1,hq,.of_steps (.one step_scope) harr⟩
 |outgrown=>exact⟨_,a1,w1,hq,.of_steps (.one step_scope) harr⟩
theorem xR{P:Program}{a:Act}{w:World}{Q:Exit->Act->World->Prop}{c c0 c1 c2:Code}(J:Nat->Nat->Act->World->Prop)(h0:findLabel c 0=some (.seq .skip c0))(h1:findLabel c 1=some (.seq .skip c1))(h2:findLabel c 2=some (.seq .skip c2))
 (only:∀r l a w,J r l a w->l=0\/l=1\/l=2)
 (p2:∀r a w,J r 2 a w->c2.wp P (iW (λl' a' w'=>∃r',r'<r/\J r' l' a' w') Q) a w)
 (p1:∀r a w,J r 1 a w->c1.wp P (iW (λl' a' w'=>∃r',r'<r/\J r' l' a' w') Q) a w)
 (p0:(∀r a w,J r 1 a w->c1.wp P (iW (λl' a' w'=>∃r',r'<r/\J r' l' a' w') Q) a w)->∀r a w,J r 0 a w->c0.wp P (iW (λl' a' w'=>∃r',r'<r/\J r' l' a' w') Q) a w)
 (first:(∀r a w,J r 0 a w->c0.wp P (iW (λl' a' w'=>∃r',r'<r/\J r' l' a' w') Q) a w)->c.wp P (iW (λl a w=>∃r,J r l a w) Q) a w):(Code.scope c).wp P Q a w:=by
 refine zS J (first (p0 p1)) (λr l a w h=>?_);rcases only r l a w h with e|e|e
 ·subst e;exact⟨_,h0,wp_seq (wp_skip (p0 p1 r a w h))⟩
 ·subst e;exact⟨_,h1,wp_seq (wp_skip (p1 r a w h))⟩
 ·subst e;exact⟨_,h2,wp_seq (wp_skip (p2 r a w h))⟩
theorem tK{J J':Nat->Act->World->Prop}{Q:Exit->Act->World->Prop}(h:∀l a w,J l a w->J' l a w):∀e a w,iW J Q e a w->iW J' Q e a w:=by
 intro e a w hj;cases e<;>first|exact h _ _ _ hj|exact hj
end Go.Proofs.YthcppbmkacbbiaaGreat
