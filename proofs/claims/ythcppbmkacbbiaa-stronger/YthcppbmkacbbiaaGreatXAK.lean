import Derived.Test.YthcppbmkacbbiaaGreatXAH
import Derived.Lib.Strings
import Derived.ScopeJumps
set_option linter.unusedSimpArgs false
namespace Go.Proofs.YthcppbmkacbbiaaGreat
namespace aB
section
variable {pk:Nat->Int} {N:Nat}
theorem J4{pk:Nat->Int}{σ:St}{c:Int}(h:nI pk σ c=true):σ.E=0/\pk σ.a=c:=by simpa[nI]using h
end
def rend(T:List (List UInt8))(k:Key):List UInt8:=
 if k.1=102 then 102::40::(T.getD k.2.1 []++[41])
 else if k.1=103 then 103::40::(T.getD k.2.1 []++44::(T.getD k.2.2 []++[41]))
 else [UInt8.ofNat k.1.toNat]
def texts(ts:List Key):List (List UInt8):=ts.foldl (λT k=>T++[rend T k]) []
theorem jS(ts:List Key)(k:Key):texts (ts++[k])=texts ts++[rend (texts ts) k]:=by
 unfold texts;rw[al5];rfl
theorem dQ(ts:List Key):(texts ts).length=ts.length:=by
 suffices h:∀(ts:List Key) (T:List (List UInt8)),(ts.foldl (λT k=>T++[rend T k]) T).length=T.length+ts.length by
  have:=h ts [];simpa[texts]using this
 intro ts
 induction ts with
 |nil=>intro T;simp
 |cons k r ih=>intro T;simp only[List.foldl_cons,ih];simp;omega
def dM(n:Nat)(k:Key):Prop:=
 (97<=k.1/\k.1<=101/\k.2.1=0/\k.2.2=0)\/(k.1=102/\k.2.1<n/\k.2.2=0)\/(k.1=103/\k.2.1<n/\k.2.2<n)
theorem dM.mono{n m:Nat}{k:Key}(h:dM n k)(hm:n<=m):dM m k:=by
 rcases h with h|⟨h1,h2,h3⟩|⟨h1,h2,h3⟩
 ·exact Or.inl h
 ·exact Or.inr (Or.inl ⟨h1,by omega,h3⟩)
 ·exact Or.inr (Or.inr ⟨h1,by omega,by omega⟩)
theorem Ai{T R:List (List UInt8)}{k:Key}(h:dM T.length k):rend (T++R) k=rend T k:=by
 rcases h with⟨h1,h2,h3,h4⟩|⟨h1,h2,h3⟩|⟨h1,h2,h3⟩
 ·unfold rend;rw[ac2 (by omega),ac2 (by omega),ac2 (by omega),ac2 (by omega)]
 ·unfold rend;rw[ad3 h1,ad3 h1];simp[ad4,ah4 h2]
 ·unfold rend;rw[ac2 (by omega),ad3 h1,ac2 (by omega),ad3 h1];simp[ad4,ah4 h2,ah4 h3]
def skip:Nat->List UInt8->Option (List UInt8)
 |0,_=>none
 |_+1,[]=>none
 |n+1,c::r=>
  if 97<=c/\c<=101 then some r
  else if c=102 then
   match r with
   |40::r1=>(match skip n r1 with|some (41::r2)=>some r2|_=>none)
   |_=>none
  else if c=103 then
   match r with
   |40::r1=>(match skip n r1 with|some (44::r2)=>(match skip n r2 with|some (41::r3)=>some r3|_=>none)|_=>none)
   |_=>none
  else none
def JC(t:List UInt8):Prop:=∃n,∀m,n<=m->∀r,skip m (t++r)=some r
theorem JC.cancel{t u x y:List UInt8}(ht:JC t)(hu:JC u)(h:t++x=u++y):t=u/\x=y:=by
 obtain⟨n,h1⟩:=ht;obtain⟨m,h2⟩:=hu;have a1:=h1 (n+m) (by omega) x;have a2:=h2 (n+m) (by omega) y;rw[h,a2]at a1;have e:y=x:=ai3 a1;subst e;exact⟨ap3 h,rfl⟩
theorem OW{c:UInt8}(h:97<=c/\c<=101):JC [c]:=by
 refine⟨1,λm hm r=>?_⟩;obtain⟨k,rfl⟩:∃k,m=k+1:=⟨m-1,by omega⟩;simp[skip,h]
theorem Xv{t:List UInt8}(h:JC t):JC (102::40::(t++[41])):=by
 obtain⟨n,h1⟩:=h;refine⟨n+1,λm hm r=>?_⟩;obtain⟨k,rfl⟩:∃k,m=k+1:=⟨m-1,by omega⟩;have e:(102::40::(t++[41]))++r=102::40::(t++(41::r)):=by simp
 rw[e];unfold skip;rw[ac2 (by decide),ad3 rfl];simp only[h1 k (by omega)]
theorem Xu{t u:List UInt8}(ht:JC t)(hu:JC u):JC (103::40::(t++44::(u++[41]))):=by
 obtain⟨n,h1⟩:=ht;obtain⟨n2,h2⟩:=hu;refine⟨n+n2+1,λm hm r=>?_⟩;obtain⟨k,rfl⟩:∃k,m=k+1:=⟨m-1,by omega⟩;have e:(103::40::(t++44::(u++[41])))++r=103::40::(t++(44::(u++(41::r)))):=by simp
 rw[e];unfold skip;rw[ac2 (by decide),ac2 (by decide),ad3 rfl];simp only[h1 k (by omega),h2 k (by omega)]
structure Inv(ts:List Key):Prop where
 key:∀i (h:i<ts.length),dM i ts[i]
 nd:(texts ts).Nodup
 tm:∀t∈texts ts,JC t
 get:∀i (h:i<ts.length),(texts ts).getD i []=rend (texts ts) ts[i]
theorem SB:Inv []:=⟨λi h=>absurd h (by simp),by simp[texts],by simp[texts],λi h=>absurd h (by simp)⟩
theorem getD_mem{T:List (List UInt8)}{i:Nat}(h:i<T.length):T.getD i []∈T:=by
 rw[ad4,ab4 h];exact ab5 h
theorem lU{α:Type}{T:List α}(hn:T.Nodup){i j:Nat}(hi:i<T.length)(hj:j<T.length)(h:T[i]=T[j]):i=j:=by
 rcases Nat.lt_trichotomy i j with hlt|he|hlt
 ·exact absurd h (ak0.1 hn i j hi hj hlt)
 ·exact he
 ·exact absurd h.symm (ak0.1 hn j i hj hi hlt)
theorem kC{T:List (List UInt8)}(hn:T.Nodup){i j:Nat}(hi:i<T.length)(hj:j<T.length)(h:T.getD i []=T.getD j []):i=j:=by
 rw[ad4,ab4 hi,ad4,ab4 hj]at h;exact lU hn hi hj h
theorem OV{T:List (List UInt8)}(hT:∀t∈T,JC t){k:Key}(h:dM T.length k):JC (rend T k):=by
 rcases h with⟨h1,h2,h3,h4⟩|⟨h1,h2,h3⟩|⟨h1,h2,h3⟩
 ·unfold rend;rw[ac2 (by omega),ac2 (by omega)];apply OW;have e:(UInt8.ofNat k.1.toNat).toNat=k.1.toNat:=by simp;omega
  constructor
  ·rw[UInt8.le_iff_toNat_le,e];simp;omega
  ·rw[UInt8.le_iff_toNat_le,e];simp;omega
 ·unfold rend;rw[ad3 h1];exact Xv (hT _ (getD_mem h2))
 ·unfold rend;rw[ac2 (by omega),ad3 h1];exact Xu (hT _ (getD_mem h2)) (hT _ (getD_mem h3))
theorem NS{T:List (List UInt8)}(hn:T.Nodup)(hT:∀t∈T,JC t){k k':Key}(h:dM T.length k)(h':dM T.length k')(e:rend T k=rend T k'):k=k':=by
 obtain⟨c,x,y⟩:=k;obtain⟨c',x',y'⟩:=k';rcases h with⟨h1,h2,h3,h4⟩|⟨h1,h2,h3⟩|⟨h1,h2,h3⟩<;>rcases h' with⟨g1,g2,g3,g4⟩|⟨g1,g2,g3⟩|⟨g1,g2,g3⟩<;>simp only at h1 h2 h3 g1 g2 g3
 ·simp only at h4 g4;unfold rend at e;rw[ac2 (by simp only;omega),ac2 (by simp only;omega),ac2 (by simp only;omega),ac2 (by simp only;omega)]at e;have e1:UInt8.ofNat c.toNat=UInt8.ofNat c'.toNat:=by simpa using e
  have e2:=am8 UInt8.toNat e1;simp at e2;have:c=c':=by omega
  subst this;subst h3;subst h4;subst g3;subst g4;rfl
 ·exfalso;unfold rend at e;rw[ac2 (by simp only;omega),ac2 (by simp only;omega),ad3 (by simp only;omega)]at e;simp at e
 ·exfalso;unfold rend at e;rw[ac2 (by simp only;omega),ac2 (by simp only;omega),ac2 (by simp only;omega),ad3 (by simp only;omega)]at e;simp at e
 ·exfalso;unfold rend at e;rw[ad3 (by simp only;omega),ac2 (by simp only;omega),ac2 (by simp only;omega)]at e;simp at e
 ·unfold rend at e;rw[ad3 h1,ad3 g1]at e;simp only[List.cons.injEq,true_and]at e;have e2:=ap3 e;have:=kC hn h2 g2 e2;subst this;subst h1;subst h3;subst g1;subst g3;rfl
 ·exfalso;unfold rend at e;rw[ad3 (by simp only;omega),ac2 (by simp only;omega),ad3 (by simp only;omega)]at e;simp at e
 ·exfalso;unfold rend at e;rw[ac2 (by simp only;omega),ad3 (by simp only;omega),ac2 (by simp only;omega),ac2 (by simp only;omega)]at e;simp at e
 ·exfalso;unfold rend at e;rw[ac2 (by simp only;omega),ad3 (by simp only;omega),ad3 (by simp only;omega)]at e;simp at e
 ·unfold rend at e;rw[ac2 (by simp only;omega),ad3 h1,ac2 (by simp only;omega),ad3 g1]at e;simp only[List.cons.injEq,true_and]at e;obtain⟨e2,e3⟩:=JC.cancel (hT _ (getD_mem h2)) (hT _ (getD_mem g2)) e;simp only[List.cons.injEq,true_and]at e3;have e4:=ap3 e3;have:=kC hn h2 g2 e2;have:=kC hn h3 g3 e4;subst h1;subst g1;simp;omega
theorem Inv.find{ts:List Key}(h:Inv ts){k:Key}(hk:dM ts.length k):(texts ts).contains (rend (texts ts) k)=ts.contains k/\(texts ts).idxOf (rend (texts ts) k)=ts.idxOf k:=by
 have hl:=dQ ts;have hk':dM (texts ts).length k:=by rw[hl];exact hk
 have back:∀i (hi:i<ts.length),(texts ts)[i]'(by omega)=rend (texts ts) k->ts[i]=k:=λi hi e=>by
  have g:=h.get i hi;rw[ad4,ab4 (by omega)]at g;simp at g;exact NS h.nd h.tm ((h.key i hi).mono (by omega)) hk' (g.symm.trans e)
 have fwd:∀i (hi:i<ts.length),ts[i]=k->(texts ts)[i]'(by omega)=rend (texts ts) k:=λi hi e=>by
  have g:=h.get i hi;rw[ad4,ab4 (by omega)]at g;simp at g;rw[g,e]
 have hm:rend (texts ts) k∈texts ts↔k∈ts:=by
  constructor
  ·intro hmem;obtain⟨i,hi,e⟩:=ag2 hmem;rw[<-back i (by omega) e];exact ab5 _
  ·intro hmem;obtain⟨i,hi,e⟩:=ag2 hmem;rw[<-fwd i hi e];exact ab5 _
 refine⟨by rw[Bool.eq_iff_iff];simpa using hm,?_⟩;by_cases hmem:k∈ts
 ·have hi:=ae7 hmem;have e1:=fwd _ hi (af5 hi);have hmem':=hm.2 hmem;have hj:=ae7 hmem';have e2:=af5 hj;exact lU h.nd hj (by omega) (e2.trans e1.symm)
 ·rw[ag0 hmem,ag0 (λe=>hmem (hm.1 e)),hl]
theorem Inv.put{ts:List Key}(h:Inv ts){k:Key}(hk:dM ts.length k):Inv (put ts k)/\texts (put ts k)=aB.put (texts ts) (rend (texts ts) k):=by
 have hf:=h.find hk;have hl:=dQ ts;unfold aB.put;rw[hf.1];by_cases hc:ts.contains k=true
 ·rw[ad3 hc,ad3 hc];exact⟨h,rfl⟩
 ·rw[ac2 hc,ac2 hc];refine⟨⟨?_,?_,?_,?_⟩,jS ts k⟩
  ·intro i hi;by_cases hlt:i<ts.length
   ·rw[ae2 hlt];exact h.key i hlt
   ·have:i=ts.length:=(by simp at hi;omega);subst this;simpa using hk
  ·rw[jS];refine al4.2 ⟨h.nd,by simp,λa ha b hb=>?_⟩;simp at hb;subst hb;intro e;subst e;have hcc:(texts ts).contains (rend (texts ts) k)=true:=(by simpa using ha);rw[hf.1]at hcc;exact hc hcc
  ·intro t ht;rw[jS]at ht;rcases ae6.1 ht with ht|ht
   ·exact h.tm t ht
   ·simp at ht;subst ht;exact OV h.tm (by rw[hl];exact hk)
  ·intro i hi;rw[jS];by_cases hlt:i<ts.length
   ·rw[ae2 hlt,Ai ((h.key i hlt).mono (by omega)),<-h.get i hlt];simp[ad4,ah4 (show i<(texts ts).length by omega)]
   ·have:i=ts.length:=(by simp at hi;omega);subst this;rw[Ai (by simpa[hl]using hk)];simp[ad4,<-hl]
def bM(l:List UInt8)(a:Nat):Int:=match l[a]? with|some b=>(b.toNat:Int)|none=>0
theorem jy{l:List UInt8}{a:Nat}(h:bM l a≠0):a<l.length:=by
 unfold bM at h;by_cases hl:a<l.length
 ·exact hl
 ·rw[List.getElem?_eq_none (by omega)]at h;exact absurd rfl h
theorem jD{l:List UInt8}{a:Nat}{c:UInt8}(h:bM l a=(c.toNat:Int))(hc:c≠0):l[a]?=some c:=by
 have h0:c.toNat≠0:=λe=>hc (UInt8.toNat_inj.1 (by rw[e];rfl));have hl:=jy (l:=l) (a:=a) (by omega);unfold bM at h;rw[ab4 hl]at h ⊢;simp at h;have:l[a].toNat=c.toNat:=by omega
 rw[UInt8.toNat_inj.1 this]
theorem jE{l:List UInt8}{a:Nat}{c:UInt8}(h:l[a]?=some c):cut l a (a+1)=[c]:=by
 have hl:a<l.length:=by
  by_cases hl:a<l.length
  ·exact hl
  ·rw[List.getElem?_eq_none (by omega)]at h;cases h
 rw[ab4 hl]at h;unfold cut;rw[show a+1-a=1 by omega,List.drop_eq_getElem_cons hl,ai3 h];rfl
theorem jF(l:List UInt8){x y z:Nat}(h1:x<=y)(h2:y<=z):cut l x z=cut l x y++cut l y z:=by
 unfold cut;rw[show z-x=(y-x)+(z-y) by omega,List.take_add,List.drop_drop,show x+(y-x)=y by omega]
def Dd(σ:St)(E:Int)(p:Nat):Prop:=σ.E=E/\σ.a=p/\E≠0
section
variable {pk:Nat->Int} {l:List UInt8} {E:Int} {p:Nat} {σ:St}
theorem Dd.one(h:Dd σ E p)(L:List Int):jX pk L σ=(σ,0):=by unfold jX;rw[ac2 (by rw[h.1];exact h.2.2)]
theorem Dd.sees(h:Dd σ E p)(c:Int):nI pk σ c=false:=by unfold nI;rw[am1 (by rw[h.1];exact h.2.2)];rfl
theorem Dd.shut(h:Dd σ E p):Dd (jV pk σ) E p:=by unfold jV;rw[h.one];exact h
theorem Dd.term(h:Dd σ E p)(n:Nat):eY l pk n σ=(σ,0):=by
 cases n with
 |zero=>rfl
 |succ n=>
  unfold eY;rw[h.one];have e:Nk pk (λτ=>(eY l pk n τ).1) 0 σ=σ:=by unfold Nk;rw[ac2 (by decide),ac2 (by decide)]
  simp only[e];unfold jY;rw[ac2 (by rw[h.1];exact h.2.2)]
theorem Dd.formula(h:Dd σ E p)(n:Nat):fJ l pk n σ=σ:=by
 cases n with
 |zero=>rfl
 |succ n=>
  unfold fJ;rw[ac2 (by rw[h.sees];simp),ac2 (by rw[h.sees,h.sees];simp),ac2 (by rw[h.sees];simp),h.term,h.one,h.term]
theorem Dd.OO(h:Dd σ E p)(x:Nat):jY l x σ=(σ,0):=by unfold jY;rw[ac2 (by rw[h.1];exact h.2.2)]
theorem Dd.Xt(h:Dd σ E p)(x:Nat):qV l x σ=σ:=by unfold qV;rw[ac2 (by rw[h.1];exact h.2.2)]
end
def aaP(l:List UInt8)(a d:Nat)(ts:List Key)(C:List (List UInt8))(r:RT)(x:St×Nat):Prop:=
 match r with
 |.ok (a1,aF,m)=>x=(⟨a1,d,0,texts aF,C⟩,m)/\Inv aF/\ts <+: aF/\m<aF.length/\(texts aF).getD m []=cut l a a1/\a<=a1
 |.error (E,p)=>Dd x.1 E p
def RelA(l:List UInt8)(a d:Nat)(ts:List Key)(C:List (List UInt8))(r:RT)(x:St):Prop:=
 match r with
 |.ok (a1,aF,m)=>x=⟨a1,d,0,texts aF,C⟩/\Inv aF/\ts <+: aF/\m<aF.length/\cut l a a1=40::((texts aF).getD m []++[41])/\a<=a1
 |.error (E,p)=>Dd x E p
def Ze(l:List UInt8)(a d:Nat)(ts:List Key)(C:List (List UInt8))(r:zF)(x:St):Prop:=
 match r with
 |.ok (a1,aF,m,m2)=>x=⟨a1,d,0,texts aF,C⟩/\Inv aF/\ts <+: aF/\m<aF.length/\m2<aF.length/\cut l a a1=40::((texts aF).getD m []++44::((texts aF).getD m2 []++[41]))/\a<=a1
 |.error (E,p)=>Dd x E p
theorem rO{ts aF:List Key}(h:ts <+: aF):texts ts <+: texts aF:=by
 obtain⟨r,rfl⟩:=h
 suffices h:∀(r:List Key) (ts:List Key),texts ts <+: texts (ts++r)from h r ts
 intro r
 induction r with
 |nil=>intro ts;simp
 |cons k r ih=>
  intro ts;have h1:=ih (ts++[k]);rw[jS]at h1;have e:ts++k::r=ts++[k]++r:=by simp
  rw[e];exact(ak8 _ _).trans h1
theorem vT{T U:List (List UInt8)}(h:T <+: U){i:Nat}(hi:i<T.length):U.getD i []=T.getD i []:=by
 obtain⟨r,rfl⟩:=h;simp[ad4,ah4 hi]
section
variable {l:List UInt8} {C:List (List UInt8)}
theorem lT{a d:Nat}{T:List (List UInt8)}(h:bM l a≠40):Dd (jW (bM l) ⟨a,d,0,T,C⟩) 2 a:=by
 have hd:rY (bM l) ⟨a,d,0,T,C⟩=⟨a,d,0,T,C⟩:=by unfold rY;rw[ac2 (λe=>h (J4 e.1).2)]
 unfold jW;rw[hd];unfold jX Zk;rw[ad3 rfl,ac2 (by simpa using h)];exact⟨rfl,rfl,by decide⟩
theorem iU{a:Nat}{T:List (List UInt8)}(h:bM l a=40):Dd (jW (bM l) ⟨a,8,0,T,C⟩) 3 a:=by
 have hd:rY (bM l) ⟨a,8,0,T,C⟩=⟨a,8,3,T,C⟩:=by unfold rY;rw[ad3 ⟨by simp[nI,h],rfl⟩]
 unfold jW;rw[hd];unfold jX Zk;rw[ac2 (show ¬((3:Int)=0) by decide)];exact⟨rfl,rfl,by decide⟩
theorem dD{a d:Nat}{T:List (List UInt8)}(h:bM l a=40)(h8:d≠8):jW (bM l) ⟨a,d,0,T,C⟩=⟨a+1,d+1,0,T,C⟩:=by
 have hd:rY (bM l) ⟨a,d,0,T,C⟩=⟨a,d,0,T,C⟩:=by unfold rY;rw[ac2 (λe=>h8 e.2)]
 unfold jW;rw[hd];unfold jX Zk;rw[ad3 rfl,ad3 (by simpa using h)]
theorem xU{a d:Nat}{T:List (List UInt8)}{L:List Int}(h:L.contains (bM l a)=false):Dd (jX (bM l) L ⟨a,d,0,T,C⟩).1 2 a:=by
 unfold jX;rw[ad3 rfl,ac2 (by rw[h];simp)];exact⟨rfl,rfl,by decide⟩
theorem mX{a d:Nat}{T:List (List UInt8)}{L:List Int}(h:L.contains (bM l a)=true):jX (bM l) L ⟨a,d,0,T,C⟩=(⟨a+1,d,0,T,C⟩,bM l a):=by
 unfold jX;rw[ad3 rfl,ad3 h]
theorem mQ{a d:Nat}{T:List (List UInt8)}(h:bM l a≠41):Dd (jV (bM l) ⟨a,d,0,T,C⟩) 2 a:=by
 have:=xU (l:=l) (C:=C) (a:=a) (d:=d) (T:=T) (L:=[41]) (by simpa using h);unfold jV;exact this
theorem jU{a d:Nat}{T:List (List UInt8)}(h:bM l a=41):jV (bM l) ⟨a,d+1,0,T,C⟩=⟨a+1,d,0,T,C⟩:=by
 unfold jV;rw[mX (by simpa using h)];rfl
def QN(l:List UInt8)(C:List (List UInt8))(n:Nat):Prop:=
 ∀(a d:Nat) (ts:List Key),a<=l.length->l.length<a+n->Inv ts->aaP l a d ts C (dO (bM l) n a d ts) (eY l (bM l) n ⟨a,d,0,texts ts,C⟩)
theorem Ag{n a d:Nat}{ts:List Key}(hT:QN l C n)(_ha:a<=l.length)(hn:l.length<a+1+n)(hi:Inv ts) :
  RelA l a d ts C (arg1 (bM l) (dO (bM l) n) a d ts) (jV (bM l) (eY l (bM l) n (jW (bM l) ⟨a,d,0,texts ts,C⟩)).1):=by
 unfold arg1;by_cases h40:bM l a=40
 ·rw[ad3 h40];have hlt:=jy (l:=l) (a:=a) (by omega);by_cases h8:d=8
  ·rw[ad3 h8];subst h8;have hd:=iU (l:=l) (C:=C) (T:=texts ts) h40;rw[hd.term];exact hd.shut
  ·rw[ac2 h8,dD h40 h8];have h:=hT (a+1) (d+1) ts (by omega) (by omega) hi;cases hR:dO (bM l) n (a+1) (d+1) ts with
   |error Ep=>
    obtain⟨E,p⟩:=Ep;rw[hR]at h;exact Dd.shut h
   |ok q=>
    obtain⟨a1,aF,m⟩:=q;rw[hR]at h;obtain⟨h1,h2,h3,h4,h5,h6⟩:=h;rw[h1];by_cases h41:bM l a1=41
    ·simp only[h41,ah9];rw[jU h41];refine⟨rfl,h2,h3,h4,?_,by omega⟩;have e0:=jE (jD (l:=l) (a:=a) (c:=40) h40 (by decide));have e1:=jE (jD (l:=l) (a:=a1) (c:=41) h41 (by decide));rw[jF l (show a<=a+1 by omega) (show a+1<=a1+1 by omega),jF l (show a+1<=a1 by omega) (show a1<=a1+1 by omega),e0,e1,h5];simp
    ·simp only[h41,al3];exact mQ h41
 ·rw[ac2 h40];have hd:=lT (l:=l) (C:=C) (d:=d) (T:=texts ts) h40;rw[hd.term];exact hd.shut
theorem J5{n a d:Nat}{ts:List Key}(hT:QN l C n)(_ha:a<=l.length)(hn:l.length<a+1+n)(hi:Inv ts) :
  Ze l a d ts C (arg2 (bM l) (dO (bM l) n) a d ts) (jV (bM l) (eY l (bM l) n (jX (bM l) [44] (eY l (bM l) n (jW (bM l) ⟨a,d,0,texts ts,C⟩)).1).1).1):=by
 unfold arg2;by_cases h40:bM l a=40
 ·rw[ad3 h40];have hlt:=jy (l:=l) (a:=a) (by omega);by_cases h8:d=8
  ·rw[ad3 h8];subst h8;have hd:=iU (l:=l) (C:=C) (T:=texts ts) h40;rw[hd.term,hd.one,hd.term];exact hd.shut
  ·rw[ac2 h8,dD h40 h8];have h:=hT (a+1) (d+1) ts (by omega) (by omega) hi;cases hR:dO (bM l) n (a+1) (d+1) ts with
   |error Ep=>
    obtain⟨E,p⟩:=Ep;rw[hR]at h;have hd:Dd (eY l (bM l) n ⟨a+1,d+1,0,texts ts,C⟩).1 E p:=h;rw[hd.one,hd.term];exact hd.shut
   |ok q=>
    obtain⟨a1,aF,m⟩:=q;rw[hR]at h;obtain⟨h1,h2,h3,h4,h5,h6⟩:=h;rw[h1];by_cases h44:bM l a1=44
    ·have hlt1:=jy (l:=l) (a:=a1) (by omega);simp only[h44,ah9];rw[mX (by simpa using h44)];have g:=hT (a1+1) (d+1) aF (by omega) (by omega) h2;cases hR2:dO (bM l) n (a1+1) (d+1) aF with
     |error Ep=>
      obtain⟨E,p⟩:=Ep;rw[hR2]at g;exact Dd.shut g
     |ok q=>
      obtain⟨a2,ts2,m2⟩:=q;rw[hR2]at g;obtain⟨g1,g2,g3,g4,g5,g6⟩:=g;simp only;rw[g1];have hlen:aF.length<=ts2.length:=g3.length_le;by_cases h41:bM l a2=41
      ·simp only[h41,ah9];rw[jU h41];refine⟨rfl,g2,h3.trans g3,by omega,g4,?_,by omega⟩;have e0:=jE (jD (l:=l) (a:=a) (c:=40) h40 (by decide));have e1:=jE (jD (l:=l) (a:=a1) (c:=44) h44 (by decide));have e2:=jE (jD (l:=l) (a:=a2) (c:=41) h41 (by decide));have em:(texts ts2).getD m []=(texts aF).getD m []:=vT (rO g3) (by rw[dQ];exact h4);rw[jF l (show a<=a+1 by omega) (show a+1<=a2+1 by omega),jF l (show a+1<=a1 by omega) (show a1<=a2+1 by omega),jF l (show a1<=a1+1 by omega) (show a1+1<=a2+1 by omega),
        jF l (show a1+1<=a2 by omega) (show a2<=a2+1 by omega),e0,e1,e2,em,h5,g5]
       simp
      ·simp only[h41,al3];exact mQ h41
    ·simp only[h44,al3];have hd:=xU (l:=l) (C:=C) (a:=a1) (d:=d+1) (T:=texts aF) (L:=[44]) (by simpa using h44);rw[hd.term];exact hd.shut
 ·rw[ac2 h40];have hd:=lT (l:=l) (C:=C) (d:=d) (T:=texts ts) h40;rw[hd.term,hd.one,hd.term];exact hd.shut
theorem BK{a a1 d:Nat}{aF:List Key}{k:Key}(h:Inv aF)(hk:dM aF.length k)(hc:cut l a a1=rend (texts aF) k) :
  jY l a ⟨a1,d,0,texts aF,C⟩=(⟨a1,d,0,texts (put aF k),C⟩,aF.idxOf k):=by
 unfold jY;rw[ad3 rfl];simp only[hc];rw[(h.put hk).2,(h.find hk).2]
theorem BN{ts:List Key}(h:Inv ts){k:Key}(hk:dM ts.length k):(texts (put ts k)).getD (ts.idxOf k) []=rend (texts ts) k:=by
 have hf:=h.find hk;rw[(h.put hk).2,<-hf.2];unfold aB.put;by_cases hc:(texts ts).contains (rend (texts ts) k)=true
 ·rw[ad3 hc];have hm:rend (texts ts) k∈texts ts:=by simpa using hc
  have hi:=ae7 hm;rw[ad4,ab4 hi];exact af5 hi
 ·rw[ac2 hc];have hm:¬rend (texts ts) k∈texts ts:=by simpa using hc
  rw[ag0 hm];simp[ad4]
theorem mW{ts:List Key}(k:Key):ts <+: put ts k:=by
 unfold put;split
 ·exact List.prefix_rfl
 ·exact ak8 _ _
theorem uw:∀n,QN l C n:=by
 intro n
 induction n with
 |zero=>intro a d ts ha hn;omega
 |succ n ih=>
  intro a d ts ha hn hi;unfold dO eY;by_cases hnm:isName (bM l a)=true
  ·rw[ad3 hnm];have hb:97<=bM l a/\bM l a<=101:=(by simpa[isName]using hnm);have hin:letters.contains (bM l a)=true:=(by simp[letters];omega);rw[mX hin];have hIn:Nk (bM l) (λτ=>(eY l (bM l) n τ).1) (bM l a) ⟨a+1,d,0,texts ts,C⟩=⟨a+1,d,0,texts ts,C⟩:=(by unfold Nk;rw[ac2 (by omega),ac2 (by omega)]);simp only[hIn];have hk:dM ts.length (bM l a,0,0):=Or.inl ⟨hb.1,hb.2,rfl,rfl⟩;have hc:cut l a (a+1)=rend (texts ts) (bM l a,0,0):=by
    have hg:=jD (l:=l) (a:=a) (c:=UInt8.ofNat (bM l a).toNat) (by simp;omega) (λe=>by have:=am8 UInt8.toNat e;simp at this;omega);rw[jE hg];unfold rend;rw[ac2 (by simp only;omega),ac2 (by simp only;omega)]
   rw[BK hi hk hc];exact⟨rfl,(hi.put hk).1,mW _,ji _ _,by rw[BN hi hk,hc],by omega⟩
  ·rw[ac2 hnm];by_cases hf:bM l a=102
   ·rw[ad3 hf];have hlt:=jy (l:=l) (a:=a) (by omega);have hin:letters.contains (bM l a)=true:=(by rw[hf];decide);rw[mX hin,hf];have hIn:Nk (bM l) (λτ=>(eY l (bM l) n τ).1) 102 ⟨a+1,d,0,texts ts,C⟩=jV (bM l) (eY l (bM l) n (jW (bM l) ⟨a+1,d,0,texts ts,C⟩)).1:=(by unfold Nk;rw[ad3 rfl]);simp only[hIn];have h:=Ag (d:=d) ih (a:=a+1) (by omega) (by omega) hi;cases hR:arg1 (bM l) (dO (bM l) n) (a+1) d ts with
    |error Ep=>
     obtain⟨E,p⟩:=Ep;rw[hR]at h;have hd:Dd _ E p:=h
     show Dd (jY l a _).1 E p
     rw[hd.OO];exact hd
    |ok q=>
     obtain⟨a1,aF,m⟩:=q;rw[hR]at h;obtain⟨h1,h2,h3,h4,h5,h6⟩:=h;rw[h1];have hk:dM aF.length (102,m,0):=Or.inr (Or.inl ⟨rfl,h4,rfl⟩);have hc:cut l a a1=rend (texts aF) (102,m,0):=by
      rw[jF l (show a<=a+1 by omega) (show a+1<=a1 by omega),jE (jD (l:=l) (a:=a) (c:=102) hf (by decide)),h5];rfl
     rw[BK h2 hk hc];exact⟨rfl,(h2.put hk).1,h3.trans (mW _),ji _ _,by rw[BN h2 hk,hc],by omega⟩
   ·rw[ac2 hf];by_cases hg:bM l a=103
    ·rw[ad3 hg];have hlt:=jy (l:=l) (a:=a) (by omega);have hin:letters.contains (bM l a)=true:=(by rw[hg];decide);rw[mX hin,hg];have hIn:Nk (bM l) (λτ=>(eY l (bM l) n τ).1) 103 ⟨a+1,d,0,texts ts,C⟩=jV (bM l) (eY l (bM l) n (jX (bM l) [44] (eY l (bM l) n (jW (bM l) ⟨a+1,d,0,texts ts,C⟩)).1).1).1:=by
      unfold Nk;rw[ac2 (by decide),ad3 rfl]
     simp only[hIn];have h:=J5 (d:=d) ih (a:=a+1) (by omega) (by omega) hi;cases hR:arg2 (bM l) (dO (bM l) n) (a+1) d ts with
     |error Ep=>
      obtain⟨E,p⟩:=Ep;rw[hR]at h;have hd:Dd _ E p:=h
      show Dd (jY l a _).1 E p
      rw[hd.OO];exact hd
     |ok q=>
      obtain⟨a1,aF,m,m2⟩:=q;rw[hR]at h;obtain⟨h1,h2,h3,h4,h4',h5,h6⟩:=h;rw[h1];have hk:dM aF.length (103,m,m2):=Or.inr (Or.inr ⟨rfl,h4,h4'⟩);have hc:cut l a a1=rend (texts aF) (103,m,m2):=by
       rw[jF l (show a<=a+1 by omega) (show a+1<=a1 by omega),jE (jD (l:=l) (a:=a) (c:=103) hg (by decide)),h5];rfl
      rw[BK h2 hk hc];exact⟨rfl,(h2.put hk).1,h3.trans (mW _),ji _ _,by rw[BN h2 hk,hc],by omega⟩
    ·rw[ac2 hg];have hin:letters.contains (bM l a)=false:=by
      have hb:¬(97<=bM l a/\bM l a<=101):=(by simpa[isName]using hnm);simp[letters];omega
     have hd:=xU (l:=l) (C:=C) (a:=a) (d:=d) (T:=texts ts) hin;have h0:(jX (bM l) letters ⟨a,d,0,texts ts,C⟩).2=0:=(by unfold jX;rw[ad3 rfl,ac2 (by rw[hin];simp)]);rw[h0];have hIn:∀σ,Nk (bM l) (λτ=>(eY l (bM l) n τ).1) 0 σ=σ:=λσ=>by unfold Nk;rw[ac2 (by decide),ac2 (by decide)]
     rw[hIn]
     show Dd (jY l a _).1 2 a
     rw[hd.OO];exact hd
end
def dV(T:List (List UInt8))(c:Int×Nat):List UInt8:=UInt8.ofNat c.1.toNat::40::(T.getD c.2 []++[41])
def U5(n:Nat)(c:Int×Nat):Prop:=(c.1=80\/c.1=81)/\c.2<n
def jA(ts:List Key)(cs:List (Int×Nat)):Prop:=∀c∈cs,U5 ts.length c
theorem J9{ts:List Key}(h:Inv ts){c c':Int×Nat}(hc:U5 ts.length c)(hc':U5 ts.length c')(e:dV (texts ts) c=dV (texts ts) c'):c=c':=by
 obtain⟨x,m⟩:=c;obtain⟨x',m'⟩:=c';obtain⟨h1,h2⟩:=hc;obtain⟨h1',h2'⟩:=hc';simp only at h1 h2 h1' h2';unfold dV at e;simp only[List.cons.injEq,true_and]at e;obtain⟨e1,e2⟩:=e;have e3:=ap3 e2;have:=kC h.nd (by rw[dQ];exact h2) (by rw[dQ];exact h2') e3;have e4:=am8 UInt8.toNat e1;simp at e4;subst this;simp;omega
theorem F8{ts aF:List Key}(hp:ts <+: aF){c:Int×Nat}(h:U5 ts.length c):dV (texts aF) c=dV (texts ts) c:=by
 unfold dV;rw[vT (rO hp) (by rw[dQ];exact h.2)]
theorem vW{ts aF:List Key}(hp:ts <+: aF){cs:List (Int×Nat)}(h:jA ts cs):cs.map (dV (texts aF))=cs.map (dV (texts ts)):=
 List.map_congr_left λc hc=>F8 hp (h c hc)
theorem jA.more{ts aF:List Key}(hp:ts <+: aF){cs:List (Int×Nat)}(h:jA ts cs):jA aF cs:=λc hc=>⟨(h c hc).1,ac7 (h c hc).2 hp.length_le⟩
theorem YX{ts:List Key}(h:Inv ts){cs:List (Int×Nat)}(hcs:jA ts cs){c:Int×Nat}(hc:U5 ts.length c):(cs.map (dV (texts ts))).contains (dV (texts ts) c)=cs.contains c:=by
 rw[Bool.eq_iff_iff];simp only[List.contains_eq_mem,ai0,ad9];constructor
 ·rintro⟨c',hm,e⟩;rw[<-J9 h (hcs c' hm) hc e];exact hm
 ·intro hm;exact⟨c,hm,rfl⟩
theorem Zt{ts:List Key}(h:Inv ts){cs:List (Int×Nat)}(hcs:jA ts cs){c:Int×Nat}(hc:U5 ts.length c) :
  put (cs.map (dV (texts ts))) (dV (texts ts) c)=(put cs c).map (dV (texts ts))/\jA ts (put cs c):=by
 unfold put;rw[YX h hcs hc];by_cases hm:cs.contains c=true
 ·rw[ad3 hm,ad3 hm];exact⟨rfl,hcs⟩
 ·rw[ac2 hm,ac2 hm];refine⟨by simp,λx hx=>?_⟩;rcases ae6.1 hx with hx|hx
  ·exact hcs x hx
  ·simp at hx;subst hx;exact hc
def Uc(d:Nat)(r:RF)(x:St):Prop:=
 match r with
 |.ok (a1,aF,cs1)=>x=⟨a1,d,0,texts aF,cs1.map (dV (texts aF))⟩/\Inv aF/\jA aF cs1
 |.error (E,p)=>Dd x E p
section
variable {l:List UInt8}
theorem same_eq{n a d:Nat}{ts:List Key}{cs:List (Int×Nat)}(ha:a<=l.length)(hn:l.length<a+n)(hi:Inv ts)(hcs:jA ts cs) :
  Uc d (Gg (bM l) n a d ts cs) (eY l (bM l) n (jX (bM l) [61] (eY l (bM l) n ⟨a,d,0,texts ts,cs.map (dV (texts ts))⟩).1).1).1:=by
 unfold Gg;have h:=uw (l:=l) (C:=cs.map (dV (texts ts))) n a d ts ha hn hi;cases hR:dO (bM l) n a d ts with
 |error Ep=>
  obtain⟨E,p⟩:=Ep;rw[hR]at h;have hd:Dd (eY l (bM l) n ⟨a,d,0,texts ts,cs.map (dV (texts ts))⟩).1 E p:=h;rw[hd.one,hd.term];exact hd
 |ok q=>
  obtain⟨a1,aF,m⟩:=q;rw[hR]at h;obtain⟨h1,h2,h3,h4,h5,h6⟩:=h;rw[h1];by_cases h61:bM l a1=61
  ·have hlt:=jy (l:=l) (a:=a1) (by omega);simp only[h61,ah9];rw[mX (by simpa using h61)];have g:=uw (l:=l) (C:=cs.map (dV (texts ts))) n (a1+1) d aF (by omega) (by omega) h2;cases hR2:dO (bM l) n (a1+1) d aF with
   |error Ep=>
    obtain⟨E,p⟩:=Ep;rw[hR2]at g;exact g
   |ok q=>
    obtain⟨a2,ts2,m2⟩:=q;rw[hR2]at g;obtain⟨g1,g2,g3,g4,g5,g6⟩:=g;simp only;rw[g1];refine⟨?_,g2,hcs.more (h3.trans g3)⟩;rw[vW (h3.trans g3) hcs]
  ·simp only[h61,al3];have hd:=xU (l:=l) (C:=cs.map (dV (texts ts))) (a:=a1) (d:=d) (T:=texts aF) (L:=[61]) (by simpa using h61);rw[hd.term];exact hd
theorem Rw(c:Int)(a d:Nat)(T C:List (List UInt8)):nI (bM l) ⟨a,d,0,T,C⟩ c=decide (bM l a=c):=by simp[nI]
theorem Bv:∀(n a d:Nat) (ts:List Key) (cs:List (Int×Nat)),a<=l.length->l.length<a+n->Inv ts->jA ts cs->
  Uc d (Bz (bM l) n a d ts cs) (fJ l (bM l) n ⟨a,d,0,texts ts,cs.map (dV (texts ts))⟩):=by
 intro n
 induction n with
 |zero=>intro a d ts cs ha hn;omega
 |succ n ih=>
  intro a d ts cs ha hn hi hcs;unfold Bz fJ;simp only[Rw];by_cases h33:bM l a=33
  ·have hlt:=jy (l:=l) (a:=a) (by omega);rw[ad3 h33,ad3 (show decide (bM l a=33)=true by simpa using h33)];exact ih (a+1) d ts cs (by omega) (by omega) hi hcs
  ·rw[ac2 h33,ac2 (show ¬(decide (bM l a=33)=true) by simpa using h33)];by_cases h40:bM l a=40
   ·have hlt:=jy (l:=l) (a:=a) (by omega);rw[ad3 h40,ac2 (show ¬((decide (bM l a=80)||decide (bM l a=81))=true) by simp;omega),ad3 (show decide (bM l a=40)=true by simpa using h40)];by_cases h8:d=8
    ·rw[ad3 h8];subst h8;have hd:=iU (l:=l) (C:=cs.map (dV (texts ts))) (T:=texts ts) h40;rw[hd.formula,hd.one,hd.formula];exact hd.shut
    ·rw[ac2 h8,dD h40 h8];have h:=ih (a+1) (d+1) ts cs (by omega) (by omega) hi hcs;have hok:=qh (pk:=bM l) (N:=l.length) (λa h=>jy h) n (a+1) (d+1) ts cs (by omega);cases hR:Bz (bM l) n (a+1) (d+1) ts cs with
     |error Ep=>
      obtain⟨E,p⟩:=Ep;rw[hR]at h;have hd:Dd (fJ l (bM l) n ⟨a+1,d+1,0,texts ts,cs.map (dV (texts ts))⟩) E p:=h;rw[hd.one,hd.formula];exact hd.shut
     |ok q=>
      obtain⟨a1,aF,cs1⟩:=q;rw[hR]at h hok;obtain⟨h1,h2,h3⟩:=h;obtain⟨o1,o2,_⟩:=hok;rw[h1];by_cases hj:au (bM l a1)=true
      ·have hlt1:=jy (l:=l) (a:=a1) (λe=>by rw[e]at hj;simp[au]at hj);simp only[hj,ah9];have hjj:List.contains [38,124,62,45] (bM l a1)=true:=(by simpa[au,or_assoc]using hj);rw[mX hjj];have g:=ih (a1+1) (d+1) aF cs1 (by omega) (by omega) h2 h3;cases hR2:Bz (bM l) n (a1+1) (d+1) aF cs1 with
       |error Ep=>
        obtain⟨E,p⟩:=Ep;rw[hR2]at g;exact Dd.shut g
       |ok q=>
        obtain⟨a2,ts2,cs2⟩:=q;rw[hR2]at g;obtain⟨g1,g2,g3⟩:=g;simp only;rw[g1];by_cases h41:bM l a2=41
        ·simp only[h41,ah9];rw[jU h41];exact⟨rfl,g2,g3⟩
        ·simp only[h41,al3];exact mQ h41
      ·simp only[hj];have hjj:List.contains [38,124,62,45] (bM l a1)=false:=(by simpa[au,or_assoc]using hj);have hd:=xU (l:=l) (C:=cs1.map (dV (texts aF))) (a:=a1) (d:=d+1) (T:=texts aF) hjj;rw[hd.formula];exact hd.shut
   ·rw[ac2 h40];by_cases h8:bM l a=80\/bM l a=81
    ·have hlt:=jy (l:=l) (a:=a) (by omega);rw[ad3 h8,ad3 (show(decide (bM l a=80)||decide (bM l a=81))=true by simpa using h8)];have h:=Ag (l:=l) (C:=cs.map (dV (texts ts))) (n:=n+1) (d:=d) (uw _) (a:=a+1) (by omega) (by omega) hi;cases hR:arg1 (bM l) (dO (bM l) (n+1)) (a+1) d ts with
     |error Ep=>
      obtain⟨E,p⟩:=Ep;rw[hR]at h;have hd:Dd _ E p:=h
      show Dd (qV l a _) E p
      rw[hd.Xt];exact hd
     |ok q=>
      obtain⟨a1,aF,m⟩:=q;rw[hR]at h;obtain⟨h1,h2,h3,h4,h5,h6⟩:=h;rw[h1];have hc:U5 aF.length (bM l a,m):=⟨h8,h4⟩;have hcut:cut l a a1=dV (texts aF) (bM l a,m):=by
       have hg:=jD (l:=l) (a:=a) (c:=UInt8.ofNat (bM l a).toNat) (by simp;omega) (λe=>by have:=am8 UInt8.toNat e;simp at this;omega);rw[jF l (show a<=a+1 by omega) (show a+1<=a1 by omega),jE hg,h5];rfl
      have hp:=Zt h2 (hcs.more h3) hc
      show Uc d (.ok (a1,aF,put cs (bM l a,m))) _
      refine⟨?_,h2,hp.2⟩;unfold qV;rw[ad3 rfl];simp only[hcut];rw[<-vW h3 hcs,hp.1]
    ·rw[ac2 h8,ac2 (show ¬((decide (bM l a=80)||decide (bM l a=81))=true) by simpa using h8),ac2 (show ¬(decide (bM l a=40)=true) by simpa using h40)];exact same_eq ha (by omega) hi hcs
end
def Gd(l:List UInt8)(σ:St):Prop:=(∀t∈σ.T,t.length<=l.length)/\(∀t∈σ.C,t.length<=l.length)/\σ.C.Nodup
theorem Qp(l:List UInt8)(x y:Nat):(cut l x y).length<=l.length:=by unfold cut;simp;omega
theorem put_mem{α:Type}[BEq α][LawfulBEq α]{L:List α}{k t:α}(h:t∈put L k):t∈L\/t=k:=by
 unfold put at h;split at h
 ·exact Or.inl h
 ·rcases ae6.1 h with h|h
  ·exact Or.inl h
  ·exact Or.inr (by simpa using h)
theorem lN{α:Type}[BEq α][LawfulBEq α]{L:List α}(k:α)(h:L.Nodup):(put L k).Nodup:=by
 unfold put;split
 ·exact h
 ·rename_i hc;refine al4.2 ⟨h,by simp,λa ha b hb e=>?_⟩;simp at hb;subst hb;subst e;exact hc (by simpa using ha)
section
variable {l:List UInt8} {pk:Nat->Int}
theorem uM{σ:St}(L:List Int)(h:Gd l σ):Gd l (jX pk L σ).1:=by
 unfold jX;split
 ·split
  ·exact h
  ·exact h
 ·exact h
theorem xg{σ:St}(h:Gd l σ):Gd l (jW pk σ):=by
 have h1:Gd l (rY pk σ):=by unfold rY;split;exact h;exact h
 have h2:=uM (pk:=pk) [40] h1;exact h2
theorem wZ{σ:St}(h:Gd l σ):Gd l (jV pk σ):=uM (pk:=pk) [41] h
theorem PZ{σ:St}(x:Nat)(h:Gd l σ):Gd l (jY l x σ).1:=by
 unfold jY;split
 ·refine⟨λt ht=>?_,h.2.1,h.2.2⟩;rcases put_mem ht with ht|ht
  ·exact h.1 t ht
  ·subst ht;exact Qp _ _ _
 ·exact h
theorem P5{σ:St}(x:Nat)(h:Gd l σ):Gd l (qV l x σ):=by
 unfold qV;split
 ·refine⟨h.1,λt ht=>?_,lN _ h.2.2⟩;rcases put_mem ht with ht|ht
  ·exact h.2.1 t ht
  ·subst ht;exact Qp _ _ _
 ·exact h
theorem Cc:∀(n:Nat) (σ:St),Gd l σ->Gd l (eY l pk n σ).1:=by
 intro n
 induction n with
 |zero=>intro σ h;exact h
 |succ n ih=>
  intro σ h;unfold eY;refine PZ _ ?_;have h1:=uM (pk:=pk) letters h;unfold Nk;split
  ·exact wZ (ih _ (xg h1))
  ·split
   ·exact wZ (ih _ (uM _ (ih _ (xg h1))))
   ·exact h1
theorem H8:∀(n:Nat) (σ:St),Gd l σ->Gd l (fJ l pk n σ):=by
 intro n
 induction n with
 |zero=>intro σ h;exact h
 |succ n ih=>
  intro σ h;unfold fJ;split
  ·exact ih _ h
  ·split
   ·exact P5 _ (wZ (Cc _ _ (xg (σ:={σ with a:=σ.a+1}) h)))
   ·split
    ·exact wZ (ih _ (uM _ (ih _ (xg h))))
    ·exact Cc _ _ (uM _ (Cc _ _ h))
end
theorem Inv.nodup{ts:List Key}(h:Inv ts):ts.Nodup:=by
 refine ak0.2 λi j hi hj hlt e=>?_;have g1:=h.get i hi;have g2:=h.get j hj;rw[e,<-g2]at g1;have:=kC h.nd (by rw[dQ];exact hi) (by rw[dQ];exact hj) g1;omega
end aB
open Go
def iO(J:Nat->Act->World->Prop)(Q:Exit->Act->World->Prop):Exit->Act->World->Prop
 |.goto l,a,w=>J l a w
 |e,a,w=>Q e a w
theorem zG{P:Program}{a:Act}{w:World}{Q:Exit->Act->World->Prop}{c:Code}(J:Nat->Nat->Act->World->Prop)
 (first:c.wp P (iO (λl a w=>∃r,J r l a w) Q) a w)
 (pass:∀r l a w,J r l a w->∃rest,findLabel c l=some rest/\rest.wp P (iO (λl' a' w'=>∃r',r'<r/\J r' l' a' w') Q) a w):(Code.scope c).wp P Q a w:=by
 intro b k cs;have key:∀r l a w,J r l a w->∃rest e a' w',findLabel c l=some rest/\Q e a' w'/\Arrives P (lone (b.at a (.code rest::.inScope c::k)) cs w) b k cs e a' w':=by
  intro r
  induction r using Nat.strongRecOn with
  |_ r ih=>
   intro l a w hJ;obtain⟨rest,hf,hp⟩:=pass r l a w hJ;obtain⟨e,a1,w1,hq,harr⟩:=hp b (.inScope c::k) cs;cases e with
   |normal=>exact⟨rest,.normal,a1,w1,hf,hq,Steps.trans harr (.one step_inScope)⟩
   |exit id=>exact⟨rest,.exit id,a1,w1,hf,hq,λk' hk=>harr k' (by simp[exitTo,hk])⟩
   |goto l'=>
    obtain⟨r',hlt,hJ'⟩:=hq;obtain⟨NR,e2,a2,w2,hf2,hq2,Pq⟩:=ih r' hlt l' a1 w1 hJ';have hg:gotoIn l' (.inScope c::k)=some (.code NR::.inScope c::k):=(by simp[gotoIn,hf2]);exact⟨rest,e2,a2,w2,hf,hq2,.of_steps (harr _ hg) Pq⟩
   |ret=>exact⟨rest,_,a1,w1,hf,hq,harr⟩
   |panic ch=>exact⟨rest,_,a1,w1,hf,hq,harr⟩
   |outgrown=>exact⟨rest,_,a1,w1,hf,hq,harr⟩
 obtain⟨e,a1,w1,hq,harr⟩:=first b (.inScope c::k) cs
 cases e with
 |normal=>exact⟨.normal,a1,w1,hq,.head step_scope (Steps.trans harr (.one step_inScope))⟩
 |exit id=>exact⟨.exit id,a1,w1,hq,λk' hk=>.head step_scope (harr k' (by simp[exitTo,hk]))⟩
 |goto l'=>
  obtain⟨r,hJ⟩:=hq;obtain⟨NR,e2,a2,w2,hf2,hq2,Pq⟩:=key r l' a1 w1 hJ;have hg:gotoIn l' (.inScope c::k)=some (.code NR::.inScope c::k):=by simp[gotoIn,hf2]
  exact⟨e2,a2,w2,hq2,.of_steps (.head step_scope (harr _ hg)) Pq⟩
 |ret=>exact⟨_,a1,w1,hq,.of_steps (.one step_scope) harr⟩
 |panic ch=>exact⟨_,a1,w1,hq,.of_steps (.one step_scope) harr⟩
 |outgrown=>exact⟨_,a1,w1,hq,.of_steps (.one step_scope) harr⟩
theorem xF{P:Program}{a:Act}{w:World}{Q:Exit->Act->World->Prop}{c c0 c1 c2:Code}(J:Nat->Nat->Act->World->Prop)(h0:findLabel c 0=some (.seq .skip c0))(h1:findLabel c 1=some (.seq .skip c1))(h2:findLabel c 2=some (.seq .skip c2))
 (only:∀r l a w,J r l a w->l=0\/l=1\/l=2)
 (p2:∀r a w,J r 2 a w->c2.wp P (iO (λl' a' w'=>∃r',r'<r/\J r' l' a' w') Q) a w)
 (p1:∀r a w,J r 1 a w->c1.wp P (iO (λl' a' w'=>∃r',r'<r/\J r' l' a' w') Q) a w)
 (p0:(∀r a w,J r 1 a w->c1.wp P (iO (λl' a' w'=>∃r',r'<r/\J r' l' a' w') Q) a w)->∀r a w,J r 0 a w->c0.wp P (iO (λl' a' w'=>∃r',r'<r/\J r' l' a' w') Q) a w)
 (first:(∀r a w,J r 0 a w->c0.wp P (iO (λl' a' w'=>∃r',r'<r/\J r' l' a' w') Q) a w)->c.wp P (iO (λl a w=>∃r,J r l a w) Q) a w):(Code.scope c).wp P Q a w:=by
 refine zG J (first (p0 p1)) (λr l a w h=>?_);rcases only r l a w h with e|e|e
 ·subst e;exact⟨_,h0,wp_seq (wp_skip (p0 p1 r a w h))⟩
 ·subst e;exact⟨_,h1,wp_seq (wp_skip (p1 r a w h))⟩
 ·subst e;exact⟨_,h2,wp_seq (wp_skip (p2 r a w h))⟩
theorem sK{J J':Nat->Act->World->Prop}{Q:Exit->Act->World->Prop}(h:∀l a w,J l a w->J' l a w):∀e a w,iO J Q e a w->iO J' Q e a w:=by
 intro e a w hj;cases e<;>first|exact h _ _ _ hj|exact hj
end Go.Proofs.YthcppbmkacbbiaaGreat
