import Derived.Test.YthcppbmkacbbiaaGreatZAI
set_option linter.unusedSimpArgs false
set_option maxHeartbeats 1000000
set_option maxRecDepth 100000
namespace Go.Proofs.YthcppbmkacbbiaaGreat
open Go.Proofs.Tryz
namespace au
def rend(T:List (List UInt8))(k:Key):List UInt8:=
 if k.1=102 then 102::40::(T.getD k.2.1 []++[41])
 else if k.1=103 then 103::40::(T.getD k.2.1 []++44::(T.getD k.2.2 []++[41]))
 else [UInt8.ofNat k.1.toNat]
def texts(ts:List Key):List (List UInt8):=ts.foldl (λT k=>T++[rend T k]) []
theorem lF(ts:List Key)(k:Key):texts (ts++[k])=texts ts++[rend (texts ts) k]:=by
 unfold texts;rw[aq5];rfl
theorem aW(ts:List Key):(texts ts).length=ts.length:=by
 suffices h:∀(ts:List Key) (T:List (List UInt8)),(ts.foldl (λT k=>T++[rend T k]) T).length=T.length+ts.length by
  have:=h ts [];simpa[texts]using this
 intro ts
 induction ts with
 |nil=>intro T;simp
 |cons k r ih=>intro T;simp only[List.foldl_cons,ih];simp;omega
def jy(n:Nat)(k:Key):Prop:=
 (97<=k.1/\k.1<=101/\k.2.1=0/\k.2.2=0)\/(k.1=102/\k.2.1<n/\k.2.2=0)\/(k.1=103/\k.2.1<n/\k.2.2<n)
theorem jy.mono{n m:Nat}{k:Key}(h:jy n k)(hm:n<=m):jy m k:=by
 rcases h with h|⟨h1,h2,h3⟩|⟨h1,h2,h3⟩
 ·exact Or.inl h
 ·exact Or.inr (Or.inl ⟨h1,by omega,h3⟩)
 ·exact Or.inr (Or.inr ⟨h1,by omega,by omega⟩)
theorem Dn{T R:List (List UInt8)}{k:Key}(h:jy T.length k):rend (T++R) k=rend T k:=by
 rcases h with⟨h1,h2,h3,h4⟩|⟨h1,h2,h3⟩|⟨h1,h2,h3⟩
 ·unfold rend;rw[af6 (by omega),af6 (by omega),af6 (by omega),af6 (by omega)]
 ·unfold rend;rw[af9 h1,af9 h1];simp[ag8,ak3 h2]
 ·unfold rend;rw[af6 (by omega),af9 h1,af6 (by omega),af9 h1];simp[ag8,ak3 h2,ak3 h3]
def skip:Nat->List UInt8->Option (List UInt8)
 |0,_=>none
 |_+1,[]=>none
 |n+1,c::r=>
  if 97<=c/\c<=101 then some r
  else if c=102 then
   match r with
   |40::r1=>(match skip n r1 with|some (41::r2)=>some r2|_=>none)
   |_=>none
  else if c=103 then
   match r with
   |40::r1=>(match skip n r1 with|some (44::r2)=>(match skip n r2 with|some (41::r3)=>some r3|_=>none)|_=>none)
   |_=>none
  else none
def NH(t:List UInt8):Prop:=∃n,∀m,n<=m->∀r,skip m (t++r)=some r
theorem NH.cancel{t u x y:List UInt8}(ht:NH t)(hu:NH u)(h:t++x=u++y):t=u/\x=y:=by
 obtain⟨n,h1⟩:=ht;obtain⟨m,h2⟩:=hu;have a1:=h1 (n+m) (by omega) x;have a2:=h2 (n+m) (by omega) y;rw[h,a2]at a1;have e:y=x:=am2 a1;subst e;exact⟨av2 h,rfl⟩
theorem TG{c:UInt8}(h:97<=c/\c<=101):NH [c]:=by
 refine⟨1,λm hm r=>?_⟩;obtain⟨k,rfl⟩:∃k,m=k+1:=⟨m-1,by omega⟩;simp[skip,h]
theorem aaG{t:List UInt8}(h:NH t):NH (102::40::(t++[41])):=by
 obtain⟨n,h1⟩:=h;refine⟨n+1,λm hm r=>?_⟩;obtain⟨k,rfl⟩:∃k,m=k+1:=⟨m-1,by omega⟩;have e:(102::40::(t++[41]))++r=102::40::(t++(41::r)):=by simp
 rw[e];unfold skip;rw[af6 (by decide),af9 rfl];simp only[h1 k (by omega)]
theorem aaF{t u:List UInt8}(ht:NH t)(hu:NH u):NH (103::40::(t++44::(u++[41]))):=by
 obtain⟨n,h1⟩:=ht;obtain⟨n2,h2⟩:=hu;refine⟨n+n2+1,λm hm r=>?_⟩;obtain⟨k,rfl⟩:∃k,m=k+1:=⟨m-1,by omega⟩;have e:(103::40::(t++44::(u++[41])))++r=103::40::(t++(44::(u++(41::r)))):=by simp
 rw[e];unfold skip;rw[af6 (by decide),af6 (by decide),af9 rfl];simp only[h1 k (by omega),h2 k (by omega)]
structure Inv(ts:List Key):Prop where
 key:∀i (h:i<ts.length),jy i ts[i]
 nd:(texts ts).Nodup
 tm:∀t∈texts ts,NH t
 get:∀i (h:i<ts.length),(texts ts).getD i []=rend (texts ts) ts[i]
theorem MZ:Inv []:=⟨λi h=>absurd h (by simp),by simp[texts],by simp[texts],λi h=>absurd h (by simp)⟩
theorem getD_mem{T:List (List UInt8)}{i:Nat}(h:i<T.length):T.getD i []∈T:=by
 rw[ag8,af2 h];exact af4 h
theorem Dy{α:Type}{T:List α}(hn:T.Nodup){i j:Nat}(hi:i<T.length)(hj:j<T.length)(h:T[i]=T[j]):i=j:=by
 rcases as7 i j with hlt|he|hlt
 ·exact absurd h (an5.1 hn i j hi hj hlt)
 ·exact he
 ·exact absurd h.symm (an5.1 hn j i hj hi hlt)
theorem lK{T:List (List UInt8)}(hn:T.Nodup){i j:Nat}(hi:i<T.length)(hj:j<T.length)(h:T.getD i []=T.getD j []):i=j:=by
 rw[ag8,af2 hi,ag8,af2 hj]at h;exact Dy hn hi hj h
theorem TF{T:List (List UInt8)}(hT:∀t∈T,NH t){k:Key}(h:jy T.length k):NH (rend T k):=by
 rcases h with⟨h1,h2,h3,h4⟩|⟨h1,h2,h3⟩|⟨h1,h2,h3⟩
 ·unfold rend;rw[af6 (by omega),af6 (by omega)];apply TG;have e:(UInt8.ofNat k.1.toNat).toNat=k.1.toNat:=by simp;omega
  constructor
  ·rw[UInt8.le_iff_toNat_le,e];simp;omega
  ·rw[UInt8.le_iff_toNat_le,e];simp;omega
 ·unfold rend;rw[af9 h1];exact aaG (hT _ (getD_mem h2))
 ·unfold rend;rw[af6 (by omega),af9 h1];exact aaF (hT _ (getD_mem h2)) (hT _ (getD_mem h3))
theorem Ry{T:List (List UInt8)}(hn:T.Nodup)(hT:∀t∈T,NH t){k k':Key}(h:jy T.length k)(h':jy T.length k')(e:rend T k=rend T k'):k=k':=by
 obtain⟨c,x,y⟩:=k;obtain⟨c',x',y'⟩:=k';rcases h with⟨h1,h2,h3,h4⟩|⟨h1,h2,h3⟩|⟨h1,h2,h3⟩<;>rcases h' with⟨g1,g2,g3,g4⟩|⟨g1,g2,g3⟩|⟨g1,g2,g3⟩<;>simp only at h1 h2 h3 g1 g2 g3
 ·simp only at h4 g4;unfold rend at e;rw[af6 (by simp only;omega),af6 (by simp only;omega),af6 (by simp only;omega),af6 (by simp only;omega)]at e;have e1:UInt8.ofNat c.toNat=UInt8.ofNat c'.toNat:=by simpa using e
  have e2:=ap7 UInt8.toNat e1;simp at e2;have:c=c':=by omega
  subst this;subst h3;subst h4;subst g3;subst g4;rfl
 ·exfalso;unfold rend at e;rw[af6 (by simp only;omega),af6 (by simp only;omega),af9 (by simp only;omega)]at e;simp at e
 ·exfalso;unfold rend at e;rw[af6 (by simp only;omega),af6 (by simp only;omega),af6 (by simp only;omega),af9 (by simp only;omega)]at e;simp at e
 ·exfalso;unfold rend at e;rw[af9 (by simp only;omega),af6 (by simp only;omega),af6 (by simp only;omega)]at e;simp at e
 ·unfold rend at e;rw[af9 h1,af9 g1]at e;simp only[as5,true_and]at e;have e2:=av2 e;have:=lK hn h2 g2 e2;subst this;subst h1;subst h3;subst g1;subst g3;rfl
 ·exfalso;unfold rend at e;rw[af9 (by simp only;omega),af6 (by simp only;omega),af9 (by simp only;omega)]at e;simp at e
 ·exfalso;unfold rend at e;rw[af6 (by simp only;omega),af9 (by simp only;omega),af6 (by simp only;omega),af6 (by simp only;omega)]at e;simp at e
 ·exfalso;unfold rend at e;rw[af6 (by simp only;omega),af9 (by simp only;omega),af9 (by simp only;omega)]at e;simp at e
 ·unfold rend at e;rw[af6 (by simp only;omega),af9 h1,af6 (by simp only;omega),af9 g1]at e;simp only[as5,true_and]at e;obtain⟨e2,e3⟩:=NH.cancel (hT _ (getD_mem h2)) (hT _ (getD_mem g2)) e;simp only[as5,true_and]at e3;have e4:=av2 e3;have:=lK hn h2 g2 e2;have:=lK hn h3 g3 e4;subst h1;subst g1;simp;omega
theorem Inv.find{ts:List Key}(h:Inv ts){k:Key}(hk:jy ts.length k):(texts ts).contains (rend (texts ts) k)=ts.contains k/\(texts ts).idxOf (rend (texts ts) k)=ts.idxOf k:=by
 have hl:=aW ts;have hk':jy (texts ts).length k:=by rw[hl];exact hk
 have back:∀i (hi:i<ts.length),(texts ts)[i]'(by omega)=rend (texts ts) k->ts[i]=k:=λi hi e=>by
  have g:=h.get i hi;rw[ag8,af2 (by omega)]at g;simp at g;exact Ry h.nd h.tm ((h.key i hi).mono (by omega)) hk' (g.symm.trans e)
 have fwd:∀i (hi:i<ts.length),ts[i]=k->(texts ts)[i]'(by omega)=rend (texts ts) k:=λi hi e=>by
  have g:=h.get i hi;rw[ag8,af2 (by omega)]at g;simp at g;rw[g,e]
 have hm:rend (texts ts) k∈texts ts↔k∈ts:=by
  constructor
  ·intro hmem;obtain⟨i,hi,e⟩:=aj2 hmem;rw[<-back i (by omega) e];exact af4 _
  ·intro hmem;obtain⟨i,hi,e⟩:=aj2 hmem;rw[<-fwd i hi e];exact af4 _
 refine⟨by rw[au2];simpa using hm,?_⟩;by_cases hmem:k∈ts
 ·have hi:=ai5 hmem;have e1:=fwd _ hi (aj6 hi);have hmem':=hm.2 hmem;have hj:=ai5 hmem';have e2:=aj6 hj;exact Dy h.nd hj (by omega) (e2.trans e1.symm)
 ·rw[ak0 hmem,ak0 (λe=>hmem (hm.1 e)),hl]
theorem Inv.put{ts:List Key}(h:Inv ts){k:Key}(hk:jy ts.length k):Inv (put ts k)/\texts (put ts k)=au.put (texts ts) (rend (texts ts) k):=by
 have hf:=h.find hk;have hl:=aW ts;unfold au.put;rw[hf.1];by_cases hc:ts.contains k=true
 ·rw[af9 hc,af9 hc];exact⟨h,rfl⟩
 ·rw[af6 hc,af6 hc];refine⟨⟨?_,?_,?_,?_⟩,lF ts k⟩
  ·intro i hi;by_cases hlt:i<ts.length
   ·rw[al5 hlt];exact h.key i hlt
   ·have:i=ts.length:=(by simp at hi;omega);subst this;simpa using hk
  ·rw[lF];refine aq4.2 ⟨h.nd,by simp,λa ha b hb=>?_⟩;simp at hb;subst hb;intro e;subst e;have hcc:(texts ts).contains (rend (texts ts) k)=true:=(by simpa using ha);rw[hf.1]at hcc;exact hc hcc
  ·intro t ht;rw[lF]at ht;rcases ai3.1 ht with ht|ht
   ·exact h.tm t ht
   ·simp at ht;subst ht;exact TF h.tm (by rw[hl];exact hk)
  ·intro i hi;rw[lF];by_cases hlt:i<ts.length
   ·rw[al5 hlt,Dn ((h.key i hlt).mono (by omega)),<-h.get i hlt];simp[ag8,ak3 (show i<(texts ts).length by omega)]
   ·have:i=ts.length:=(by simp at hi;omega);subst this;rw[Dn (by simpa[hl]using hk)];simp[ag8,<-hl]
def aY(l:List UInt8)(a:Nat):Int:=match l[a]? with|some b=>(b.toNat:Int)|none=>0
theorem dQ{l:List UInt8}{a:Nat}(h:aY l a≠0):a<l.length:=by
 unfold aY at h;by_cases hl:a<l.length
 ·exact hl
 ·rw[List.getElem?_eq_none (by omega)]at h;exact absurd rfl h
theorem jW{l:List UInt8}{a:Nat}{c:UInt8}(h:aY l a=(c.toNat:Int))(hc:c≠0):l[a]?=some c:=by
 have h0:c.toNat≠0:=λe=>hc (UInt8.toNat_inj.1 (by rw[e];rfl));have hl:=dQ (l:=l) (a:=a) (by omega);unfold aY at h;rw[af2 hl]at h ⊢;simp at h;have:l[a].toNat=c.toNat:=by omega
 rw[UInt8.toNat_inj.1 this]
theorem jZ{l:List UInt8}{a:Nat}{c:UInt8}(h:l[a]?=some c):cut l a (a+1)=[c]:=by
 have hl:a<l.length:=by
  by_cases hl:a<l.length
  ·exact hl
  ·rw[List.getElem?_eq_none (by omega)]at h;cases h
 rw[af2 hl]at h;unfold cut;rw[show a+1-a=1 by omega,an6 hl,am2 h];rfl
theorem ku(l:List UInt8){x y z:Nat}(h1:x<=y)(h2:y<=z):cut l x z=cut l x y++cut l y z:=by
 unfold cut;rw[show z-x=(y-x)+(z-y) by omega,List.take_add,List.drop_drop,show x+(y-x)=y by omega]
def Dd(σ:St)(E:Int)(p:Nat):Prop:=σ.E=E/\σ.a=p/\E≠0
section
variable {pk:Nat->Int} {l:List UInt8} {E:Int} {p:Nat} {σ:St}
theorem Dd.one(h:Dd σ E p)(L:List Int):aX pk L σ=(σ,0):=by unfold aX;rw[af6 (by rw[h.1];exact h.2.2)]
theorem Dd.sees(h:Dd σ E p)(c:Int):aH pk σ c=false:=by unfold aH;rw[aq1 (by rw[h.1];exact h.2.2)];rfl
theorem Dd.shut(h:Dd σ E p):Dd (bM pk σ) E p:=by unfold bM;rw[h.one];exact h
theorem Dd.term(h:Dd σ E p)(n:Nat):aJ l pk n σ=(σ,0):=by
 cases n with
 |zero=>rfl
 |succ n=>
  unfold aJ;rw[h.one];have e:yM pk (λτ=>(aJ l pk n τ).1) 0 σ=σ:=by unfold yM;rw[af6 (by decide),af6 (by decide)]
  simp only[e];unfold fB;rw[af6 (by rw[h.1];exact h.2.2)]
theorem Dd.formula(h:Dd σ E p)(n:Nat):aI l pk n σ=σ:=by
 cases n with
 |zero=>rfl
 |succ n=>
  unfold aI;rw[af6 (by rw[h.sees];simp),af6 (by rw[h.sees,h.sees];simp),af6 (by rw[h.sees];simp),h.term,h.one,h.term]
theorem Dd.TA(h:Dd σ E p)(x:Nat):fB l x σ=(σ,0):=by unfold fB;rw[af6 (by rw[h.1];exact h.2.2)]
theorem Dd.aaE(h:Dd σ E p)(x:Nat):fC l x σ=σ:=by unfold fC;rw[af6 (by rw[h.1];exact h.2.2)]
end
def ad3(l:List UInt8)(a d:Nat)(ts:List Key)(C:List (List UInt8))(r:RT)(x:St×Nat):Prop:=
 match r with
 |.ok (a1,aK,m)=>x=(⟨a1,d,0,texts aK,C⟩,m)/\Inv aK/\ts <+: aK/\m<aK.length/\(texts aK).getD m []=cut l a a1/\a<=a1
 |.error (E,p)=>Dd x.1 E p
def RelA(l:List UInt8)(a d:Nat)(ts:List Key)(C:List (List UInt8))(r:RT)(x:St):Prop:=
 match r with
 |.ok (a1,aK,m)=>x=⟨a1,d,0,texts aK,C⟩/\Inv aK/\ts <+: aK/\m<aK.length/\cut l a a1=40::((texts aK).getD m []++[41])/\a<=a1
 |.error (E,p)=>Dd x E p
def acs(l:List UInt8)(a d:Nat)(ts:List Key)(C:List (List UInt8))(r:Ce)(x:St):Prop:=
 match r with
 |.ok (a1,aK,m,m2)=>x=⟨a1,d,0,texts aK,C⟩/\Inv aK/\ts <+: aK/\m<aK.length/\m2<aK.length/\cut l a a1=40::((texts aK).getD m []++44::((texts aK).getD m2 []++[41]))/\a<=a1
 |.error (E,p)=>Dd x E p
theorem uj{ts aK:List Key}(h:ts <+: aK):texts ts <+: texts aK:=by
 obtain⟨r,rfl⟩:=h
 suffices h:∀(r:List Key) (ts:List Key),texts ts <+: texts (ts++r)from h r ts
 intro r
 induction r with
 |nil=>intro ts;simp
 |cons k r ih=>
  intro ts;have h1:=ih (ts++[k]);rw[lF]at h1;have e:ts++k::r=ts++[k]++r:=by simp
  rw[e];exact(as6 _ _).trans h1
theorem xW{T U:List (List UInt8)}(h:T <+: U){i:Nat}(hi:i<T.length):U.getD i []=T.getD i []:=by
 obtain⟨r,rfl⟩:=h;simp[ag8,ak3 hi]
section
variable {l:List UInt8} {C:List (List UInt8)}
theorem nG{a d:Nat}{T:List (List UInt8)}(h:aY l a≠40):Dd (aC (aY l) ⟨a,d,0,T,C⟩) 2 a:=by
 have hd:eF (aY l) ⟨a,d,0,T,C⟩=⟨a,d,0,T,C⟩:=by unfold eF;rw[af6 (λe=>h (gB e.1).2)]
 unfold aC;rw[hd];unfold aX YN;rw[af9 rfl,af6 (by simpa using h)];exact⟨rfl,rfl,by decide⟩
theorem jL{a:Nat}{T:List (List UInt8)}(h:aY l a=40):Dd (aC (aY l) ⟨a,8,0,T,C⟩) 3 a:=by
 have hd:eF (aY l) ⟨a,8,0,T,C⟩=⟨a,8,3,T,C⟩:=by unfold eF;rw[af9 ⟨by simp[aH,h],rfl⟩]
 unfold aC;rw[hd];unfold aX YN;rw[af6 (show ¬((3:Int)=0) by decide)];exact⟨rfl,rfl,by decide⟩
theorem dM{a d:Nat}{T:List (List UInt8)}(h:aY l a=40)(h8:d≠8):aC (aY l) ⟨a,d,0,T,C⟩=⟨a+1,d+1,0,T,C⟩:=by
 have hd:eF (aY l) ⟨a,d,0,T,C⟩=⟨a,d,0,T,C⟩:=by unfold eF;rw[af6 (λe=>h8 e.2)]
 unfold aC;rw[hd];unfold aX YN;rw[af9 rfl,af9 (by simpa using h)]
theorem zJ{a d:Nat}{T:List (List UInt8)}{L:List Int}(h:L.contains (aY l a)=false):Dd (aX (aY l) L ⟨a,d,0,T,C⟩).1 2 a:=by
 unfold aX;rw[af9 rfl,af6 (by rw[h];simp)];exact⟨rfl,rfl,by decide⟩
theorem kR{a d:Nat}{T:List (List UInt8)}{L:List Int}(h:L.contains (aY l a)=true):aX (aY l) L ⟨a,d,0,T,C⟩=(⟨a+1,d,0,T,C⟩,aY l a):=by
 unfold aX;rw[af9 rfl,af9 h]
theorem nY{a d:Nat}{T:List (List UInt8)}(h:aY l a≠41):Dd (bM (aY l) ⟨a,d,0,T,C⟩) 2 a:=by
 have:=zJ (l:=l) (C:=C) (a:=a) (d:=d) (T:=T) (L:=[41]) (by simpa using h);unfold bM;exact this
theorem lH{a d:Nat}{T:List (List UInt8)}(h:aY l a=41):bM (aY l) ⟨a,d+1,0,T,C⟩=⟨a+1,d,0,T,C⟩:=by
 unfold bM;rw[kR (by simpa using h)];rfl
def VG(l:List UInt8)(C:List (List UInt8))(n:Nat):Prop:=
 ∀(a d:Nat) (ts:List Key),a<=l.length->l.length<a+n->Inv ts->ad3 l a d ts C (fF (aY l) n a d ts) (aJ l (aY l) n ⟨a,d,0,texts ts,C⟩)
theorem wL{n a d:Nat}{ts:List Key}(hT:VG l C n)(_ha:a<=l.length)(hn:l.length<a+1+n)(hi:Inv ts) :
  RelA l a d ts C (arg1 (aY l) (fF (aY l) n) a d ts) (bM (aY l) (aJ l (aY l) n (aC (aY l) ⟨a,d,0,texts ts,C⟩)).1):=by
 unfold arg1;by_cases h40:aY l a=40
 ·rw[af9 h40];have hlt:=dQ (l:=l) (a:=a) (by omega);by_cases h8:d=8
  ·rw[af9 h8];subst h8;have hd:=jL (l:=l) (C:=C) (T:=texts ts) h40;rw[hd.term];exact hd.shut
  ·rw[af6 h8,dM h40 h8];have h:=hT (a+1) (d+1) ts (by omega) (by omega) hi;cases hR:fF (aY l) n (a+1) (d+1) ts with
   |error Ep=>
    obtain⟨E,p⟩:=Ep;rw[hR]at h;exact Dd.shut h
   |ok q=>
    obtain⟨a1,aK,m⟩:=q;rw[hR]at h;obtain⟨h1,h2,h3,h4,h5,h6⟩:=h;rw[h1];by_cases h41:aY l a1=41
    ·simp only[h41,am9];rw[lH h41];refine⟨rfl,h2,h3,h4,?_,by omega⟩;have e0:=jZ (jW (l:=l) (a:=a) (c:=40) h40 (by decide));have e1:=jZ (jW (l:=l) (a:=a1) (c:=41) h41 (by decide));rw[ku l (show a<=a+1 by omega) (show a+1<=a1+1 by omega),ku l (show a+1<=a1 by omega) (show a1<=a1+1 by omega),e0,e1,h5];simp
    ·simp only[h41,aq3];exact nY h41
 ·rw[af6 h40];have hd:=nG (l:=l) (C:=C) (d:=d) (T:=texts ts) h40;rw[hd.term];exact hd.shut
theorem Oo{n a d:Nat}{ts:List Key}(hT:VG l C n)(_ha:a<=l.length)(hn:l.length<a+1+n)(hi:Inv ts) :
  acs l a d ts C (arg2 (aY l) (fF (aY l) n) a d ts) (bM (aY l) (aJ l (aY l) n (aX (aY l) [44] (aJ l (aY l) n (aC (aY l) ⟨a,d,0,texts ts,C⟩)).1).1).1):=by
 unfold arg2;by_cases h40:aY l a=40
 ·rw[af9 h40];have hlt:=dQ (l:=l) (a:=a) (by omega);by_cases h8:d=8
  ·rw[af9 h8];subst h8;have hd:=jL (l:=l) (C:=C) (T:=texts ts) h40;rw[hd.term,hd.one,hd.term];exact hd.shut
  ·rw[af6 h8,dM h40 h8];have h:=hT (a+1) (d+1) ts (by omega) (by omega) hi;cases hR:fF (aY l) n (a+1) (d+1) ts with
   |error Ep=>
    obtain⟨E,p⟩:=Ep;rw[hR]at h;have hd:Dd (aJ l (aY l) n ⟨a+1,d+1,0,texts ts,C⟩).1 E p:=h;rw[hd.one,hd.term];exact hd.shut
   |ok q=>
    obtain⟨a1,aK,m⟩:=q;rw[hR]at h;obtain⟨h1,h2,h3,h4,h5,h6⟩:=h;rw[h1];by_cases h44:aY l a1=44
    ·have hlt1:=dQ (l:=l) (a:=a1) (by omega);simp only[h44,am9];rw[kR (by simpa using h44)];have g:=hT (a1+1) (d+1) aK (by omega) (by omega) h2;cases hR2:fF (aY l) n (a1+1) (d+1) aK with
     |error Ep=>
      obtain⟨E,p⟩:=Ep;rw[hR2]at g;exact Dd.shut g
     |ok q=>
      obtain⟨a2,ts2,m2⟩:=q;rw[hR2]at g;obtain⟨g1,g2,g3,g4,g5,g6⟩:=g;simp only;rw[g1];have hlen:aK.length<=ts2.length:=g3.length_le;by_cases h41:aY l a2=41
      ·simp only[h41,am9];rw[lH h41];refine⟨rfl,g2,h3.trans g3,by omega,g4,?_,by omega⟩;have e0:=jZ (jW (l:=l) (a:=a) (c:=40) h40 (by decide));have e1:=jZ (jW (l:=l) (a:=a1) (c:=44) h44 (by decide));have e2:=jZ (jW (l:=l) (a:=a2) (c:=41) h41 (by decide));have em:(texts ts2).getD m []=(texts aK).getD m []:=xW (uj g3) (by rw[aW];exact h4);rw[ku l (show a<=a+1 by omega) (show a+1<=a2+1 by omega),ku l (show a+1<=a1 by omega) (show a1<=a2+1 by omega),ku l (show a1<=a1+1 by omega) (show a1+1<=a2+1 by omega),
        ku l (show a1+1<=a2 by omega) (show a2<=a2+1 by omega),e0,e1,e2,em,h5,g5]
       simp
      ·simp only[h41,aq3];exact nY h41
    ·simp only[h44,aq3];have hd:=zJ (l:=l) (C:=C) (a:=a1) (d:=d+1) (T:=texts aK) (L:=[44]) (by simpa using h44);rw[hd.term];exact hd.shut
 ·rw[af6 h40];have hd:=nG (l:=l) (C:=C) (d:=d) (T:=texts ts) h40;rw[hd.term,hd.one,hd.term];exact hd.shut
theorem Es{a a1 d:Nat}{aK:List Key}{k:Key}(h:Inv aK)(hk:jy aK.length k)(hc:cut l a a1=rend (texts aK) k) :
  fB l a ⟨a1,d,0,texts aK,C⟩=(⟨a1,d,0,texts (put aK k),C⟩,aK.idxOf k):=by
 unfold fB;rw[af9 rfl];simp only[hc];rw[(h.put hk).2,(h.find hk).2]
theorem Ew{ts:List Key}(h:Inv ts){k:Key}(hk:jy ts.length k):(texts (put ts k)).getD (ts.idxOf k) []=rend (texts ts) k:=by
 have hf:=h.find hk;rw[(h.put hk).2,<-hf.2];unfold au.put;by_cases hc:(texts ts).contains (rend (texts ts) k)=true
 ·rw[af9 hc];have hm:rend (texts ts) k∈texts ts:=by simpa using hc
  have hi:=ai5 hm;rw[ag8,af2 hi];exact aj6 hi
 ·rw[af6 hc];have hm:¬rend (texts ts) k∈texts ts:=by simpa using hc
  rw[ak0 hm];simp[ag8]
theorem oq{ts:List Key}(k:Key):ts <+: put ts k:=by
 unfold put;split
 ·exact List.prefix_rfl
 ·exact as6 _ _
theorem kX:∀n,VG l C n:=by
 intro n
 induction n with
 |zero=>intro a d ts ha hn;omega
 |succ n ih=>
  intro a d ts ha hn hi;unfold fF aJ;by_cases hnm:isName (aY l a)=true
  ·rw[af9 hnm];have hb:97<=aY l a/\aY l a<=101:=(by simpa[isName]using hnm);have hin:letters.contains (aY l a)=true:=(by simp[letters];omega);rw[kR hin];have hIn:yM (aY l) (λτ=>(aJ l (aY l) n τ).1) (aY l a) ⟨a+1,d,0,texts ts,C⟩=⟨a+1,d,0,texts ts,C⟩:=(by unfold yM;rw[af6 (by omega),af6 (by omega)]);simp only[hIn];have hk:jy ts.length (aY l a,0,0):=Or.inl ⟨hb.1,hb.2,rfl,rfl⟩;have hc:cut l a (a+1)=rend (texts ts) (aY l a,0,0):=by
    have hg:=jW (l:=l) (a:=a) (c:=UInt8.ofNat (aY l a).toNat) (by simp;omega) (λe=>by have:=ap7 UInt8.toNat e;simp at this;omega);rw[jZ hg];unfold rend;rw[af6 (by simp only;omega),af6 (by simp only;omega)]
   rw[Es hi hk hc];exact⟨rfl,(hi.put hk).1,oq _,iM _ _,by rw[Ew hi hk,hc],by omega⟩
  ·rw[af6 hnm];by_cases hf:aY l a=102
   ·rw[af9 hf];have hlt:=dQ (l:=l) (a:=a) (by omega);have hin:letters.contains (aY l a)=true:=(by rw[hf];decide);rw[kR hin,hf];have hIn:yM (aY l) (λτ=>(aJ l (aY l) n τ).1) 102 ⟨a+1,d,0,texts ts,C⟩=bM (aY l) (aJ l (aY l) n (aC (aY l) ⟨a+1,d,0,texts ts,C⟩)).1:=(by unfold yM;rw[af9 rfl]);simp only[hIn];have h:=wL (d:=d) ih (a:=a+1) (by omega) (by omega) hi;cases hR:arg1 (aY l) (fF (aY l) n) (a+1) d ts with
    |error Ep=>
     obtain⟨E,p⟩:=Ep;rw[hR]at h;have hd:Dd _ E p:=h
     show Dd (fB l a _).1 E p
     rw[hd.TA];exact hd
    |ok q=>
     obtain⟨a1,aK,m⟩:=q;rw[hR]at h;obtain⟨h1,h2,h3,h4,h5,h6⟩:=h;rw[h1];have hk:jy aK.length (102,m,0):=Or.inr (Or.inl ⟨rfl,h4,rfl⟩);have hc:cut l a a1=rend (texts aK) (102,m,0):=by
      rw[ku l (show a<=a+1 by omega) (show a+1<=a1 by omega),jZ (jW (l:=l) (a:=a) (c:=102) hf (by decide)),h5];rfl
     rw[Es h2 hk hc];exact⟨rfl,(h2.put hk).1,h3.trans (oq _),iM _ _,by rw[Ew h2 hk,hc],by omega⟩
   ·rw[af6 hf];by_cases hg:aY l a=103
    ·rw[af9 hg];have hlt:=dQ (l:=l) (a:=a) (by omega);have hin:letters.contains (aY l a)=true:=(by rw[hg];decide);rw[kR hin,hg];have hIn:yM (aY l) (λτ=>(aJ l (aY l) n τ).1) 103 ⟨a+1,d,0,texts ts,C⟩=bM (aY l) (aJ l (aY l) n (aX (aY l) [44] (aJ l (aY l) n (aC (aY l) ⟨a+1,d,0,texts ts,C⟩)).1).1).1:=by
      unfold yM;rw[af6 (by decide),af9 rfl]
     simp only[hIn];have h:=Oo (d:=d) ih (a:=a+1) (by omega) (by omega) hi;cases hR:arg2 (aY l) (fF (aY l) n) (a+1) d ts with
     |error Ep=>
      obtain⟨E,p⟩:=Ep;rw[hR]at h;have hd:Dd _ E p:=h
      show Dd (fB l a _).1 E p
      rw[hd.TA];exact hd
     |ok q=>
      obtain⟨a1,aK,m,m2⟩:=q;rw[hR]at h;obtain⟨h1,h2,h3,h4,h4',h5,h6⟩:=h;rw[h1];have hk:jy aK.length (103,m,m2):=Or.inr (Or.inr ⟨rfl,h4,h4'⟩);have hc:cut l a a1=rend (texts aK) (103,m,m2):=by
       rw[ku l (show a<=a+1 by omega) (show a+1<=a1 by omega),jZ (jW (l:=l) (a:=a) (c:=103) hg (by decide)),h5];rfl
      rw[Es h2 hk hc];exact⟨rfl,(h2.put hk).1,h3.trans (oq _),iM _ _,by rw[Ew h2 hk,hc],by omega⟩
    ·rw[af6 hg];have hin:letters.contains (aY l a)=false:=by
      have hb:¬(97<=aY l a/\aY l a<=101):=(by simpa[isName]using hnm);simp[letters];omega
     have hd:=zJ (l:=l) (C:=C) (a:=a) (d:=d) (T:=texts ts) hin;have h0:(aX (aY l) letters ⟨a,d,0,texts ts,C⟩).2=0:=(by unfold aX;rw[af9 rfl,af6 (by rw[hin];simp)]);rw[h0];have hIn:∀σ,yM (aY l) (λτ=>(aJ l (aY l) n τ).1) 0 σ=σ:=λσ=>by unfold yM;rw[af6 (by decide),af6 (by decide)]
     rw[hIn]
     show Dd (fB l a _).1 2 a
     rw[hd.TA];exact hd
end
def dw(T:List (List UInt8))(c:Int×Nat):List UInt8:=UInt8.ofNat c.1.toNat::40::(T.getD c.2 []++[41])
def WW(n:Nat)(c:Int×Nat):Prop:=(c.1=80\/c.1=81)/\c.2<n
def iZ(ts:List Key)(cs:List (Int×Nat)):Prop:=∀c∈cs,WW ts.length c
theorem Dp{ts:List Key}(h:Inv ts){c c':Int×Nat}(hc:WW ts.length c)(hc':WW ts.length c')(e:dw (texts ts) c=dw (texts ts) c'):c=c':=by
 obtain⟨x,m⟩:=c;obtain⟨x',m'⟩:=c';obtain⟨h1,h2⟩:=hc;obtain⟨h1',h2'⟩:=hc';simp only at h1 h2 h1' h2';unfold dw at e;simp only[as5,true_and]at e;obtain⟨e1,e2⟩:=e;have e3:=av2 e2;have:=lK h.nd (by rw[aW];exact h2) (by rw[aW];exact h2') e3;have e4:=ap7 UInt8.toNat e1;simp at e4;subst this;simp;omega
theorem Jm{ts aK:List Key}(hp:ts <+: aK){c:Int×Nat}(h:WW ts.length c):dw (texts aK) c=dw (texts ts) c:=by
 unfold dw;rw[xW (uj hp) (by rw[aW];exact h.2)]
theorem qO{ts aK:List Key}(hp:ts <+: aK){cs:List (Int×Nat)}(h:iZ ts cs):cs.map (dw (texts aK))=cs.map (dw (texts ts)):=
 au3 λc hc=>Jm hp (h c hc)
theorem iZ.more{ts aK:List Key}(hp:ts <+: aK){cs:List (Int×Nat)}(h:iZ ts cs):iZ aK cs:=λc hc=>⟨(h c hc).1,ah4 (h c hc).2 hp.length_le⟩
theorem ab5{ts:List Key}(h:Inv ts){cs:List (Int×Nat)}(hcs:iZ ts cs){c:Int×Nat}(hc:WW ts.length c):(cs.map (dw (texts ts))).contains (dw (texts ts) c)=cs.contains c:=by
 rw[au2];simp only[List.contains_eq_mem,ak4,ah3];constructor
 ·rintro⟨c',hm,e⟩;rw[<-Dp h (hcs c' hm) hc e];exact hm
 ·intro hm;exact⟨c,hm,rfl⟩
theorem acG{ts:List Key}(h:Inv ts){cs:List (Int×Nat)}(hcs:iZ ts cs){c:Int×Nat}(hc:WW ts.length c) :
  put (cs.map (dw (texts ts))) (dw (texts ts) c)=(put cs c).map (dw (texts ts))/\iZ ts (put cs c):=by
 unfold put;rw[ab5 h hcs hc];by_cases hm:cs.contains c=true
 ·rw[af9 hm,af9 hm];exact⟨rfl,hcs⟩
 ·rw[af6 hm,af6 hm];refine⟨by simp,λx hx=>?_⟩;rcases ai3.1 hx with hx|hx
  ·exact hcs x hx
  ·simp at hx;subst hx;exact hc
def XW(d:Nat)(r:RF)(x:St):Prop:=
 match r with
 |.ok (a1,aK,cs1)=>x=⟨a1,d,0,texts aK,cs1.map (dw (texts aK))⟩/\Inv aK/\iZ aK cs1
 |.error (E,p)=>Dd x E p
section
variable {l:List UInt8}
theorem same_eq{n a d:Nat}{ts:List Key}{cs:List (Int×Nat)}(ha:a<=l.length)(hn:l.length<a+n)(hi:Inv ts)(hcs:iZ ts cs) :
  XW d (Oz (aY l) n a d ts cs) (aJ l (aY l) n (aX (aY l) [61] (aJ l (aY l) n ⟨a,d,0,texts ts,cs.map (dw (texts ts))⟩).1).1).1:=by
 unfold Oz;have h:=kX (l:=l) (C:=cs.map (dw (texts ts))) n a d ts ha hn hi;cases hR:fF (aY l) n a d ts with
 |error Ep=>
  obtain⟨E,p⟩:=Ep;rw[hR]at h;have hd:Dd (aJ l (aY l) n ⟨a,d,0,texts ts,cs.map (dw (texts ts))⟩).1 E p:=h;rw[hd.one,hd.term];exact hd
 |ok q=>
  obtain⟨a1,aK,m⟩:=q;rw[hR]at h;obtain⟨h1,h2,h3,h4,h5,h6⟩:=h;rw[h1];by_cases h61:aY l a1=61
  ·have hlt:=dQ (l:=l) (a:=a1) (by omega);simp only[h61,am9];rw[kR (by simpa using h61)];have g:=kX (l:=l) (C:=cs.map (dw (texts ts))) n (a1+1) d aK (by omega) (by omega) h2;cases hR2:fF (aY l) n (a1+1) d aK with
   |error Ep=>
    obtain⟨E,p⟩:=Ep;rw[hR2]at g;exact g
   |ok q=>
    obtain⟨a2,ts2,m2⟩:=q;rw[hR2]at g;obtain⟨g1,g2,g3,g4,g5,g6⟩:=g;simp only;rw[g1];refine⟨?_,g2,hcs.more (h3.trans g3)⟩;rw[qO (h3.trans g3) hcs]
  ·simp only[h61,aq3];have hd:=zJ (l:=l) (C:=cs.map (dw (texts ts))) (a:=a1) (d:=d) (T:=texts aK) (L:=[61]) (by simpa using h61);rw[hd.term];exact hd
theorem MH(c:Int)(a d:Nat)(T C:List (List UInt8)):aH (aY l) ⟨a,d,0,T,C⟩ c=decide (aY l a=c):=by simp[aH]
theorem uF:∀(n a d:Nat) (ts:List Key) (cs:List (Int×Nat)),a<=l.length->l.length<a+n->Inv ts->iZ ts cs->
  XW d (I4 (aY l) n a d ts cs) (aI l (aY l) n ⟨a,d,0,texts ts,cs.map (dw (texts ts))⟩):=by
 intro n
 induction n with
 |zero=>intro a d ts cs ha hn;omega
 |succ n ih=>
  intro a d ts cs ha hn hi hcs;unfold I4 aI;simp only[MH];by_cases h33:aY l a=33
  ·have hlt:=dQ (l:=l) (a:=a) (by omega);rw[af9 h33,af9 (show decide (aY l a=33)=true by simpa using h33)];exact ih (a+1) d ts cs (by omega) (by omega) hi hcs
  ·rw[af6 h33,af6 (show ¬(decide (aY l a=33)=true) by simpa using h33)];by_cases h40:aY l a=40
   ·have hlt:=dQ (l:=l) (a:=a) (by omega);rw[af9 h40,af6 (show ¬((decide (aY l a=80)||decide (aY l a=81))=true) by simp;omega),af9 (show decide (aY l a=40)=true by simpa using h40)];by_cases h8:d=8
    ·rw[af9 h8];subst h8;have hd:=jL (l:=l) (C:=cs.map (dw (texts ts))) (T:=texts ts) h40;rw[hd.formula,hd.one,hd.formula];exact hd.shut
    ·rw[af6 h8,dM h40 h8];have h:=ih (a+1) (d+1) ts cs (by omega) (by omega) hi hcs;have hok:=ou (pk:=aY l) (N:=l.length) (λa h=>dQ h) n (a+1) (d+1) ts cs (by omega);cases hR:I4 (aY l) n (a+1) (d+1) ts cs with
     |error Ep=>
      obtain⟨E,p⟩:=Ep;rw[hR]at h;have hd:Dd (aI l (aY l) n ⟨a+1,d+1,0,texts ts,cs.map (dw (texts ts))⟩) E p:=h;rw[hd.one,hd.formula];exact hd.shut
     |ok q=>
      obtain⟨a1,aK,cs1⟩:=q;rw[hR]at h hok;obtain⟨h1,h2,h3⟩:=h;obtain⟨o1,o2,_⟩:=hok;rw[h1];by_cases hj:aA (aY l a1)=true
      ·have hlt1:=dQ (l:=l) (a:=a1) (λe=>by rw[e]at hj;simp[aA]at hj);simp only[hj,am9];have hjj:List.contains [38,124,62,45] (aY l a1)=true:=(by simpa[aA,or_assoc]using hj);rw[kR hjj];have g:=ih (a1+1) (d+1) aK cs1 (by omega) (by omega) h2 h3;cases hR2:I4 (aY l) n (a1+1) (d+1) aK cs1 with
       |error Ep=>
        obtain⟨E,p⟩:=Ep;rw[hR2]at g;exact Dd.shut g
       |ok q=>
        obtain⟨a2,ts2,cs2⟩:=q;rw[hR2]at g;obtain⟨g1,g2,g3⟩:=g;simp only;rw[g1];by_cases h41:aY l a2=41
        ·simp only[h41,am9];rw[lH h41];exact⟨rfl,g2,g3⟩
        ·simp only[h41,aq3];exact nY h41
      ·simp only[hj];have hjj:List.contains [38,124,62,45] (aY l a1)=false:=(by simpa[aA,or_assoc]using hj);have hd:=zJ (l:=l) (C:=cs1.map (dw (texts aK))) (a:=a1) (d:=d+1) (T:=texts aK) hjj;rw[hd.formula];exact hd.shut
   ·rw[af6 h40];by_cases h8:aY l a=80\/aY l a=81
    ·have hlt:=dQ (l:=l) (a:=a) (by omega);rw[af9 h8,af9 (show(decide (aY l a=80)||decide (aY l a=81))=true by simpa using h8)];have h:=wL (l:=l) (C:=cs.map (dw (texts ts))) (n:=n+1) (d:=d) (kX _) (a:=a+1) (by omega) (by omega) hi;cases hR:arg1 (aY l) (fF (aY l) (n+1)) (a+1) d ts with
     |error Ep=>
      obtain⟨E,p⟩:=Ep;rw[hR]at h;have hd:Dd _ E p:=h
      show Dd (fC l a _) E p
      rw[hd.aaE];exact hd
     |ok q=>
      obtain⟨a1,aK,m⟩:=q;rw[hR]at h;obtain⟨h1,h2,h3,h4,h5,h6⟩:=h;rw[h1];have hc:WW aK.length (aY l a,m):=⟨h8,h4⟩;have hcut:cut l a a1=dw (texts aK) (aY l a,m):=by
       have hg:=jW (l:=l) (a:=a) (c:=UInt8.ofNat (aY l a).toNat) (by simp;omega) (λe=>by have:=ap7 UInt8.toNat e;simp at this;omega);rw[ku l (show a<=a+1 by omega) (show a+1<=a1 by omega),jZ hg,h5];rfl
      have hp:=acG h2 (hcs.more h3) hc
      show XW d (.ok (a1,aK,put cs (aY l a,m))) _
      refine⟨?_,h2,hp.2⟩;unfold fC;rw[af9 rfl];simp only[hcut];rw[<-qO h3 hcs,hp.1]
    ·rw[af6 h8,af6 (show ¬((decide (aY l a=80)||decide (aY l a=81))=true) by simpa using h8),af6 (show ¬(decide (aY l a=40)=true) by simpa using h40)];exact same_eq ha (by omega) hi hcs
end
def Gd(l:List UInt8)(σ:St):Prop:=(∀t∈σ.T,t.length<=l.length)/\(∀t∈σ.C,t.length<=l.length)/\σ.C.Nodup
theorem Va(l:List UInt8)(x y:Nat):(cut l x y).length<=l.length:=by unfold cut;simp;omega
theorem put_mem{α:Type}[BEq α][LawfulBEq α]{L:List α}{k t:α}(h:t∈put L k):t∈L\/t=k:=by
 unfold put at h;split at h
 ·exact Or.inl h
 ·rcases ai3.1 h with h|h
  ·exact Or.inl h
  ·exact Or.inr (by simpa using h)
theorem qZ{α:Type}[BEq α][LawfulBEq α]{L:List α}(k:α)(h:L.Nodup):(put L k).Nodup:=by
 unfold put;split
 ·exact h
 ·rename_i hc;refine aq4.2 ⟨h,by simp,λa ha b hb e=>?_⟩;simp at hb;subst hb;subst e;exact hc (by simpa using ha)
section
variable {l:List UInt8} {pk:Nat->Int}
theorem wZ{σ:St}(L:List Int)(h:Gd l σ):Gd l (aX pk L σ).1:=by
 unfold aX;split
 ·split
  ·exact h
  ·exact h
 ·exact h
theorem yT{σ:St}(h:Gd l σ):Gd l (aC pk σ):=by
 have h1:Gd l (eF pk σ):=by unfold eF;split;exact h;exact h
 have h2:=wZ (pk:=pk) [40] h1;exact h2
theorem yS{σ:St}(h:Gd l σ):Gd l (bM pk σ):=wZ (pk:=pk) [41] h
theorem UG{σ:St}(x:Nat)(h:Gd l σ):Gd l (fB l x σ).1:=by
 unfold fB;split
 ·refine⟨λt ht=>?_,h.2.1,h.2.2⟩;rcases put_mem ht with ht|ht
  ·exact h.1 t ht
  ·subst ht;exact Va _ _ _
 ·exact h
theorem UH{σ:St}(x:Nat)(h:Gd l σ):Gd l (fC l x σ):=by
 unfold fC;split
 ·refine⟨h.1,λt ht=>?_,qZ _ h.2.2⟩;rcases put_mem ht with ht|ht
  ·exact h.2.1 t ht
  ·subst ht;exact Va _ _ _
 ·exact h
theorem EJ:∀(n:Nat) (σ:St),Gd l σ->Gd l (aJ l pk n σ).1:=by
 intro n
 induction n with
 |zero=>intro σ h;exact h
 |succ n ih=>
  intro σ h;unfold aJ;refine UG _ ?_;have h1:=wZ (pk:=pk) letters h;unfold yM;split
  ·exact yS (ih _ (yT h1))
  ·split
   ·exact yS (ih _ (wZ _ (ih _ (yT h1))))
   ·exact h1
theorem KG:∀(n:Nat) (σ:St),Gd l σ->Gd l (aI l pk n σ):=by
 intro n
 induction n with
 |zero=>intro σ h;exact h
 |succ n ih=>
  intro σ h;unfold aI;split
  ·exact ih _ h
  ·split
   ·exact UH _ (yS (EJ _ _ (yT (σ:={σ with a:=σ.a+1}) h)))
   ·split
    ·exact yS (ih _ (wZ _ (ih _ (yT h))))
    ·exact EJ _ _ (wZ _ (EJ _ _ h))
end
theorem Inv.nodup{ts:List Key}(h:Inv ts):ts.Nodup:=by
 refine an5.2 λi j hi hj hlt e=>?_;have g1:=h.get i hi;have g2:=h.get j hj;rw[e,<-g2]at g1;have:=lK h.nd (by rw[aW];exact hi) (by rw[aW];exact hj) g1;omega
end au
open Go.RowKit
open au (St put)
section
variable (w:World) (B:Nat) (s:ByteArray) (σ:St) (k1 k2:Value)
theorem QH(hs:s.size<=100)(_hr:au.iJ s.size σ)(n:Nat)(H33:Hid (au.aH (pk s) σ 33=false))(H80:Hid (au.aH (pk s) σ 80=false))(H81:Hid (au.aH (pk s) σ 81=true))(h1a:σ.a+1<=s.size)(hd8:σ.d<=8)(hr4:au.iJ s.size (au.aC (pk s) {σ with a:=σ.a+1}))(hn4:au.need s.size (au.aC (pk s) {σ with a:=σ.a+1})<=n+1)(σ5:St)(H5:Hid ((au.aJ s.data.toList (pk s) (n+1) (au.aC (pk s) {σ with a:=σ.a+1})).1=σ5))(h5a:σ5.a<=s.size)(h5d:1<=σ5.d/\σ5.d<=9)(τ:St)(HT:Hid (au.bM (pk s) σ5=τ))(HE:Hid (τ.E≠0))(h:RI w B s σ false k1 k2) :
  Calls prog 98 #[.pointer (some ⟨B,0,none⟩)] w λe w'=>(∃b:Bool,e=.returned (.bool b))/\RI w' B s (τ) false k1 k2/\Below B w w':=by
 have c1':=h.c1
 go_enter func98,ntmps98
 go_wp2_with fail
 refine(aO w B s σ false k1 k2 33 (by omega) h).mono ?_;rw[ah H33];rintro e w1 ⟨rfl,h1,b1⟩
 go_wp2_with fail
 refine(aO w1 B s σ false k1 k2 80 (by omega) h1).mono ?_;rw[ah H80];rintro e w2 ⟨rfl,h2,b2⟩
 go_wp2_with fail
 refine(aO w2 B s σ false k1 k2 81 (by omega) h2).mono ?_;rw[ah H81];rintro e w3 ⟨rfl,h3,b3⟩;have c1:=h3.c1;have f1:=h3.fz 1
 go_wp2_with fail
 refine(dB _ B s {σ with a:=σ.a+1} false k1 k2 hs h1a hd8 (h3.set1 (by omega))).mono ?_;rintro e w4 ⟨rfl,h4,b4⟩
 go_wp2_with fail
 refine(dO B s false k1 k2 hs (n+1) w4 _ hr4 hn4 h4).mono ?_;rw[ah H5];generalize (au.aJ s.data.toList (pk s) (n+1) (au.aC (pk s) {σ with a:=σ.a+1})).2=z5;rintro e w5 ⟨rfl,h5,b5⟩
 go_wp2_with fail
 refine(dA w5 B s σ5 false k1 k2 hs h5a h5d.2 h5d.1 h5).mono ?_;rw[ah HT];rintro e w6 ⟨rfl,hI,b6⟩;have hB:=((((b1.trans b2).trans b3).trans (bH _ _ _ _)).trans b4).trans (b5.trans b6);clear b1 b2 b4 b5 b6 h1 h2 h4 h5 c1 f1 b3 h3;have c3:=hI.c3;have hne:(τ.E != 0)=true:=by simpa using ah HE
 go_wp2_with fail
 go_ret
 exact⟨⟨_,rfl⟩,hI,hB⟩
theorem QF(hs:s.size<=100)(_hr:au.iJ s.size σ)(n:Nat)(H33:Hid (au.aH (pk s) σ 33=false))(H80:Hid (au.aH (pk s) σ 80=false))(H81:Hid (au.aH (pk s) σ 81=true))(h1a:σ.a+1<=s.size)(hd8:σ.d<=8)(hr4:au.iJ s.size (au.aC (pk s) {σ with a:=σ.a+1}))(hn4:au.need s.size (au.aC (pk s) {σ with a:=σ.a+1})<=n+1)(σ5:St)(H5:Hid ((au.aJ s.data.toList (pk s) (n+1) (au.aC (pk s) {σ with a:=σ.a+1})).1=σ5))(h5a:σ5.a<=s.size)(h5d:1<=σ5.d/\σ5.d<=9)(τ:St)(HT:Hid (au.bM (pk s) σ5=τ))(HE:Hid (τ.E=0))(hle:σ.a<=τ.a)(hle2:τ.a<=s.size)(hTl:τ.C.length<=500)(tx:List UInt8)(HX:Hid (au.cut s.data.toList σ.a τ.a=tx))(HC:Hid (τ.C.contains tx=true))(h:RI w B s σ false k1 k2) :
  Calls prog 98 #[.pointer (some ⟨B,0,none⟩)] w λe w'=>(∃b:Bool,e=.returned (.bool b))/\RI w' B s (τ) false k1 k2/\Below B w w':=by
 have c1':=h.c1
 go_enter func98,ntmps98
 go_wp2_with fail
 refine(aO w B s σ false k1 k2 33 (by omega) h).mono ?_;rw[ah H33];rintro e w1 ⟨rfl,h1,b1⟩
 go_wp2_with fail
 refine(aO w1 B s σ false k1 k2 80 (by omega) h1).mono ?_;rw[ah H80];rintro e w2 ⟨rfl,h2,b2⟩
 go_wp2_with fail
 refine(aO w2 B s σ false k1 k2 81 (by omega) h2).mono ?_;rw[ah H81];rintro e w3 ⟨rfl,h3,b3⟩;have c1:=h3.c1;have f1:=h3.fz 1
 go_wp2_with fail
 refine(dB _ B s {σ with a:=σ.a+1} false k1 k2 hs h1a hd8 (h3.set1 (by omega))).mono ?_;rintro e w4 ⟨rfl,h4,b4⟩
 go_wp2_with fail
 refine(dO B s false k1 k2 hs (n+1) w4 _ hr4 hn4 h4).mono ?_;rw[ah H5];generalize (au.aJ s.data.toList (pk s) (n+1) (au.aC (pk s) {σ with a:=σ.a+1})).2=z5;rintro e w5 ⟨rfl,h5,b5⟩
 go_wp2_with fail
 refine(dA w5 B s σ5 false k1 k2 hs h5a h5d.2 h5d.1 h5).mono ?_;rw[ah HT];rintro e w6 ⟨rfl,hI,b6⟩;have hB:=((((b1.trans b2).trans b3).trans (bH _ _ _ _)).trans b4).trans (b5.trans b6);clear b1 b2 b4 b5 b6 h1 h2 h4 h5 c1 f1 b3 h3;have c0:=hI.c0;have c1:=hI.c1;have c3:=hI.c3;rw[ah HE]at c3;have c6:=hI.c6;obtain⟨v4,v5,r1,r2,r3,r4,r5⟩:=hI.rows;have hx1:(σ.a:Int)<=(τ.a:Int):=by omega
 have hx2:(τ.a:Int)<=(s.size:Int):=by omega
 go_wp2_with fail
 go_quiet (fail)
 go_wp2_with fail
 rw[eX,ah HX];refine(iI _ tx τ.C v5 (B+1) (by omega) (by exact r4)).mono ?_;rw[jh (ah HC)];rintro e w2 ⟨rfl,hw2⟩;subst hw2;have hnn:decide (((τ.C.idxOf tx:Nat):Int)<0)=false:=by simp
 go_wp2_with fail
 go_ret
 exact⟨⟨_,rfl⟩,hI.drewN _,hB.trans (below_drewN _ _ _)⟩
theorem QG(hs:s.size<=100)(_hr:au.iJ s.size σ)(n:Nat)(H33:Hid (au.aH (pk s) σ 33=false))(H80:Hid (au.aH (pk s) σ 80=false))(H81:Hid (au.aH (pk s) σ 81=true))(h1a:σ.a+1<=s.size)(hd8:σ.d<=8)(hr4:au.iJ s.size (au.aC (pk s) {σ with a:=σ.a+1}))(hn4:au.need s.size (au.aC (pk s) {σ with a:=σ.a+1})<=n+1)(σ5:St)(H5:Hid ((au.aJ s.data.toList (pk s) (n+1) (au.aC (pk s) {σ with a:=σ.a+1})).1=σ5))(h5a:σ5.a<=s.size)(h5d:1<=σ5.d/\σ5.d<=9)(τ:St)(HT:Hid (au.bM (pk s) σ5=τ))(HE:Hid (τ.E=0))(hle:σ.a<=τ.a)(hle2:τ.a<=s.size)(hTl:τ.C.length<=500)(tx:List UInt8)(HX:Hid (au.cut s.data.toList σ.a τ.a=tx))(HC:Hid (τ.C.contains tx=false))(h:RI w B s σ false k1 k2) :
  Calls prog 98 #[.pointer (some ⟨B,0,none⟩)] w λe w'=>(∃b:Bool,e=.returned (.bool b))/\RI w' B s ({τ with C:=τ.C++[tx]}) false k1 k2/\Below B w w':=by
 have c1':=h.c1
 go_enter func98,ntmps98
 go_wp2_with fail
 refine(aO w B s σ false k1 k2 33 (by omega) h).mono ?_;rw[ah H33];rintro e w1 ⟨rfl,h1,b1⟩
 go_wp2_with fail
 refine(aO w1 B s σ false k1 k2 80 (by omega) h1).mono ?_;rw[ah H80];rintro e w2 ⟨rfl,h2,b2⟩
 go_wp2_with fail
 refine(aO w2 B s σ false k1 k2 81 (by omega) h2).mono ?_;rw[ah H81];rintro e w3 ⟨rfl,h3,b3⟩;have c1:=h3.c1;have f1:=h3.fz 1
 go_wp2_with fail
 refine(dB _ B s {σ with a:=σ.a+1} false k1 k2 hs h1a hd8 (h3.set1 (by omega))).mono ?_;rintro e w4 ⟨rfl,h4,b4⟩
 go_wp2_with fail
 refine(dO B s false k1 k2 hs (n+1) w4 _ hr4 hn4 h4).mono ?_;rw[ah H5];generalize (au.aJ s.data.toList (pk s) (n+1) (au.aC (pk s) {σ with a:=σ.a+1})).2=z5;rintro e w5 ⟨rfl,h5,b5⟩
 go_wp2_with fail
 refine(dA w5 B s σ5 false k1 k2 hs h5a h5d.2 h5d.1 h5).mono ?_;rw[ah HT];rintro e w6 ⟨rfl,hI,b6⟩;have hB:=((((b1.trans b2).trans b3).trans (bH _ _ _ _)).trans b4).trans (b5.trans b6);clear b1 b2 b4 b5 b6 h1 h2 h4 h5 c1 f1 b3 h3;have c0:=hI.c0;have c1:=hI.c1;have c3:=hI.c3;rw[ah HE]at c3;have c6:=hI.c6;obtain⟨v4,v5,r1,r2,r3,r4,r5⟩:=hI.rows;have hx1:(σ.a:Int)<=(τ.a:Int):=by omega
 have hx2:(τ.a:Int)<=(s.size:Int):=by omega
 go_wp2_with fail
 go_quiet (fail)
 go_wp2_with fail
 rw[eX,ah HX];refine(iI _ tx τ.C v5 (B+1) (by omega) (by exact r4)).mono ?_;rw[jR (ah HC)];rintro e w2 ⟨rfl,hw2⟩;subst hw2;obtain⟨i0,hi,hz0,hz1,hz2⟩:=info_parts Ag;obtain⟨ao,cap,hv4⟩:=aV r4;subst hv4;have hlt:=hI.lt;have f4:=hI.fz 5;have hstr:str tx=.string ⟨tx.toArray⟩:=rfl;rw[hstr];clear hstr
 go_wp2_with (at_builtin;refine wpList_append_own_at _ rfl _ _ 116 rfl (B+1) 9 i0 (.string ⟨#[]⟩) 1 16 underlying116 hi hz0 hz1 hz2 rfl (by decide) (.slice ao τ.C.length cap) τ.C.length (τ.C.map str) rfl (by exact World.ownsRow.alloc (by exact r4) _) ⟨w6.heap.size,0,none⟩ 1 1 [str tx] rfl rfl (cell_one_new _ _ _) (nU tx) (by unfold maxLen;omega) (by omega) (by simp;omega) ?_;intro v' w3 hown hgrow hnil hloc;obtain⟨ao2,cap2,hv2⟩:=aV hown;subst hv2;have c4':=(fH hgrow (by exact hlt) (by exact r4) 5).trans (by exact r2);have f4':=(iY hgrow (by exact hlt) (by exact r4) 5).trans (by exact f4);have c6':=(fH hgrow (by exact hlt) (by exact r4) 6).trans (by exact c6);clear hnil)
 have P:=RI.XO (hI.drewN _) (by exact r1) (by exact r2) (by exact r3) (by exact r4) r5 hown hgrow hloc
 go_ret
 exact⟨⟨_,rfl⟩,P.1,hB.trans ((below_drewN _ _ _).trans P.2)⟩
end
end Go.Proofs.YthcppbmkacbbiaaGreat
