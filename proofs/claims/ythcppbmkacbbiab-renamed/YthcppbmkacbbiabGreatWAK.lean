import Derived.Test.YthcppbmkacbbiabGreatWAH
import Derived.Test.YthcppbmkacbbiabGreatSrt
import Derived.ScopeJumps
import Derived.Lib.Strings
set_option linter.unusedSimpArgs false
namespace Go.Proofs.YthcppbmkacbbiabGreat
section
open Go
def iO(J:Nat->Act->World->Prop)(Q:Exit->Act->World->Prop):Exit->Act->World->Prop
 |.goto l,a,w=>J l a w
 |e,a,w=>Q e a w
theorem zX{P:Program}{a:Act}{w:World}{Q:Exit->Act->World->Prop}{c:Code}(J:Nat->Nat->Act->World->Prop)
 (first:c.wp P (iO (λl a w=>∃r,J r l a w) Q) a w)
 (pass:∀r l a w,J r l a w->∃rest,findLabel c l=some rest/\rest.wp P (iO (λl' a' w'=>∃r',r'<r/\J r' l' a' w') Q) a w):(Code.scope c).wp P Q a w:=by
 intro b k cs;have key:∀r l a w,J r l a w->∃rest e a' w',findLabel c l=some rest/\Q e a' w'/\Arrives P (lone (b.at a (.code rest::.inScope c::k)) cs w) b k cs e a' w':=by
  intro r
  induction r using Nat.strongRecOn with
  |_ r ih=>
   intro l a w hJ;obtain⟨rest,hf,hp⟩:=pass r l a w hJ;obtain⟨e,a1,w1,hq,harr⟩:=hp b (.inScope c::k) cs;cases e with
   |normal=>exact⟨rest,.normal,a1,w1,hf,hq,Steps.trans harr (.one step_inScope)⟩
   |exit id=>exact⟨rest,.exit id,a1,w1,hf,hq,λk' hk=>harr k' (by simp[exitTo,hk])⟩
   |goto l'=>
    obtain⟨r',hlt,hJ'⟩:=hq;obtain⟨OO,e2,a2,w2,hf2,hq2,Qv⟩:=ih r' hlt l' a1 w1 hJ';have hg:gotoIn l' (.inScope c::k)=some (.code OO::.inScope c::k):=(by simp[gotoIn,hf2]);exact⟨rest,e2,a2,w2,hf,hq2,.of_steps (harr _ hg) Qv⟩
   |ret=>exact⟨rest,_,a1,w1,hf,hq,harr⟩
   |panic ch=>exact⟨rest,_,a1,w1,hf,hq,harr⟩
   |outgrown=>exact⟨rest,_,a1,w1,hf,hq,harr⟩
 obtain⟨e,a1,w1,hq,harr⟩:=first b (.inScope c::k) cs
 cases e with
 |normal=>exact⟨.normal,a1,w1,hq,.head step_scope (Steps.trans harr (.one step_inScope))⟩
 |exit id=>exact⟨.exit id,a1,w1,hq,λk' hk=>.head step_scope (harr k' (by simp[exitTo,hk]))⟩
 |goto l'=>
  obtain⟨r,hJ⟩:=hq;obtain⟨OO,e2,a2,w2,hf2,hq2,Qv⟩:=key r l' a1 w1 hJ;have hg:gotoIn l' (.inScope c::k)=some (.code OO::.inScope c::k):=by simp[gotoIn,hf2]
  exact⟨e2,a2,w2,hq2,.of_steps (.head step_scope (harr _ hg)) Qv⟩
 |ret=>exact⟨_,a1,w1,hq,.of_steps (.one step_scope) harr⟩
 |panic ch=>exact⟨_,a1,w1,hq,.of_steps (.one step_scope) harr⟩
 |outgrown=>exact⟨_,a1,w1,hq,.of_steps (.one step_scope) harr⟩
theorem xU{P:Program}{a:Act}{w:World}{Q:Exit->Act->World->Prop}{c c0 c1 c2:Code}(J:Nat->Nat->Act->World->Prop)(h0:findLabel c 0=some (.seq .skip c0))(h1:findLabel c 1=some (.seq .skip c1))(h2:findLabel c 2=some (.seq .skip c2))
 (only:∀r l a w,J r l a w->l=0\/l=1\/l=2)
 (p2:∀r a w,J r 2 a w->c2.wp P (iO (λl' a' w'=>∃r',r'<r/\J r' l' a' w') Q) a w)
 (p1:∀r a w,J r 1 a w->c1.wp P (iO (λl' a' w'=>∃r',r'<r/\J r' l' a' w') Q) a w)
 (p0:(∀r a w,J r 1 a w->c1.wp P (iO (λl' a' w'=>∃r',r'<r/\J r' l' a' w') Q) a w)->∀r a w,J r 0 a w->c0.wp P (iO (λl' a' w'=>∃r',r'<r/\J r' l' a' w') Q) a w)
 (first:(∀r a w,J r 0 a w->c0.wp P (iO (λl' a' w'=>∃r',r'<r/\J r' l' a' w') Q) a w)->c.wp P (iO (λl a w=>∃r,J r l a w) Q) a w):(Code.scope c).wp P Q a w:=by
 refine zX J (first (p0 p1)) (λr l a w h=>?_);rcases only r l a w h with e|e|e
 ·subst e;exact⟨_,h0,wp_seq (wp_skip (p0 p1 r a w h))⟩
 ·subst e;exact⟨_,h1,wp_seq (wp_skip (p1 r a w h))⟩
 ·subst e;exact⟨_,h2,wp_seq (wp_skip (p2 r a w h))⟩
theorem tV{J J':Nat->Act->World->Prop}{Q:Exit->Act->World->Prop}(h:∀l a w,J l a w->J' l a w):∀e a w,iO J Q e a w->iO J' Q e a w:=by
 intro e a w hj;cases e<;>first|exact h _ _ _ hj|exact hj
end
namespace aB
section
variable {pk:Nat->Int} {N:Nat}
theorem La{pk:Nat->Int}{σ:St}{c:Int}(h:nR pk σ c=true):σ.E=0/\pk σ.a=c:=by simpa[nR]using h
end
def rend(T:List (List UInt8))(k:Key):List UInt8:=
 if k.1=102 then 102::40::(T.getD k.2.1 []++[41])
 else if k.1=103 then 103::40::(T.getD k.2.1 []++44::(T.getD k.2.2 []++[41]))
 else [UInt8.ofNat k.1.toNat]
def texts(ts:List Key):List (List UInt8):=ts.foldl (λT k=>T++[rend T k]) []
theorem jY(ts:List Key)(k:Key):texts (ts++[k])=texts ts++[rend (texts ts) k]:=by
 unfold texts;rw[an8];rfl
theorem dP(ts:List Key):(texts ts).length=ts.length:=by
 suffices h:∀(ts:List Key) (T:List (List UInt8)),(ts.foldl (λT k=>T++[rend T k]) T).length=T.length+ts.length by
  have:=h ts [];simpa[texts]using this
 intro ts
 induction ts with
 |nil=>intro T;simp
 |cons k r ih=>intro T;simp only[List.foldl_cons,ih];simp;omega
def iM(n:Nat)(k:Key):Prop:=
 (97<=k.1/\k.1<=101/\k.2.1=0/\k.2.2=0)\/(k.1=102/\k.2.1<n/\k.2.2=0)\/(k.1=103/\k.2.1<n/\k.2.2<n)
theorem iM.mono{n m:Nat}{k:Key}(h:iM n k)(hm:n<=m):iM m k:=by
 rcases h with h|⟨h1,h2,h3⟩|⟨h1,h2,h3⟩
 ·exact Or.inl h
 ·exact Or.inr (Or.inl ⟨h1,by omega,h3⟩)
 ·exact Or.inr (Or.inr ⟨h1,by omega,by omega⟩)
theorem AU{T R:List (List UInt8)}{k:Key}(h:iM T.length k):rend (T++R) k=rend T k:=by
 rcases h with⟨h1,h2,h3,h4⟩|⟨h1,h2,h3⟩|⟨h1,h2,h3⟩
 ·unfold rend;rw[af2 (by omega),af2 (by omega),af2 (by omega),af2 (by omega)]
 ·unfold rend;rw[af6 h1,af6 h1];simp[ag2,aj1 h2]
 ·unfold rend;rw[af2 (by omega),af6 h1,af2 (by omega),af6 h1];simp[ag2,aj1 h2,aj1 h3]
def skip:Nat->List UInt8->Option (List UInt8)
 |0,_=>none
 |_+1,[]=>none
 |n+1,c::r=>
  if 97<=c/\c<=101 then some r
  else if c=102 then
   match r with
   |40::r1=>(match skip n r1 with|some (41::r2)=>some r2|_=>none)
   |_=>none
  else if c=103 then
   match r with
   |40::r1=>(match skip n r1 with|some (44::r2)=>(match skip n r2 with|some (41::r3)=>some r3|_=>none)|_=>none)
   |_=>none
  else none
def KD(t:List UInt8):Prop:=∃n,∀m,n<=m->∀r,skip m (t++r)=some r
theorem KD.cancel{t u x y:List UInt8}(ht:KD t)(hu:KD u)(h:t++x=u++y):t=u/\x=y:=by
 obtain⟨n,h1⟩:=ht;obtain⟨m,h2⟩:=hu;have a1:=h1 (n+m) (by omega) x;have a2:=h2 (n+m) (by omega) y;rw[h,a2]at a1;have e:y=x:=ak1 a1;subst e;exact⟨as5 h,rfl⟩
theorem P8{c:UInt8}(h:97<=c/\c<=101):KD [c]:=by
 refine⟨1,λm hm r=>?_⟩;obtain⟨k,rfl⟩:∃k,m=k+1:=⟨m-1,by omega⟩;simp[skip,h]
theorem YC{t:List UInt8}(h:KD t):KD (102::40::(t++[41])):=by
 obtain⟨n,h1⟩:=h;refine⟨n+1,λm hm r=>?_⟩;obtain⟨k,rfl⟩:∃k,m=k+1:=⟨m-1,by omega⟩;have e:(102::40::(t++[41]))++r=102::40::(t++(41::r)):=by simp
 rw[e];unfold skip;rw[af2 (by decide),af6 rfl];simp only[h1 k (by omega)]
theorem YB{t u:List UInt8}(ht:KD t)(hu:KD u):KD (103::40::(t++44::(u++[41]))):=by
 obtain⟨n,h1⟩:=ht;obtain⟨n2,h2⟩:=hu;refine⟨n+n2+1,λm hm r=>?_⟩;obtain⟨k,rfl⟩:∃k,m=k+1:=⟨m-1,by omega⟩;have e:(103::40::(t++44::(u++[41])))++r=103::40::(t++(44::(u++(41::r)))):=by simp
 rw[e];unfold skip;rw[af2 (by decide),af2 (by decide),af6 rfl];simp only[h1 k (by omega),h2 k (by omega)]
structure Inv(ts:List Key):Prop where
 key:∀i (h:i<ts.length),iM i ts[i]
 nd:(texts ts).Nodup
 tm:∀t∈texts ts,KD t
 get:∀i (h:i<ts.length),(texts ts).getD i []=rend (texts ts) ts[i]
theorem Um:Inv []:=⟨λi h=>absurd h (by simp),by simp[texts],by simp[texts],λi h=>absurd h (by simp)⟩
theorem getD_mem{T:List (List UInt8)}{i:Nat}(h:i<T.length):T.getD i []∈T:=by
 rw[ag2,ad6 h];exact ad8 h
theorem Bd{α:Type}{T:List α}(hn:T.Nodup){i j:Nat}(hi:i<T.length)(hj:j<T.length)(h:T[i]=T[j]):i=j:=by
 rcases Nat.lt_trichotomy i j with hlt|he|hlt
 ·exact absurd h (am3.1 hn i j hi hj hlt)
 ·exact he
 ·exact absurd h.symm (am3.1 hn j i hj hi hlt)
theorem kK{T:List (List UInt8)}(hn:T.Nodup){i j:Nat}(hi:i<T.length)(hj:j<T.length)(h:T.getD i []=T.getD j []):i=j:=by
 rw[ag2,ad6 hi,ag2,ad6 hj]at h;exact Bd hn hi hj h
theorem P7{T:List (List UInt8)}(hT:∀t∈T,KD t){k:Key}(h:iM T.length k):KD (rend T k):=by
 rcases h with⟨h1,h2,h3,h4⟩|⟨h1,h2,h3⟩|⟨h1,h2,h3⟩
 ·unfold rend;rw[af2 (by omega),af2 (by omega)];apply P8;have e:(UInt8.ofNat k.1.toNat).toNat=k.1.toNat:=by simp;omega
  constructor
  ·rw[UInt8.le_iff_toNat_le,e];simp;omega
  ·rw[UInt8.le_iff_toNat_le,e];simp;omega
 ·unfold rend;rw[af6 h1];exact YC (hT _ (getD_mem h2))
 ·unfold rend;rw[af2 (by omega),af6 h1];exact YB (hT _ (getD_mem h2)) (hT _ (getD_mem h3))
theorem OQ{T:List (List UInt8)}(hn:T.Nodup)(hT:∀t∈T,KD t){k k':Key}(h:iM T.length k)(h':iM T.length k')(e:rend T k=rend T k'):k=k':=by
 obtain⟨c,x,y⟩:=k;obtain⟨c',x',y'⟩:=k';rcases h with⟨h1,h2,h3,h4⟩|⟨h1,h2,h3⟩|⟨h1,h2,h3⟩<;>rcases h' with⟨g1,g2,g3,g4⟩|⟨g1,g2,g3⟩|⟨g1,g2,g3⟩<;>simp only at h1 h2 h3 g1 g2 g3
 ·simp only at h4 g4;unfold rend at e;rw[af2 (by simp only;omega),af2 (by simp only;omega),af2 (by simp only;omega),af2 (by simp only;omega)]at e;have e1:UInt8.ofNat c.toNat=UInt8.ofNat c'.toNat:=by simpa using e
  have e2:=ao1 UInt8.toNat e1;simp at e2;have:c=c':=by omega
  subst this;subst h3;subst h4;subst g3;subst g4;rfl
 ·exfalso;unfold rend at e;rw[af2 (by simp only;omega),af2 (by simp only;omega),af6 (by simp only;omega)]at e;simp at e
 ·exfalso;unfold rend at e;rw[af2 (by simp only;omega),af2 (by simp only;omega),af2 (by simp only;omega),af6 (by simp only;omega)]at e;simp at e
 ·exfalso;unfold rend at e;rw[af6 (by simp only;omega),af2 (by simp only;omega),af2 (by simp only;omega)]at e;simp at e
 ·unfold rend at e;rw[af6 h1,af6 g1]at e;simp only[List.cons.injEq,true_and]at e;have e2:=as5 e;have:=kK hn h2 g2 e2;subst this;subst h1;subst h3;subst g1;subst g3;rfl
 ·exfalso;unfold rend at e;rw[af6 (by simp only;omega),af2 (by simp only;omega),af6 (by simp only;omega)]at e;simp at e
 ·exfalso;unfold rend at e;rw[af2 (by simp only;omega),af6 (by simp only;omega),af2 (by simp only;omega),af2 (by simp only;omega)]at e;simp at e
 ·exfalso;unfold rend at e;rw[af2 (by simp only;omega),af6 (by simp only;omega),af6 (by simp only;omega)]at e;simp at e
 ·unfold rend at e;rw[af2 (by simp only;omega),af6 h1,af2 (by simp only;omega),af6 g1]at e;simp only[List.cons.injEq,true_and]at e;obtain⟨e2,e3⟩:=KD.cancel (hT _ (getD_mem h2)) (hT _ (getD_mem g2)) e;simp only[List.cons.injEq,true_and]at e3;have e4:=as5 e3;have:=kK hn h2 g2 e2;have:=kK hn h3 g3 e4;subst h1;subst g1;simp;omega
theorem Inv.find{ts:List Key}(h:Inv ts){k:Key}(hk:iM ts.length k):(texts ts).contains (rend (texts ts) k)=ts.contains k/\(texts ts).idxOf (rend (texts ts) k)=ts.idxOf k:=by
 have hl:=dP ts;have hk':iM (texts ts).length k:=by rw[hl];exact hk
 have back:∀i (hi:i<ts.length),(texts ts)[i]'(by omega)=rend (texts ts) k->ts[i]=k:=λi hi e=>by
  have g:=h.get i hi;rw[ag2,ad6 (by omega)]at g;simp at g;exact OQ h.nd h.tm ((h.key i hi).mono (by omega)) hk' (g.symm.trans e)
 have fwd:∀i (hi:i<ts.length),ts[i]=k->(texts ts)[i]'(by omega)=rend (texts ts) k:=λi hi e=>by
  have g:=h.get i hi;rw[ag2,ad6 (by omega)]at g;simp at g;rw[g,e]
 have hm:rend (texts ts) k∈texts ts↔k∈ts:=by
  constructor
  ·intro hmem;obtain⟨i,hi,e⟩:=ai0 hmem;rw[<-back i (by omega) e];exact ad8 _
  ·intro hmem;obtain⟨i,hi,e⟩:=ai0 hmem;rw[<-fwd i hi e];exact ad8 _
 refine⟨by rw[Bool.eq_iff_iff];simpa using hm,?_⟩;by_cases hmem:k∈ts
 ·have hi:=ah9 hmem;have e1:=fwd _ hi (ai2 hi);have hmem':=hm.2 hmem;have hj:=ah9 hmem';have e2:=ai2 hj;exact Bd h.nd hj (by omega) (e2.trans e1.symm)
 ·rw[ai9 hmem,ai9 (λe=>hmem (hm.1 e)),hl]
theorem Inv.put{ts:List Key}(h:Inv ts){k:Key}(hk:iM ts.length k):Inv (put ts k)/\texts (put ts k)=aB.put (texts ts) (rend (texts ts) k):=by
 have hf:=h.find hk;have hl:=dP ts;unfold aB.put;rw[hf.1];by_cases hc:ts.contains k=true
 ·rw[af6 hc,af6 hc];exact⟨h,rfl⟩
 ·rw[af2 hc,af2 hc];refine⟨⟨?_,?_,?_,?_⟩,jY ts k⟩
  ·intro i hi;by_cases hlt:i<ts.length
   ·rw[aj9 hlt];exact h.key i hlt
   ·have:i=ts.length:=(by simp at hi;omega);subst this;simpa using hk
  ·rw[jY];refine an7.2 ⟨h.nd,by simp,λa ha b hb=>?_⟩;simp at hb;subst hb;intro e;subst e;have hcc:(texts ts).contains (rend (texts ts) k)=true:=(by simpa using ha);rw[hf.1]at hcc;exact hc hcc
  ·intro t ht;rw[jY]at ht;rcases ag9.1 ht with ht|ht
   ·exact h.tm t ht
   ·simp at ht;subst ht;exact P7 h.tm (by rw[hl];exact hk)
  ·intro i hi;rw[jY];by_cases hlt:i<ts.length
   ·rw[aj9 hlt,AU ((h.key i hlt).mono (by omega)),<-h.get i hlt];simp[ag2,aj1 (show i<(texts ts).length by omega)]
   ·have:i=ts.length:=(by simp at hi;omega);subst this;rw[AU (by simpa[hl]using hk)];simp[ag2,<-hl]
def bU(l:List UInt8)(a:Nat):Int:=match l[a]? with|some b=>(b.toNat:Int)|none=>0
theorem jE{l:List UInt8}{a:Nat}(h:bU l a≠0):a<l.length:=by
 unfold bU at h;by_cases hl:a<l.length
 ·exact hl
 ·rw[List.getElem?_eq_none (by omega)]at h;exact absurd rfl h
theorem jJ{l:List UInt8}{a:Nat}{c:UInt8}(h:bU l a=(c.toNat:Int))(hc:c≠0):l[a]?=some c:=by
 have h0:c.toNat≠0:=λe=>hc (UInt8.toNat_inj.1 (by rw[e];rfl));have hl:=jE (l:=l) (a:=a) (by omega);unfold bU at h;rw[ad6 hl]at h ⊢;simp at h;have:l[a].toNat=c.toNat:=by omega
 rw[UInt8.toNat_inj.1 this]
theorem jL{l:List UInt8}{a:Nat}{c:UInt8}(h:l[a]?=some c):cut l a (a+1)=[c]:=by
 have hl:a<l.length:=by
  by_cases hl:a<l.length
  ·exact hl
  ·rw[List.getElem?_eq_none (by omega)]at h;cases h
 rw[ad6 hl]at h;unfold cut;rw[show a+1-a=1 by omega,List.drop_eq_getElem_cons hl,ak1 h];rfl
theorem jM(l:List UInt8){x y z:Nat}(h1:x<=y)(h2:y<=z):cut l x z=cut l x y++cut l y z:=by
 unfold cut;rw[show z-x=(y-x)+(z-y) by omega,List.take_add,List.drop_drop,show x+(y-x)=y by omega]
def Dd(σ:St)(E:Int)(p:Nat):Prop:=σ.E=E/\σ.a=p/\E≠0
section
variable {pk:Nat->Int} {l:List UInt8} {E:Int} {p:Nat} {σ:St}
theorem Dd.one(h:Dd σ E p)(L:List Int):kF pk L σ=(σ,0):=by unfold kF;rw[af2 (by rw[h.1];exact h.2.2)]
theorem Dd.sees(h:Dd σ E p)(c:Int):nR pk σ c=false:=by unfold nR;rw[ao5 (by rw[h.1];exact h.2.2)];rfl
theorem Dd.shut(h:Dd σ E p):Dd (kD pk σ) E p:=by unfold kD;rw[h.one];exact h
theorem Dd.term(h:Dd σ E p)(n:Nat):fC l pk n σ=(σ,0):=by
 cases n with
 |zero=>rfl
 |succ n=>
  unfold fC;rw[h.one];have e:Oc pk (λτ=>(fC l pk n τ).1) 0 σ=σ:=by unfold Oc;rw[af2 (by decide),af2 (by decide)]
  simp only[e];unfold kG;rw[af2 (by rw[h.1];exact h.2.2)]
theorem Dd.formula(h:Dd σ E p)(n:Nat):fM l pk n σ=σ:=by
 cases n with
 |zero=>rfl
 |succ n=>
  unfold fM;rw[af2 (by rw[h.sees];simp),af2 (by rw[h.sees,h.sees];simp),af2 (by rw[h.sees];simp),h.term,h.one,h.term]
theorem Dd.PZ(h:Dd σ E p)(x:Nat):kG l x σ=(σ,0):=by unfold kG;rw[af2 (by rw[h.1];exact h.2.2)]
theorem Dd.YA(h:Dd σ E p)(x:Nat):rD l x σ=σ:=by unfold rD;rw[af2 (by rw[h.1];exact h.2.2)]
end
def acd(l:List UInt8)(a d:Nat)(ts:List Key)(C:List (List UInt8))(r:RT)(x:St×Nat):Prop:=
 match r with
 |.ok (a1,aF,m)=>x=(⟨a1,d,0,texts aF,C⟩,m)/\Inv aF/\ts <+: aF/\m<aF.length/\(texts aF).getD m []=cut l a a1/\a<=a1
 |.error (E,p)=>Dd x.1 E p
def RelA(l:List UInt8)(a d:Nat)(ts:List Key)(C:List (List UInt8))(r:RT)(x:St):Prop:=
 match r with
 |.ok (a1,aF,m)=>x=⟨a1,d,0,texts aF,C⟩/\Inv aF/\ts <+: aF/\m<aF.length/\cut l a a1=40::((texts aF).getD m []++[41])/\a<=a1
 |.error (E,p)=>Dd x E p
def aal(l:List UInt8)(a d:Nat)(ts:List Key)(C:List (List UInt8))(r:wZ)(x:St):Prop:=
 match r with
 |.ok (a1,aF,m,m2)=>x=⟨a1,d,0,texts aF,C⟩/\Inv aF/\ts <+: aF/\m<aF.length/\m2<aF.length/\cut l a a1=40::((texts aF).getD m []++44::((texts aF).getD m2 []++[41]))/\a<=a1
 |.error (E,p)=>Dd x E p
theorem sG{ts aF:List Key}(h:ts <+: aF):texts ts <+: texts aF:=by
 obtain⟨r,rfl⟩:=h
 suffices h:∀(r:List Key) (ts:List Key),texts ts <+: texts (ts++r)from h r ts
 intro r
 induction r with
 |nil=>intro ts;simp
 |cons k r ih=>
  intro ts;have h1:=ih (ts++[k]);rw[jY]at h1;have e:ts++k::r=ts++[k]++r:=by simp
  rw[e];exact(aq1 _ _).trans h1
theorem wH{T U:List (List UInt8)}(h:T <+: U){i:Nat}(hi:i<T.length):U.getD i []=T.getD i []:=by
 obtain⟨r,rfl⟩:=h;simp[ag2,aj1 hi]
section
variable {l:List UInt8} {C:List (List UInt8)}
theorem lX{a d:Nat}{T:List (List UInt8)}(h:bU l a≠40):Dd (kE (bU l) ⟨a,d,0,T,C⟩) 2 a:=by
 have hd:sV (bU l) ⟨a,d,0,T,C⟩=⟨a,d,0,T,C⟩:=by unfold sV;rw[af2 (λe=>h (La e.1).2)]
 unfold kE;rw[hd];unfold kF rUp;rw[af6 rfl,af2 (by simpa using h)];exact⟨rfl,rfl,by decide⟩
theorem iY{a:Nat}{T:List (List UInt8)}(h:bU l a=40):Dd (kE (bU l) ⟨a,8,0,T,C⟩) 3 a:=by
 have hd:sV (bU l) ⟨a,8,0,T,C⟩=⟨a,8,3,T,C⟩:=by unfold sV;rw[af6 ⟨by simp[nR,h],rfl⟩]
 unfold kE;rw[hd];unfold kF rUp;rw[af2 (show ¬((3:Int)=0) by decide)];exact⟨rfl,rfl,by decide⟩
theorem dF{a d:Nat}{T:List (List UInt8)}(h:bU l a=40)(h8:d≠8):kE (bU l) ⟨a,d,0,T,C⟩=⟨a+1,d+1,0,T,C⟩:=by
 have hd:sV (bU l) ⟨a,d,0,T,C⟩=⟨a,d,0,T,C⟩:=by unfold sV;rw[af2 (λe=>h8 e.2)]
 unfold kE;rw[hd];unfold kF rUp;rw[af6 rfl,af6 (by simpa using h)]
theorem yA{a d:Nat}{T:List (List UInt8)}{L:List Int}(h:L.contains (bU l a)=false):Dd (kF (bU l) L ⟨a,d,0,T,C⟩).1 2 a:=by
 unfold kF;rw[af6 rfl,af2 (by rw[h];simp)];exact⟨rfl,rfl,by decide⟩
theorem ni{a d:Nat}{T:List (List UInt8)}{L:List Int}(h:L.contains (bU l a)=true):kF (bU l) L ⟨a,d,0,T,C⟩=(⟨a+1,d,0,T,C⟩,bU l a):=by
 unfold kF;rw[af6 rfl,af6 h]
theorem mY{a d:Nat}{T:List (List UInt8)}(h:bU l a≠41):Dd (kD (bU l) ⟨a,d,0,T,C⟩) 2 a:=by
 have:=yA (l:=l) (C:=C) (a:=a) (d:=d) (T:=T) (L:=[41]) (by simpa using h);unfold kD;exact this
theorem ku{a d:Nat}{T:List (List UInt8)}(h:bU l a=41):kD (bU l) ⟨a,d+1,0,T,C⟩=⟨a+1,d,0,T,C⟩:=by
 unfold kD;rw[ni (by simpa using h)];rfl
def Sz(l:List UInt8)(C:List (List UInt8))(n:Nat):Prop:=
 ∀(a d:Nat) (ts:List Key),a<=l.length->l.length<a+n->Inv ts->acd l a d ts C (dR (bU l) n a d ts) (fC l (bU l) n ⟨a,d,0,texts ts,C⟩)
theorem AP{n a d:Nat}{ts:List Key}(hT:Sz l C n)(_ha:a<=l.length)(hn:l.length<a+1+n)(hi:Inv ts) :
  RelA l a d ts C (arg1 (bU l) (dR (bU l) n) a d ts) (kD (bU l) (fC l (bU l) n (kE (bU l) ⟨a,d,0,texts ts,C⟩)).1):=by
 unfold arg1;by_cases h40:bU l a=40
 ·rw[af6 h40];have hlt:=jE (l:=l) (a:=a) (by omega);by_cases h8:d=8
  ·rw[af6 h8];subst h8;have hd:=iY (l:=l) (C:=C) (T:=texts ts) h40;rw[hd.term];exact hd.shut
  ·rw[af2 h8,dF h40 h8];have h:=hT (a+1) (d+1) ts (by omega) (by omega) hi;cases hR:dR (bU l) n (a+1) (d+1) ts with
   |error Ep=>
    obtain⟨E,p⟩:=Ep;rw[hR]at h;exact Dd.shut h
   |ok q=>
    obtain⟨a1,aF,m⟩:=q;rw[hR]at h;obtain⟨h1,h2,h3,h4,h5,h6⟩:=h;rw[h1];by_cases h41:bU l a1=41
    ·simp only[h41,al0];rw[ku h41];refine⟨rfl,h2,h3,h4,?_,by omega⟩;have e0:=jL (jJ (l:=l) (a:=a) (c:=40) h40 (by decide));have e1:=jL (jJ (l:=l) (a:=a1) (c:=41) h41 (by decide));rw[jM l (show a<=a+1 by omega) (show a+1<=a1+1 by omega),jM l (show a+1<=a1 by omega) (show a1<=a1+1 by omega),e0,e1,h5];simp
    ·simp only[h41,an6];exact mY h41
 ·rw[af2 h40];have hd:=lX (l:=l) (C:=C) (d:=d) (T:=texts ts) h40;rw[hd.term];exact hd.shut
theorem Lc{n a d:Nat}{ts:List Key}(hT:Sz l C n)(_ha:a<=l.length)(hn:l.length<a+1+n)(hi:Inv ts) :
  aal l a d ts C (arg2 (bU l) (dR (bU l) n) a d ts) (kD (bU l) (fC l (bU l) n (kF (bU l) [44] (fC l (bU l) n (kE (bU l) ⟨a,d,0,texts ts,C⟩)).1).1).1):=by
 unfold arg2;by_cases h40:bU l a=40
 ·rw[af6 h40];have hlt:=jE (l:=l) (a:=a) (by omega);by_cases h8:d=8
  ·rw[af6 h8];subst h8;have hd:=iY (l:=l) (C:=C) (T:=texts ts) h40;rw[hd.term,hd.one,hd.term];exact hd.shut
  ·rw[af2 h8,dF h40 h8];have h:=hT (a+1) (d+1) ts (by omega) (by omega) hi;cases hR:dR (bU l) n (a+1) (d+1) ts with
   |error Ep=>
    obtain⟨E,p⟩:=Ep;rw[hR]at h;have hd:Dd (fC l (bU l) n ⟨a+1,d+1,0,texts ts,C⟩).1 E p:=h;rw[hd.one,hd.term];exact hd.shut
   |ok q=>
    obtain⟨a1,aF,m⟩:=q;rw[hR]at h;obtain⟨h1,h2,h3,h4,h5,h6⟩:=h;rw[h1];by_cases h44:bU l a1=44
    ·have hlt1:=jE (l:=l) (a:=a1) (by omega);simp only[h44,al0];rw[ni (by simpa using h44)];have g:=hT (a1+1) (d+1) aF (by omega) (by omega) h2;cases hR2:dR (bU l) n (a1+1) (d+1) aF with
     |error Ep=>
      obtain⟨E,p⟩:=Ep;rw[hR2]at g;exact Dd.shut g
     |ok q=>
      obtain⟨a2,ts2,m2⟩:=q;rw[hR2]at g;obtain⟨g1,g2,g3,g4,g5,g6⟩:=g;simp only;rw[g1];have hlen:aF.length<=ts2.length:=g3.length_le;by_cases h41:bU l a2=41
      ·simp only[h41,al0];rw[ku h41];refine⟨rfl,g2,h3.trans g3,by omega,g4,?_,by omega⟩;have e0:=jL (jJ (l:=l) (a:=a) (c:=40) h40 (by decide));have e1:=jL (jJ (l:=l) (a:=a1) (c:=44) h44 (by decide));have e2:=jL (jJ (l:=l) (a:=a2) (c:=41) h41 (by decide));have em:(texts ts2).getD m []=(texts aF).getD m []:=wH (sG g3) (by rw[dP];exact h4);rw[jM l (show a<=a+1 by omega) (show a+1<=a2+1 by omega),jM l (show a+1<=a1 by omega) (show a1<=a2+1 by omega),jM l (show a1<=a1+1 by omega) (show a1+1<=a2+1 by omega),
        jM l (show a1+1<=a2 by omega) (show a2<=a2+1 by omega),e0,e1,e2,em,h5,g5]
       simp
      ·simp only[h41,an6];exact mY h41
    ·simp only[h44,an6];have hd:=yA (l:=l) (C:=C) (a:=a1) (d:=d+1) (T:=texts aF) (L:=[44]) (by simpa using h44);rw[hd.term];exact hd.shut
 ·rw[af2 h40];have hd:=lX (l:=l) (C:=C) (d:=d) (T:=texts ts) h40;rw[hd.term,hd.one,hd.term];exact hd.shut
theorem CV{a a1 d:Nat}{aF:List Key}{k:Key}(h:Inv aF)(hk:iM aF.length k)(hc:cut l a a1=rend (texts aF) k) :
  kG l a ⟨a1,d,0,texts aF,C⟩=(⟨a1,d,0,texts (put aF k),C⟩,aF.idxOf k):=by
 unfold kG;rw[af6 rfl];simp only[hc];rw[(h.put hk).2,(h.find hk).2]
theorem C9{ts:List Key}(h:Inv ts){k:Key}(hk:iM ts.length k):(texts (put ts k)).getD (ts.idxOf k) []=rend (texts ts) k:=by
 have hf:=h.find hk;rw[(h.put hk).2,<-hf.2];unfold aB.put;by_cases hc:(texts ts).contains (rend (texts ts) k)=true
 ·rw[af6 hc];have hm:rend (texts ts) k∈texts ts:=by simpa using hc
  have hi:=ah9 hm;rw[ag2,ad6 hi];exact ai2 hi
 ·rw[af2 hc];have hm:¬rend (texts ts) k∈texts ts:=by simpa using hc
  rw[ai9 hm];simp[ag2]
theorem ng{ts:List Key}(k:Key):ts <+: put ts k:=by
 unfold put;split
 ·exact List.prefix_rfl
 ·exact aq1 _ _
theorem uT:∀n,Sz l C n:=by
 intro n
 induction n with
 |zero=>intro a d ts ha hn;omega
 |succ n ih=>
  intro a d ts ha hn hi;unfold dR fC;by_cases hnm:isName (bU l a)=true
  ·rw[af6 hnm];have hb:97<=bU l a/\bU l a<=101:=(by simpa[isName]using hnm);have hin:letters.contains (bU l a)=true:=(by simp[letters];omega);rw[ni hin];have hIn:Oc (bU l) (λτ=>(fC l (bU l) n τ).1) (bU l a) ⟨a+1,d,0,texts ts,C⟩=⟨a+1,d,0,texts ts,C⟩:=(by unfold Oc;rw[af2 (by omega),af2 (by omega)]);simp only[hIn];have hk:iM ts.length (bU l a,0,0):=Or.inl ⟨hb.1,hb.2,rfl,rfl⟩;have hc:cut l a (a+1)=rend (texts ts) (bU l a,0,0):=by
    have hg:=jJ (l:=l) (a:=a) (c:=UInt8.ofNat (bU l a).toNat) (by simp;omega) (λe=>by have:=ao1 UInt8.toNat e;simp at this;omega);rw[jL hg];unfold rend;rw[af2 (by simp only;omega),af2 (by simp only;omega)]
   rw[CV hi hk hc];exact⟨rfl,(hi.put hk).1,ng _,jK _ _,by rw[C9 hi hk,hc],by omega⟩
  ·rw[af2 hnm];by_cases hf:bU l a=102
   ·rw[af6 hf];have hlt:=jE (l:=l) (a:=a) (by omega);have hin:letters.contains (bU l a)=true:=(by rw[hf];decide);rw[ni hin,hf];have hIn:Oc (bU l) (λτ=>(fC l (bU l) n τ).1) 102 ⟨a+1,d,0,texts ts,C⟩=kD (bU l) (fC l (bU l) n (kE (bU l) ⟨a+1,d,0,texts ts,C⟩)).1:=(by unfold Oc;rw[af6 rfl]);simp only[hIn];have h:=AP (d:=d) ih (a:=a+1) (by omega) (by omega) hi;cases hR:arg1 (bU l) (dR (bU l) n) (a+1) d ts with
    |error Ep=>
     obtain⟨E,p⟩:=Ep;rw[hR]at h;have hd:Dd _ E p:=h
     show Dd (kG l a _).1 E p
     rw[hd.PZ];exact hd
    |ok q=>
     obtain⟨a1,aF,m⟩:=q;rw[hR]at h;obtain⟨h1,h2,h3,h4,h5,h6⟩:=h;rw[h1];have hk:iM aF.length (102,m,0):=Or.inr (Or.inl ⟨rfl,h4,rfl⟩);have hc:cut l a a1=rend (texts aF) (102,m,0):=by
      rw[jM l (show a<=a+1 by omega) (show a+1<=a1 by omega),jL (jJ (l:=l) (a:=a) (c:=102) hf (by decide)),h5];rfl
     rw[CV h2 hk hc];exact⟨rfl,(h2.put hk).1,h3.trans (ng _),jK _ _,by rw[C9 h2 hk,hc],by omega⟩
   ·rw[af2 hf];by_cases hg:bU l a=103
    ·rw[af6 hg];have hlt:=jE (l:=l) (a:=a) (by omega);have hin:letters.contains (bU l a)=true:=(by rw[hg];decide);rw[ni hin,hg];have hIn:Oc (bU l) (λτ=>(fC l (bU l) n τ).1) 103 ⟨a+1,d,0,texts ts,C⟩=kD (bU l) (fC l (bU l) n (kF (bU l) [44] (fC l (bU l) n (kE (bU l) ⟨a+1,d,0,texts ts,C⟩)).1).1).1:=by
      unfold Oc;rw[af2 (by decide),af6 rfl]
     simp only[hIn];have h:=Lc (d:=d) ih (a:=a+1) (by omega) (by omega) hi;cases hR:arg2 (bU l) (dR (bU l) n) (a+1) d ts with
     |error Ep=>
      obtain⟨E,p⟩:=Ep;rw[hR]at h;have hd:Dd _ E p:=h
      show Dd (kG l a _).1 E p
      rw[hd.PZ];exact hd
     |ok q=>
      obtain⟨a1,aF,m,m2⟩:=q;rw[hR]at h;obtain⟨h1,h2,h3,h4,h4',h5,h6⟩:=h;rw[h1];have hk:iM aF.length (103,m,m2):=Or.inr (Or.inr ⟨rfl,h4,h4'⟩);have hc:cut l a a1=rend (texts aF) (103,m,m2):=by
       rw[jM l (show a<=a+1 by omega) (show a+1<=a1 by omega),jL (jJ (l:=l) (a:=a) (c:=103) hg (by decide)),h5];rfl
      rw[CV h2 hk hc];exact⟨rfl,(h2.put hk).1,h3.trans (ng _),jK _ _,by rw[C9 h2 hk,hc],by omega⟩
    ·rw[af2 hg];have hin:letters.contains (bU l a)=false:=by
      have hb:¬(97<=bU l a/\bU l a<=101):=(by simpa[isName]using hnm);simp[letters];omega
     have hd:=yA (l:=l) (C:=C) (a:=a) (d:=d) (T:=texts ts) hin;have h0:(kF (bU l) letters ⟨a,d,0,texts ts,C⟩).2=0:=(by unfold kF;rw[af6 rfl,af2 (by rw[hin];simp)]);rw[h0];have hIn:∀σ,Oc (bU l) (λτ=>(fC l (bU l) n τ).1) 0 σ=σ:=λσ=>by unfold Oc;rw[af2 (by decide),af2 (by decide)]
     rw[hIn]
     show Dd (kG l a _).1 2 a
     rw[hd.PZ];exact hd
end
def dU(T:List (List UInt8))(c:Int×Nat):List UInt8:=UInt8.ofNat c.1.toNat::40::(T.getD c.2 []++[41])
def Wl(n:Nat)(c:Int×Nat):Prop:=(c.1=80\/c.1=81)/\c.2<n
def jR(ts:List Key)(cs:List (Int×Nat)):Prop:=∀c∈cs,Wl ts.length c
theorem Lj{ts:List Key}(h:Inv ts){c c':Int×Nat}(hc:Wl ts.length c)(hc':Wl ts.length c')(e:dU (texts ts) c=dU (texts ts) c'):c=c':=by
 obtain⟨x,m⟩:=c;obtain⟨x',m'⟩:=c';obtain⟨h1,h2⟩:=hc;obtain⟨h1',h2'⟩:=hc';simp only at h1 h2 h1' h2';unfold dU at e;simp only[List.cons.injEq,true_and]at e;obtain⟨e1,e2⟩:=e;have e3:=as5 e2;have:=kK h.nd (by rw[dP];exact h2) (by rw[dP];exact h2') e3;have e4:=ao1 UInt8.toNat e1;simp at e4;subst this;simp;omega
theorem G5{ts aF:List Key}(hp:ts <+: aF){c:Int×Nat}(h:Wl ts.length c):dU (texts aF) c=dU (texts ts) c:=by
 unfold dU;rw[wH (sG hp) (by rw[dP];exact h.2)]
theorem wJ{ts aF:List Key}(hp:ts <+: aF){cs:List (Int×Nat)}(h:jR ts cs):cs.map (dU (texts aF))=cs.map (dU (texts ts)):=
 List.map_congr_left λc hc=>G5 hp (h c hc)
theorem jR.more{ts aF:List Key}(hp:ts <+: aF){cs:List (Int×Nat)}(h:jR ts cs):jR aF cs:=λc hc=>⟨(h c hc).1,af5 (h c hc).2 hp.length_le⟩
theorem Z5{ts:List Key}(h:Inv ts){cs:List (Int×Nat)}(hcs:jR ts cs){c:Int×Nat}(hc:Wl ts.length c):(cs.map (dU (texts ts))).contains (dU (texts ts) c)=cs.contains c:=by
 rw[Bool.eq_iff_iff];simp only[List.contains_eq_mem,aj7,af9];constructor
 ·rintro⟨c',hm,e⟩;rw[<-Lj h (hcs c' hm) hc e];exact hm
 ·intro hm;exact⟨c,hm,rfl⟩
theorem aar{ts:List Key}(h:Inv ts){cs:List (Int×Nat)}(hcs:jR ts cs){c:Int×Nat}(hc:Wl ts.length c) :
  put (cs.map (dU (texts ts))) (dU (texts ts) c)=(put cs c).map (dU (texts ts))/\jR ts (put cs c):=by
 unfold put;rw[Z5 h hcs hc];by_cases hm:cs.contains c=true
 ·rw[af6 hm,af6 hm];exact⟨rfl,hcs⟩
 ·rw[af2 hm,af2 hm];refine⟨by simp,λx hx=>?_⟩;rcases ag9.1 hx with hx|hx
  ·exact hcs x hx
  ·simp at hx;subst hx;exact hc
def Vj(d:Nat)(r:RF)(x:St):Prop:=
 match r with
 |.ok (a1,aF,cs1)=>x=⟨a1,d,0,texts aF,cs1.map (dU (texts aF))⟩/\Inv aF/\jR aF cs1
 |.error (E,p)=>Dd x E p
section
variable {l:List UInt8}
theorem same_eq{n a d:Nat}{ts:List Key}{cs:List (Int×Nat)}(ha:a<=l.length)(hn:l.length<a+n)(hi:Inv ts)(hcs:jR ts cs) :
  Vj d (Lp (bU l) n a d ts cs) (fC l (bU l) n (kF (bU l) [61] (fC l (bU l) n ⟨a,d,0,texts ts,cs.map (dU (texts ts))⟩).1).1).1:=by
 unfold Lp;have h:=uT (l:=l) (C:=cs.map (dU (texts ts))) n a d ts ha hn hi;cases hR:dR (bU l) n a d ts with
 |error Ep=>
  obtain⟨E,p⟩:=Ep;rw[hR]at h;have hd:Dd (fC l (bU l) n ⟨a,d,0,texts ts,cs.map (dU (texts ts))⟩).1 E p:=h;rw[hd.one,hd.term];exact hd
 |ok q=>
  obtain⟨a1,aF,m⟩:=q;rw[hR]at h;obtain⟨h1,h2,h3,h4,h5,h6⟩:=h;rw[h1];by_cases h61:bU l a1=61
  ·have hlt:=jE (l:=l) (a:=a1) (by omega);simp only[h61,al0];rw[ni (by simpa using h61)];have g:=uT (l:=l) (C:=cs.map (dU (texts ts))) n (a1+1) d aF (by omega) (by omega) h2;cases hR2:dR (bU l) n (a1+1) d aF with
   |error Ep=>
    obtain⟨E,p⟩:=Ep;rw[hR2]at g;exact g
   |ok q=>
    obtain⟨a2,ts2,m2⟩:=q;rw[hR2]at g;obtain⟨g1,g2,g3,g4,g5,g6⟩:=g;simp only;rw[g1];refine⟨?_,g2,hcs.more (h3.trans g3)⟩;rw[wJ (h3.trans g3) hcs]
  ·simp only[h61,an6];have hd:=yA (l:=l) (C:=cs.map (dU (texts ts))) (a:=a1) (d:=d) (T:=texts aF) (L:=[61]) (by simpa using h61);rw[hd.term];exact hd
theorem TA(c:Int)(a d:Nat)(T C:List (List UInt8)):nR (bU l) ⟨a,d,0,T,C⟩ c=decide (bU l a=c):=by simp[nR]
theorem Ce:∀(n a d:Nat) (ts:List Key) (cs:List (Int×Nat)),a<=l.length->l.length<a+n->Inv ts->jR ts cs->
  Vj d (Gu (bU l) n a d ts cs) (fM l (bU l) n ⟨a,d,0,texts ts,cs.map (dU (texts ts))⟩):=by
 intro n
 induction n with
 |zero=>intro a d ts cs ha hn;omega
 |succ n ih=>
  intro a d ts cs ha hn hi hcs;unfold Gu fM;simp only[TA];by_cases h33:bU l a=33
  ·have hlt:=jE (l:=l) (a:=a) (by omega);rw[af6 h33,af6 (show decide (bU l a=33)=true by simpa using h33)];exact ih (a+1) d ts cs (by omega) (by omega) hi hcs
  ·rw[af2 h33,af2 (show ¬(decide (bU l a=33)=true) by simpa using h33)];by_cases h40:bU l a=40
   ·have hlt:=jE (l:=l) (a:=a) (by omega);rw[af6 h40,af2 (show ¬((decide (bU l a=80)||decide (bU l a=81))=true) by simp;omega),af6 (show decide (bU l a=40)=true by simpa using h40)];by_cases h8:d=8
    ·rw[af6 h8];subst h8;have hd:=iY (l:=l) (C:=cs.map (dU (texts ts))) (T:=texts ts) h40;rw[hd.formula,hd.one,hd.formula];exact hd.shut
    ·rw[af2 h8,dF h40 h8];have h:=ih (a+1) (d+1) ts cs (by omega) (by omega) hi hcs;have hok:=qA (pk:=bU l) (N:=l.length) (λa h=>jE h) n (a+1) (d+1) ts cs (by omega);cases hR:Gu (bU l) n (a+1) (d+1) ts cs with
     |error Ep=>
      obtain⟨E,p⟩:=Ep;rw[hR]at h;have hd:Dd (fM l (bU l) n ⟨a+1,d+1,0,texts ts,cs.map (dU (texts ts))⟩) E p:=h;rw[hd.one,hd.formula];exact hd.shut
     |ok q=>
      obtain⟨a1,aF,cs1⟩:=q;rw[hR]at h hok;obtain⟨h1,h2,h3⟩:=h;obtain⟨o1,o2,_⟩:=hok;rw[h1];by_cases hj:au (bU l a1)=true
      ·have hlt1:=jE (l:=l) (a:=a1) (λe=>by rw[e]at hj;simp[au]at hj);simp only[hj,al0];have hjj:List.contains [38,124,62,45] (bU l a1)=true:=(by simpa[au,or_assoc]using hj);rw[ni hjj];have g:=ih (a1+1) (d+1) aF cs1 (by omega) (by omega) h2 h3;cases hR2:Gu (bU l) n (a1+1) (d+1) aF cs1 with
       |error Ep=>
        obtain⟨E,p⟩:=Ep;rw[hR2]at g;exact Dd.shut g
       |ok q=>
        obtain⟨a2,ts2,cs2⟩:=q;rw[hR2]at g;obtain⟨g1,g2,g3⟩:=g;simp only;rw[g1];by_cases h41:bU l a2=41
        ·simp only[h41,al0];rw[ku h41];exact⟨rfl,g2,g3⟩
        ·simp only[h41,an6];exact mY h41
      ·simp only[hj];have hjj:List.contains [38,124,62,45] (bU l a1)=false:=(by simpa[au,or_assoc]using hj);have hd:=yA (l:=l) (C:=cs1.map (dU (texts aF))) (a:=a1) (d:=d+1) (T:=texts aF) hjj;rw[hd.formula];exact hd.shut
   ·rw[af2 h40];by_cases h8:bU l a=80\/bU l a=81
    ·have hlt:=jE (l:=l) (a:=a) (by omega);rw[af6 h8,af6 (show(decide (bU l a=80)||decide (bU l a=81))=true by simpa using h8)];have h:=AP (l:=l) (C:=cs.map (dU (texts ts))) (n:=n+1) (d:=d) (uT _) (a:=a+1) (by omega) (by omega) hi;cases hR:arg1 (bU l) (dR (bU l) (n+1)) (a+1) d ts with
     |error Ep=>
      obtain⟨E,p⟩:=Ep;rw[hR]at h;have hd:Dd _ E p:=h
      show Dd (rD l a _) E p
      rw[hd.YA];exact hd
     |ok q=>
      obtain⟨a1,aF,m⟩:=q;rw[hR]at h;obtain⟨h1,h2,h3,h4,h5,h6⟩:=h;rw[h1];have hc:Wl aF.length (bU l a,m):=⟨h8,h4⟩;have hcut:cut l a a1=dU (texts aF) (bU l a,m):=by
       have hg:=jJ (l:=l) (a:=a) (c:=UInt8.ofNat (bU l a).toNat) (by simp;omega) (λe=>by have:=ao1 UInt8.toNat e;simp at this;omega);rw[jM l (show a<=a+1 by omega) (show a+1<=a1 by omega),jL hg,h5];rfl
      have hp:=aar h2 (hcs.more h3) hc
      show Vj d (.ok (a1,aF,put cs (bU l a,m))) _
      refine⟨?_,h2,hp.2⟩;unfold rD;rw[af6 rfl];simp only[hcut];rw[<-wJ h3 hcs,hp.1]
    ·rw[af2 h8,af2 (show ¬((decide (bU l a=80)||decide (bU l a=81))=true) by simpa using h8),af2 (show ¬(decide (bU l a=40)=true) by simpa using h40)];exact same_eq ha (by omega) hi hcs
end
def Gd(l:List UInt8)(σ:St):Prop:=(∀t∈σ.T,t.length<=l.length)/\(∀t∈σ.C,t.length<=l.length)/\σ.C.Nodup
theorem Rl(l:List UInt8)(x y:Nat):(cut l x y).length<=l.length:=by unfold cut;simp;omega
theorem put_mem{α:Type}[BEq α][LawfulBEq α]{L:List α}{k t:α}(h:t∈put L k):t∈L\/t=k:=by
 unfold put at h;split at h
 ·exact Or.inl h
 ·rcases ag9.1 h with h|h
  ·exact Or.inl h
  ·exact Or.inr (by simpa using h)
theorem qo{α:Type}[BEq α][LawfulBEq α]{L:List α}(k:α)(h:L.Nodup):(put L k).Nodup:=by
 unfold put;split
 ·exact h
 ·rename_i hc;refine an7.2 ⟨h,by simp,λa ha b hb e=>?_⟩;simp at hb;subst hb;subst e;exact hc (by simpa using ha)
section
variable {l:List UInt8} {pk:Nat->Int}
theorem vH{σ:St}(L:List Int)(h:Gd l σ):Gd l (kF pk L σ).1:=by
 unfold kF;split
 ·split
  ·exact h
  ·exact h
 ·exact h
theorem xI{σ:St}(h:Gd l σ):Gd l (kE pk σ):=by
 have h1:Gd l (sV pk σ):=by unfold sV;split;exact h;exact h
 have h2:=vH (pk:=pk) [40] h1;exact h2
theorem xH{σ:St}(h:Gd l σ):Gd l (kD pk σ):=vH (pk:=pk) [41] h
theorem QN{σ:St}(x:Nat)(h:Gd l σ):Gd l (kG l x σ).1:=by
 unfold kG;split
 ·refine⟨λt ht=>?_,h.2.1,h.2.2⟩;rcases put_mem ht with ht|ht
  ·exact h.1 t ht
  ·subst ht;exact Rl _ _ _
 ·exact h
theorem QO{σ:St}(x:Nat)(h:Gd l σ):Gd l (rD l x σ):=by
 unfold rD;split
 ·refine⟨h.1,λt ht=>?_,qo _ h.2.2⟩;rcases put_mem ht with ht|ht
  ·exact h.2.1 t ht
  ·subst ht;exact Rl _ _ _
 ·exact h
theorem Dk:∀(n:Nat) (σ:St),Gd l σ->Gd l (fC l pk n σ).1:=by
 intro n
 induction n with
 |zero=>intro σ h;exact h
 |succ n ih=>
  intro σ h;unfold fC;refine QN _ ?_;have h1:=vH (pk:=pk) letters h;unfold Oc;split
  ·exact xH (ih _ (xI h1))
  ·split
   ·exact xH (ih _ (vH _ (ih _ (xI h1))))
   ·exact h1
theorem IW:∀(n:Nat) (σ:St),Gd l σ->Gd l (fM l pk n σ):=by
 intro n
 induction n with
 |zero=>intro σ h;exact h
 |succ n ih=>
  intro σ h;unfold fM;split
  ·exact ih _ h
  ·split
   ·exact QO _ (xH (Dk _ _ (xI (σ:={σ with a:=σ.a+1}) h)))
   ·split
    ·exact xH (ih _ (vH _ (ih _ (xI h))))
    ·exact Dk _ _ (vH _ (Dk _ _ h))
end
theorem Inv.nodup{ts:List Key}(h:Inv ts):ts.Nodup:=by
 refine am3.2 λi j hi hj hlt e=>?_;have g1:=h.get i hi;have g2:=h.get j hj;rw[e,<-g2]at g1;have:=kK h.nd (by rw[dP];exact hi) (by rw[dP];exact hj) g1;omega
end aB
section
open Go.RowKit Go.Maps Go.WideMaps Go.Sort
def SA(m0 Mb BT:Nat)(W W':World):Prop:=(∀(k:Nat) (o:Obj),m0<=k->W.heap[k]?=some o->o.isCells=true->W'.heap[k]?=some o)/\W'.heap[Mb]?=W.heap[Mb]?/\W'.heap[BT]?=W.heap[BT]?
theorem SA.trans{m0 Mb BT:Nat}{A B C:World}(h:SA m0 Mb BT A B)(g:SA m0 Mb BT B C):SA m0 Mb BT A C:=⟨λk o hk ho hc=>g.1 k o hk (h.1 k o hk ho hc) hc,g.2.1.trans h.2.1,g.2.2.trans h.2.2⟩
theorem flat_get{α:Type}{f:α->List Value}{k:Nat}(hk:∀x,(f x).length=k)(k0:0<k):∀(ss:List α) (i:Nat) (hi:i<ss.length) (c:Nat),c<k->(ss.flatMap f)[i*k+c]?=(f ss[i])[c]?
 |[],i,hi,_,_=>absurd hi (by simp)
 |x::r,0,_,c,hc=>by
  rw[am2,aq7,am5,aj1 (by rw[hk];exact hc)];rfl
 |x::r,i+1,hi,c,hc=>by
  rw[am2,List.getElem?_append_right (by rw[hk,an0];omega),hk];have e:(i+1)*k+c-k=i*k+c:=by rw[an0];omega
  rw[e,flat_get hk k0 r i (by simpa using hi) c hc];rfl
theorem Ro(a b:Int):eH a b<0↔a<b:=by
 unfold eH;by_cases h:a<b
 ·simp[h]
 ·by_cases h2:b<a
  ·simp[h,h2]
  ·simp[h,h2]
theorem jP{n:Nat}(i j:Fin n):(ltOf λi j:Fin n=>eH i.val j.val) i j=decide (i.val<j.val):=by
 show decide (eH i.val j.val<0)=decide (i.val<j.val)
 rw[ar0,Ro];omega
theorem uH(n:Nat):SWO (ltOf λi j:Fin n=>eH i.val j.val):=by
 constructor
 ·intro x;rw[jP];simp
 ·intro x y z;rw[jP,jP,jP];simp only[aj7];omega
 ·intro x y z;rw[jP,jP,jP];simp only[decide_eq_false_iff_not];omega
theorem uG{n:Nat}(i j:Fin n)(h1:(ltOf λi j:Fin n=>eH i.val j.val) i j=false)(h2:(ltOf λi j:Fin n=>eH i.val j.val) j i=false):i=j:=by
 rw[jP]at h1 h2;simp at h1 h2;exact Fin.ext (by omega)
theorem sK{n:Nat}{ss:List (Fin n)}(hp:ss.Perm (List.finRange n)):(ss.mergeSort λx y=>!(ltOf λi j:Fin n=>eH i.val j.val) y x)=List.finRange n:=by
 have hle:∀a b:Fin n,(!(ltOf λi j:Fin n=>eH i.val j.val) b a)=decide (a.val<=b.val):=λa b=>by
  rw[jP];by_cases h:b.val<a.val
  ·simp[h]
  ·simp[h];omega
 have e:(λx y:Fin n=>!(ltOf λi j:Fin n=>eH i.val j.val) y x)=λx y=>decide (x.val<=y.val):=funext λa=>funext λb=>hle a b;rw[e];refine List.Perm.eq_of_pairwise (le:=λa b:Fin n=>a.val<=b.val) (λa b _ _ h1 h2=>Fin.ext (by omega)) ?_ ?_ ((List.mergeSort_perm ss _).trans hp)
 ·have h:=List.pairwise_mergeSort (le:=λx y:Fin n=>decide (x.val<=y.val)) (λa b c h1 h2=>by simp at *;omega) (λa b=>by simp;omega) ss;exact h.imp (λhx=>by simpa using hx)
 ·refine am3.2 λi j hi hj hij=>?_;simp only[List.getElem_finRange];simp;omega
theorem vg{α:Type}[Inhabited α]{f:α->List Value}{k:Nat}(hk:∀x,(f x).length=k)(k0:0<k){w:World}{g e:Nat}{cur:Array Value}{ss:List α}(hb:w.heap[g]?=some (.cells cur e (0,0)))(ht:cur.toList.take (ss.length*k)=ss.flatMap f):HoldsK f k w g 0 ss.toArray:=by
 intro j hj;have hj':j<ss.length*k:=by simpa using hj
 refine⟨?_,by simp[World.frozen?,hb]⟩;have hdiv:j/k<ss.length:=Nat.div_lt_of_lt_mul (by rw[Nat.mul_comm];exact hj');have hmod:j%k<k:=Nat.mod_lt _ k0;have hjj:j/k*k+j%k=j:=by rw[Nat.mul_comm];exact Nat.div_add_mod j k
 have h1:(cur.toList.take (ss.length*k))[j]?=(ss.flatMap f)[j]?:=by rw[ht]
 rw[List.getElem?_take_of_lt hj']at h1;have h2:=flat_get hk k0 ss (j/k) hdiv (j%k) hmod;rw[hjj]at h2;rw[h2]at h1;simp only[World.cell?,hb,am5];simp only[Option.isSome_none,an4,an6];rw[<-Array.getElem?_toList,h1,get_flatK _ _ _ _ (by simpa using hj')];rw[ao4 ss.toArray (j/k) (by simpa using hdiv),ao4 (f _) (j%k) (by rw[hk];exact hmod)];simp
theorem fF{α:Type}[Inhabited α](f:α->List Value)(k:Nat)(w:World)(g n:Nat)(d:Array α)(os:Array Obj):w.grownBy (sortWorldK f k w g 0 n d os) (some g):=by
 refine⟨rfl,rfl,rfl,by simp[sortWorldK,putRowK],λj hj hne=>?_⟩;unfold sortWorldK putRowK;rw[heap_grow_old _ _ (by simpa using hj)];have:g≠j:=λe=>hne (by rw[e]);simp[putRow,mapBlock,Sort.ahead,ap0,this]
end
open Go.RowKit Go.Maps Go.WideMaps
structure LI(w:World)(X G n e kn S:Nat)(T:List Value)(k:Nat)(W:World):Prop where
 x:W.cell? ⟨X,0,none⟩=some (.slice (some ⟨G,0,none⟩) k n)
 fx:W.frozen? ⟨X,0,none⟩=false
 row:W.ownsRow w.heap.size e kn (.slice (some ⟨G,0,none⟩) k n) k (T.take (k*kn))
 below:Below w.heap.size w W
 sz:S<=W.heap.size
section
variable {w:World} {X G n e kn S:Nat} {T:List Value} {k:Nat} {W:World}
theorem LI.lt(h:LI w X G n e kn S T k W):X<W.heap.size/\G<W.heap.size:=⟨ad7 W _ h.x,(h.row.lt G rfl).2⟩
theorem LI.own(B:Nat)(hw:w.heap.size<=B):OwnFrom B (LI w X G n e kn S T):=by
 intro k W W' row h hg hr;have hr':∀r,row=some r->∃o:Obj,W.heap[r]?=some o/\o.isCells=false:=λr e=>(hr r e).2;exact⟨aZ h.x hg hr',(kT h.x hg hr').trans h.fx,jm h.row hg hr',ownFrom_below (β:=Unit) (ad5 _) hw () W W' row h.below hg hr,af7 h.sz hg.size⟩
theorem LI.close{B Mb BT:Nat}{a:Act}{Wc w4:World}{news:List Value}(hX:X<B)(hG:G<B)(hwX:w.heap.size<=X)(hwG:w.heap.size<=G)(hXG:X≠G)(hXM:X≠Mb)(hXT:X≠BT)(hGM:G≠Mb)(hGT:G≠BT)(hMb:Mb<W.heap.size)(hBT:BT<W.heap.size)
 (h:LI w X G n e kn S T k W)(hg:W.grownBy Wc none)(hn:T.take ((k+1)*kn)=T.take (k*kn)++news)
 (r1:w4.ownsRow w.heap.size e kn (.slice (some ⟨G,0,none⟩) (k+1) n) (k+1) (T.take (k*kn)++news))(r2:Wc.grownBy w4 (some G)) :
  fP B (SA B Mb BT) (LI w X G n e kn S T (k+1)) W .normal a (w4.setCell ⟨X,0,none⟩ (.slice (some ⟨G,0,none⟩) (k+1) n)):=by
 have hlX:=h.lt.1;have hs:∀j,j<W.heap.size->j≠X->j≠G->(w4.setCell ⟨X,0,none⟩ (.slice (some ⟨G,0,none⟩) (k+1) n)).heap[j]?=W.heap[j]?:=λj hj h1 h2=>
  (af4 w4 _ _ j h1).trans ((r2.block j (af5 hj hg.size) (by simpa using h2)).trans (hg.block j hj (by simp)))
 have hX4:w4.heap[X]?=W.heap[X]?:=(r2.block X (af5 hlX hg.size) (by simpa using hXG)).trans (hg.block X hlX (by simp));have c4:w4.cell? ⟨X,0,none⟩=some (.slice (some ⟨G,0,none⟩) k n):=(ae5 hX4).trans h.x;have f4:w4.frozen? ⟨X,0,none⟩=false:=(ai1 hX4).trans h.fx;have hsz:W.heap.size<=(w4.setCell ⟨X,0,none⟩ (.slice (some ⟨G,0,none⟩) (k+1) n)).heap.size:=by
  have h1:=af7 hg.size r2.size;simpa[World.setCell]using h1
 have hb:=h.below;refine⟨⟨hsz,λj o hj ho _=>(hs j (ad3.1 ho).1 (by omega) (by omega)).trans ho⟩,⟨λj o hj ho _=>(hs j (ad3.1 ho).1 (by omega) (by omega)).trans ho,hs Mb hMb hXM.symm hGM.symm,hs BT hBT hXT.symm hGT.symm⟩,
  World.cell?_setCell_same' _ _ _ (by rw[c4];rfl),by rw[ap4];exact f4,?_,?_,af7 h.sz hsz⟩
 ·rw[hn];exact r1.kept (grownBy_setCell' w4 X _) (Or.inr (by simp only[Value.ownBlock,ne_eq,ai4];exact λe=>hXG e.symm))
 ·exact⟨r2.os.trans (hg.os.trans hb.os),r2.tape.trans (hg.tape.trans hb.tape),r2.output.trans (hg.output.trans hb.output),af7 hb.size hsz,λj hj=>(hs j (af5 hj hb.size) (by omega) (by omega)).trans (hb.block j hj)⟩
end
theorem jT{α:Type}{f:α->List Value}{k:Nat}(hk:∀x,(f x).length=k):∀(ss:List α) (i:Nat) (hi:i<ss.length),(ss.flatMap f).take ((i+1)*k)=(ss.flatMap f).take (i*k)++f ss[i]
 |[],i,hi=>absurd hi (by simp)
 |x::r,0,_=>by
  rw[am2,am5,Nat.one_mul,aq7,ao2,ae7,List.take_append_of_le_length (by rw[hk];exact ad5 _),ah5 (by rw[hk];exact ad5 _)];rfl
 |x::r,i+1,hi=>by
  rw[am2];have e1:(i+1+1)*k=(f x).length+(i+1)*k:=by rw[hk,an0 (i+1) 1 k];omega
  have e2:(i+1)*k=(f x).length+i*k:=by rw[hk,an0 i 1 k];omega
  rw[e1,e2,List.take_length_add_append,List.take_length_add_append,ak2];have e3:(f x).length+i*k=(i+1)*k:=by rw[hk,an0];omega
  rw[e3,jT hk r i (by simpa using hi)];rfl
theorem mF{α:Type}{f:α->List Value}{k:Nat}(hk:∀x,(f x).length=k):∀(ss:List α),(ss.flatMap f).length=ss.length*k
 |[]=>by simp
 |x::r=>by rw[am2,af8,hk,mF hk r,ae1,an0];omega
end Go.Proofs.YthcppbmkacbbiabGreat
