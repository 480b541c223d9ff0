import Derived.Test.YthcppbmkacbbiabGreatVAH
set_option linter.unusedSimpArgs false
set_option maxHeartbeats 1000000
set_option maxRecDepth 100000
namespace Go.Proofs.YthcppbmkacbbiabGreat
open Go.Proofs.Tryz
namespace au
def rend(T:List (List UInt8))(k:Key):List UInt8:=
 if k.1=102 then 102::40::(T.getD k.2.1 []++[41])
 else if k.1=103 then 103::40::(T.getD k.2.1 []++44::(T.getD k.2.2 []++[41]))
 else [UInt8.ofNat k.1.toNat]
def texts(Y:Ai):List (List UInt8):=Y.foldl (λT k=>T++[rend T k]) []
theorem qO(Y:Ai)(k:Key):texts (Y++[k])=texts Y++[rend (texts Y) k]:=by
 unfold texts;rw[az2];rfl
theorem aO(Y:Ai):(texts Y).length=Y.length:=by
 suffices h:∀(Y:Ai) (T:List (List UInt8)),(Y.foldl (λT k=>T++[rend T k]) T).length=T.length+Y.length by
  have:=h Y [];simpa[texts]using this
 intro Y
 induction Y with
 |nil=>intro T;simp
 |cons k r ih=>intro T;simp only[List.foldl_cons,ih];simp;omega
def lQ(n:Nat)(k:Key):Prop:=
 (97<=k.1/\k.1<=101/\k.2.1=0/\k.2.2=0)\/(k.1=102/\k.2.1<n/\k.2.2=0)\/(k.1=103/\k.2.1<n/\k.2.2<n)
theorem lQ.mono{n m:Nat}{k:Key}(h:lQ n k)(hm:n<=m):lQ m k:=by
 obtain h|⟨I,M,h3⟩|⟨I,M,h3⟩:=h
 ·exact Or.inl h
 ·exact Or.inr (Or.inl ⟨I,O,h3⟩)
 ·exact Or.inr (Or.inr ⟨I,O,O⟩)
theorem Nj{T anc:List (List UInt8)}{k:Key}(h:lQ T.length k):rend (T++anc) k=rend T k:=by
 obtain⟨I,M,h3,h4⟩|⟨I,M,h3⟩|⟨I,M,h3⟩:=h
 ·unfold rend;rw[an8 O,an8 O,an8 O,an8 O]
 ·unfold rend;rw[ao4 I,ao4 I];simp[ao0,as5 M]
 ·unfold rend;rw[an8 O,ao4 I,an8 O,ao4 I];simp[ao0,as5 M,as5 h3]
def skip:Nat->List UInt8->Option (List UInt8)
 |0,_=>none
 |_+1,[]=>none
 |n+1,c::r=>
  if 97<=c/\c<=101 then some r
  else if c=102 then
   match r with
   |40::r1=>(match skip n r1 with|some (41::r2)=>some r2|_=>none)
   |_=>none
  else if c=103 then
   match r with
   |40::r1=>(match skip n r1 with|some (44::r2)=>(match skip n r2 with|some (41::r3)=>some r3|_=>none)|_=>none)
   |_=>none
  else none
def Y4(t:List UInt8):Prop:=∃n,∀m,n<=m->∀r,skip m (t++r)=some r
theorem Y4.cancel{t u x y:List UInt8}(ht:Y4 t)(hu:Y4 u)(h:t++x=u++y):t=u/\x=y:=by
 obtain⟨n,I⟩:=ht;obtain⟨m,M⟩:=hu;have a1:=I (n+m) O x;have a2:=M (n+m) O y;rw[h,a2]at a1;have e:y=x:=at7 a1;subst e;exact⟨aC8 h,rfl⟩
theorem acV{c:UInt8}(h:97<=c/\c<=101):Y4 [c]:=by
 refine⟨1,λm hm r=>?_⟩;obtain⟨k,rfl⟩:∃k,m=k+1:=⟨m-1,O⟩;simp[skip,h]
theorem aiL{t:List UInt8}(h:Y4 t):Y4 (102::40::(t++[41])):=by
 obtain⟨n,I⟩:=h;refine⟨n+1,λm hm r=>?_⟩;obtain⟨k,rfl⟩:∃k,m=k+1:=⟨m-1,O⟩;have e:(102::40::(t++[41]))++r=102::40::(t++(41::r)):=R
 rw[e];unfold skip;rw[an8 ane,ao4 rfl];simp only[I k O]
theorem aiK{t u:List UInt8}(ht:Y4 t)(hu:Y4 u):Y4 (103::40::(t++44::(u++[41]))):=by
 obtain⟨n,I⟩:=ht;obtain⟨n2,M⟩:=hu;refine⟨n+n2+1,λm hm r=>?_⟩;obtain⟨k,rfl⟩:∃k,m=k+1:=⟨m-1,O⟩;have e:(103::40::(t++44::(u++[41])))++r=103::40::(t++(44::(u++(41::r)))):=R
 rw[e];unfold skip;rw[an8 ane,an8 ane,ao4 rfl];simp only[I k O,M k O]
structure Inv(Y:Ai):Prop where
 key:∀i (h:i<Y.length),lQ i Y[i]
 nd:(texts Y).Nodup
 tm:∀t∈texts Y,Y4 t
 get:∀i (h:i<Y.length),(texts Y).getD i []=rend (texts Y) Y[i]
theorem Yh:Inv []:=⟨λi h=>absurd h R,by simp[texts],by simp[texts],λi h=>absurd h R⟩
theorem getD_mem{T:List (List UInt8)}{i:Nat}(h:i<T.length):T.getD i []∈T:=by
 rw[ao0,an3 h];exact an5 h
theorem Nv{α:Type}{T:List α}(hn:T.Nodup){i j:Nat}(hi:i<T.length)(hj:j<T.length)(h:T[i]=T[j]):i=j:=by
 obtain hlt|he|hlt:=Nat.lt_trichotomy i j
 ·exact absurd h (av4.1 hn i j hi hj hlt)
 ·exact he
 ·exact absurd h.symm (av4.1 hn j i hj hi hlt)
theorem qY{T:List (List UInt8)}(hn:T.Nodup){i j:Nat}(hi:i<T.length)(hj:j<T.length)(h:T.getD i []=T.getD j []):i=j:=by
 rw[ao0,an3 hi,ao0,an3 hj]at h;exact Nv hn hi hj h
theorem acU{T:List (List UInt8)}(hT:∀t∈T,Y4 t){k:Key}(h:lQ T.length k):Y4 (rend T k):=by
 obtain⟨I,M,h3,h4⟩|⟨I,M,h3⟩|⟨I,M,h3⟩:=h
 ·unfold rend;rw[an8 O,an8 O];apply acV;have e:(UInt8.ofNat k.1.toNat).toNat=k.1.toNat:=anf
  constructor
  ·rw[UInt8.le_iff_toNat_le,e];simp;omega
  ·rw[UInt8.le_iff_toNat_le,e];simp;omega
 ·unfold rend;rw[ao4 I];exact aiL (hT _ (getD_mem M))
 ·unfold rend;rw[an8 O,ao4 I];exact aiK (hT _ (getD_mem M)) (hT _ (getD_mem h3))
theorem ab3{T:List (List UInt8)}(hn:T.Nodup)(hT:∀t∈T,Y4 t){k k':Key}(h:lQ T.length k)(h':lQ T.length k')(e:rend T k=rend T k'):k=k':=by
 obtain⟨c,x,y⟩:=k;obtain⟨c',x',y'⟩:=k';obtain⟨I,M,h3,h4⟩|⟨I,M,h3⟩|⟨I,M,h3⟩:=h<;>obtain⟨g1,g2,g3,g4⟩|⟨g1,g2,g3⟩|⟨g1,g2,g3⟩:=h'<;>simp only at I M h3 g1 g2 g3
 ·simp only at h4 g4;unfold rend at e;rw[an8 ang,an8 ang,an8 ang,an8 ang]at e;have e1:UInt8.ofNat c.toNat=UInt8.ofNat c'.toNat:=by simpa using e
  have e2:=ax1 UInt8.toNat e1;simp at e2;have:c=c':=O
  subst this;subst h3;subst h4;subst g3;subst g4;rfl
 ·exfalso;unfold rend at e;rw[an8 ang,an8 ang,ao4 ang]at e;simp at e
 ·exfalso;unfold rend at e;rw[an8 ang,an8 ang,an8 ang,ao4 ang]at e;simp at e
 ·exfalso;unfold rend at e;rw[ao4 ang,an8 ang,an8 ang]at e;simp at e
 ·unfold rend at e;rw[ao4 I,ao4 g1]at e;simp only[List.cons.injEq,true_and]at e;have e2:=aC8 e;have:=qY hn M g2 e2;subst this;subst I;subst h3;subst g1;subst g3;rfl
 ·exfalso;unfold rend at e;rw[ao4 ang,an8 ang,ao4 ang]at e;simp at e
 ·exfalso;unfold rend at e;rw[an8 ang,ao4 ang,an8 ang,an8 ang]at e;simp at e
 ·exfalso;unfold rend at e;rw[an8 ang,ao4 ang,ao4 ang]at e;simp at e
 ·unfold rend at e;rw[an8 ang,ao4 I,an8 ang,ao4 g1]at e;simp only[List.cons.injEq,true_and]at e;obtain⟨e2,e3⟩:=Y4.cancel (hT _ (getD_mem M)) (hT _ (getD_mem g2)) e;simp only[List.cons.injEq,true_and]at e3;have e4:=aC8 e3;have:=qY hn M g2 e2;have:=qY hn h3 g3 e4;subst I;subst g1;simp;omega
theorem Inv.find{Y:Ai}(h:Inv Y){k:Key}(hk:lQ Y.length k):(texts Y).contains (rend (texts Y) k)=Y.contains k/\(texts Y).idxOf (rend (texts Y) k)=Y.idxOf k:=by
 have hl:=aO Y;have iQ:lQ (texts Y).length k:=by rw[hl];exact hk
 have back:∀i (hi:i<Y.length),(texts Y)[i]'O=rend (texts Y) k->Y[i]=k:=λi hi e=>by
  have g:=h.get i hi;rw[ao0,an3 O]at g;simp at g;exact ab3 h.nd h.tm ((h.key i hi).mono O) iQ (g.symm.trans e)
 have fwd:∀i (hi:i<Y.length),Y[i]=k->(texts Y)[i]'O=rend (texts Y) k:=λi hi e=>by
  have g:=h.get i hi;rw[ao0,an3 O]at g;simp at g;rw[g,e]
 have hm:rend (texts Y) k∈texts Y↔k∈Y:=by
  constructor
  ·intro fZ;obtain⟨i,hi,e⟩:=ar6 fZ;rw[<-back i O e];exact an5 _
  ·intro fZ;obtain⟨i,hi,e⟩:=ar6 fZ;rw[<-fwd i hi e];exact an5 _
 refine⟨by rw[Bool.eq_iff_iff];simpa using hm,?_⟩;by_cases fZ:k∈Y
 ·have hi:=ar0 fZ;have e1:=fwd _ hi (ar8 hi);have aju:=hm.2 fZ;have hj:=ar0 aju;have e2:=ar8 hj;exact Nv h.nd hj O (e2.trans e1.symm)
 ·rw[as3 fZ,as3 (λe=>fZ (hm.1 e)),hl]
theorem Inv.put{Y:Ai}(h:Inv Y){k:Key}(hk:lQ Y.length k):Inv (put Y k)/\texts (put Y k)=au.put (texts Y) (rend (texts Y) k):=by
 have hf:=h.find hk;have hl:=aO Y;unfold au.put;rw[hf.1];by_cases hc:Y.contains k=true
 ·rw[ao4 hc,ao4 hc];exact⟨h,rfl⟩
 ·rw[an8 hc,an8 hc];refine⟨⟨?_,?_,?_,?_⟩,qO Y k⟩
  ·intro i hi;by_cases hlt:i<Y.length
   ·rw[au6 hlt];exact h.key i hlt
   ·have:i=Y.length:=(by simp at hi;omega);subst this;simpa using hk
  ·rw[qO];refine az1.2 ⟨h.nd,R,λa ha b hb=>?_⟩;simp at hb;subst hb;intro e;subst e;have Gm:(texts Y).contains (rend (texts Y) k)=true:=(by simpa using ha);rw[hf.1]at Gm;exact hc Gm
  ·intro t ht;rw[qO]at ht;obtain ht|ht:=aq7.1 ht
   ·exact h.tm t ht
   ·simp at ht;subst ht;exact acU h.tm (by rw[hl];exact hk)
  ·intro i hi;rw[qO];by_cases hlt:i<Y.length
   ·rw[au6 hlt,Nj ((h.key i hlt).mono O),<-h.get i hlt];simp[ao0,as5 (show i<(texts Y).length by omega)]
   ·have:i=Y.length:=(by simp at hi;omega);subst this;rw[Nj (by simpa[hl]using hk)];simp[ao0,<-hl]
def bK(l:List UInt8)(a:Nat):Int:=match l[a]? with|some b=>(b.toNat:Int)|none=>0
theorem fP{l:List UInt8}{a:Nat}(h:bK l a≠0):a<l.length:=by
 unfold bK at h;by_cases hl:a<l.length
 ·exact hl
 ·rw[List.getElem?_eq_none O]at h;exact absurd rfl h
theorem oz{l:List UInt8}{a:Nat}{c:UInt8}(h:bK l a=(c.toNat:Int))(hc:c≠0):l[a]?=some c:=by
 have h0:c.toNat≠0:=λe=>hc (UInt8.toNat_inj.1 (by rw[e];rfl));have hl:=fP (l:=l) (a:=a) O;unfold bK at h;rw[an3 hl]at h ⊢;simp at h;have:l[a].toNat=c.toNat:=O
 rw[UInt8.toNat_inj.1 this]
theorem oJ{l:List UInt8}{a:Nat}{c:UInt8}(h:l[a]?=some c):cut l a (a+1)=[c]:=by
 have hl:a<l.length:=by
  by_cases hl:a<l.length
  ·exact hl
  ·rw[List.getElem?_eq_none O]at h;cases h
 rw[an3 hl]at h;unfold cut;rw[show a+1-a=1 by omega,List.drop_eq_getElem_cons hl,at7 h];rfl
theorem oK(l:List UInt8){x y z:Nat}(I:x<=y)(M:y<=z):cut l x z=cut l x y++cut l y z:=by
 unfold cut;rw[show z-x=(y-x)+(z-y) by omega,List.take_add,List.drop_drop,show x+(y-x)=y by omega]
def Dd(σ:St)(E:Int)(p:Nat):Prop:=σ.E=E/\σ.a=p/\E≠0
section
variable {pk:Nat->Int} {l:List UInt8} {E:Int} {p:Nat} {σ:St}
theorem Dd.one(h:Dd σ E p)(L:List Int):bF pk L σ=(σ,0):=by unfold bF;rw[an8 (by rw[h.1];exact h.2.2)]
theorem Dd.sees(h:Dd σ E p)(c:Int):aJ pk σ c=false:=by unfold aJ;rw[ax4 (by rw[h.1];exact h.2.2)];rfl
theorem Dd.shut(h:Dd σ E p):Dd (dA pk σ) E p:=by unfold dA;rw[h.one];exact h
theorem Dd.term(h:Dd σ E p)(n:Nat):aN l pk n σ=(σ,0):=by
 cases n with
 |zero=>rfl
 |succ n=>
  unfold aN;rw[h.one];have e:Hy pk (λτ=>(aN l pk n τ).1) 0 σ=σ:=by unfold Hy;rw[an8 ane,an8 ane]
  simp only[e];unfold iJ;rw[an8 (by rw[h.1];exact h.2.2)]
theorem Dd.formula(h:Dd σ E p)(n:Nat):aK l pk n σ=σ:=by
 cases n with
 |zero=>rfl
 |succ n=>
  unfold aK;rw[an8 (by rw[h.sees];simp),an8 (by rw[h.sees,h.sees];simp),an8 (by rw[h.sees];simp),h.term,h.one,h.term]
theorem Dd.acR(h:Dd σ E p)(x:Nat):iJ l x σ=(σ,0):=by unfold iJ;rw[an8 (by rw[h.1];exact h.2.2)]
theorem Dd.aiJ(h:Dd σ E p)(x:Nat):iK l x σ=σ:=by unfold iK;rw[an8 (by rw[h.1];exact h.2.2)]
end
def ame(l:List UInt8)(a d:Nat)(Y:Ai)(C:List (List UInt8))(r:RT)(x:St×Nat):Prop:=
 match r with
 |.ok (a1,aP,m)=>x=(⟨a1,d,0,texts aP,C⟩,m)/\Inv aP/\Y <+: aP/\m<aP.length/\(texts aP).getD m []=cut l a a1/\a<=a1
 |.error (E,p)=>Dd x.1 E p
def RelA(l:List UInt8)(a d:Nat)(Y:Ai)(C:List (List UInt8))(r:RT)(x:St):Prop:=
 match r with
 |.ok (a1,aP,m)=>x=⟨a1,d,0,texts aP,C⟩/\Inv aP/\Y <+: aP/\m<aP.length/\cut l a a1=40::((texts aP).getD m []++[41])/\a<=a1
 |.error (E,p)=>Dd x E p
def akE(l:List UInt8)(a d:Nat)(Y:Ai)(C:List (List UInt8))(r:Lp)(x:St):Prop:=
 match r with
 |.ok (a1,aP,m,m2)=>x=⟨a1,d,0,texts aP,C⟩/\Inv aP/\Y <+: aP/\m<aP.length/\m2<aP.length/\cut l a a1=40::((texts aP).getD m []++44::((texts aP).getD m2 []++[41]))/\a<=a1
 |.error (E,p)=>Dd x E p
theorem CU{Y aP:Ai}(h:Y <+: aP):texts Y <+: texts aP:=by
 obtain⟨r,rfl⟩:=h
 suffices h:∀(r:Ai) (Y:Ai),texts Y <+: texts (Y++r)from h r Y
 intro r
 induction r with
 |nil=>intro Y;simp
 |cons k r ih=>
  intro Y;have I:=ih (Y++[k]);rw[qO]at I;have e:Y++k::r=Y++[k]++r:=R
  rw[e];exact(aB0 _ _).trans I
theorem Gs{T U:List (List UInt8)}(h:T <+: U){i:Nat}(hi:i<T.length):U.getD i []=T.getD i []:=by
 obtain⟨r,rfl⟩:=h;simp[ao0,as5 hi]
section
variable {l:List UInt8} {C:List (List UInt8)}
theorem uq{a d:Nat}{T:List (List UInt8)}(h:bK l a≠40):Dd (aG (bK l) ⟨a,d,0,T,C⟩) 2 a:=by
 have hd:gJ (bK l) ⟨a,d,0,T,C⟩=⟨a,d,0,T,C⟩:=by unfold gJ;rw[an8 (λe=>h (jE e.1).2)]
 unfold aG;rw[hd];unfold bF rUp;rw[ao4 rfl,an8 (by simpa using h)];exact⟨rfl,rfl,ane⟩
theorem nI{a:Nat}{T:List (List UInt8)}(h:bK l a=40):Dd (aG (bK l) ⟨a,8,0,T,C⟩) 3 a:=by
 have hd:gJ (bK l) ⟨a,8,0,T,C⟩=⟨a,8,3,T,C⟩:=by unfold gJ;rw[ao4 ⟨by simp[aJ,h],rfl⟩]
 unfold aG;rw[hd];unfold bF rUp;rw[an8 (show ¬((3:Int)=0) by decide)];exact⟨rfl,rfl,ane⟩
theorem fE{a d:Nat}{T:List (List UInt8)}(h:bK l a=40)(h8:d≠8):aG (bK l) ⟨a,d,0,T,C⟩=⟨a+1,d+1,0,T,C⟩:=by
 have hd:gJ (bK l) ⟨a,d,0,T,C⟩=⟨a,d,0,T,C⟩:=by unfold gJ;rw[an8 (λe=>h8 e.2)]
 unfold aG;rw[hd];unfold bF rUp;rw[ao4 rfl,ao4 (by simpa using h)]
theorem I9{a d:Nat}{T:List (List UInt8)}{L:List Int}(h:L.contains (bK l a)=false):Dd (bF (bK l) L ⟨a,d,0,T,C⟩).1 2 a:=by
 unfold bF;rw[ao4 rfl,an8 (by rw[h];simp)];exact⟨rfl,rfl,ane⟩
theorem pX{a d:Nat}{T:List (List UInt8)}{L:List Int}(h:L.contains (bK l a)=true):bF (bK l) L ⟨a,d,0,T,C⟩=(⟨a+1,d,0,T,C⟩,bK l a):=by
 unfold bF;rw[ao4 rfl,ao4 h]
theorem vN{a d:Nat}{T:List (List UInt8)}(h:bK l a≠41):Dd (dA (bK l) ⟨a,d,0,T,C⟩) 2 a:=by
 have:=I9 (l:=l) (C:=C) (a:=a) (d:=d) (T:=T) (L:=[41]) (by simpa using h);unfold dA;exact this
theorem qQ{a d:Nat}{T:List (List UInt8)}(h:bK l a=41):dA (bK l) ⟨a,d+1,0,T,C⟩=⟨a+1,d,0,T,C⟩:=by
 unfold dA;rw[pX (by simpa using h)];rfl
def aes(l:List UInt8)(C:List (List UInt8))(n:Nat):Prop:=
 ∀(a d:Nat) (Y:Ai),a<=l.length->l.length<a+n->Inv Y->ame l a d Y C (iU (bK l) n a d Y) (aN l (bK l) n ⟨a,d,0,texts Y,C⟩)
theorem ER{n a d:Nat}{Y:Ai}(hT:aes l C n)(_ha:a<=l.length)(hn:l.length<a+1+n)(hi:Inv Y) :
  RelA l a d Y C (arg1 (bK l) (iU (bK l) n) a d Y) (dA (bK l) (aN l (bK l) n (aG (bK l) ⟨a,d,0,texts Y,C⟩)).1):=by
 unfold arg1;by_cases iC:bK l a=40
 ·rw[ao4 iC];have hlt:=fP (l:=l) (a:=a) O;by_cases h8:d=8
  ·rw[ao4 h8];subst h8;have hd:=nI (l:=l) (C:=C) (T:=texts Y) iC;rw[hd.term];exact hd.shut
  ·rw[an8 h8,fE iC h8];have h:=hT (a+1) (d+1) Y O O hi;cases hR:iU (bK l) n (a+1) (d+1) Y with
   |error Ep=>
    obtain⟨E,p⟩:=Ep;rw[hR]at h;exact Dd.shut h
   |ok q=>
    obtain⟨a1,aP,m⟩:=q;rw[hR]at h;obtain⟨I,M,h3,h4,h5,h6⟩:=h;rw[I];by_cases rU:bK l a1=41
    ·simp only[rU,av8];rw[qQ rU];refine⟨rfl,M,h3,h4,?_,O⟩;have e0:=oJ (oz (l:=l) (a:=a) (c:=40) iC ane);have e1:=oJ (oz (l:=l) (a:=a1) (c:=41) rU ane);rw[oK l (show a<=a+1 by omega) (show a+1<=a1+1 by omega),oK l (show a+1<=a1 by omega) (show a1<=a1+1 by omega),e0,e1,h5];simp
    ·simp only[rU,az0];exact vN rU
 ·rw[an8 iC];have hd:=uq (l:=l) (C:=C) (d:=d) (T:=texts Y) iC;rw[hd.term];exact hd.shut
theorem Zu{n a d:Nat}{Y:Ai}(hT:aes l C n)(_ha:a<=l.length)(hn:l.length<a+1+n)(hi:Inv Y) :
  akE l a d Y C (arg2 (bK l) (iU (bK l) n) a d Y) (dA (bK l) (aN l (bK l) n (bF (bK l) [44] (aN l (bK l) n (aG (bK l) ⟨a,d,0,texts Y,C⟩)).1).1).1):=by
 unfold arg2;by_cases iC:bK l a=40
 ·rw[ao4 iC];have hlt:=fP (l:=l) (a:=a) O;by_cases h8:d=8
  ·rw[ao4 h8];subst h8;have hd:=nI (l:=l) (C:=C) (T:=texts Y) iC;rw[hd.term,hd.one,hd.term];exact hd.shut
  ·rw[an8 h8,fE iC h8];have h:=hT (a+1) (d+1) Y O O hi;cases hR:iU (bK l) n (a+1) (d+1) Y with
   |error Ep=>
    obtain⟨E,p⟩:=Ep;rw[hR]at h;have hd:Dd (aN l (bK l) n ⟨a+1,d+1,0,texts Y,C⟩).1 E p:=h;rw[hd.one,hd.term];exact hd.shut
   |ok q=>
    obtain⟨a1,aP,m⟩:=q;rw[hR]at h;obtain⟨I,M,h3,h4,h5,h6⟩:=h;rw[I];by_cases N7:bK l a1=44
    ·have jL:=fP (l:=l) (a:=a1) O;simp only[N7,av8];rw[pX (by simpa using N7)];have g:=hT (a1+1) (d+1) aP O O M;cases mX:iU (bK l) n (a1+1) (d+1) aP with
     |error Ep=>
      obtain⟨E,p⟩:=Ep;rw[mX]at g;exact Dd.shut g
     |ok q=>
      obtain⟨a2,ts2,m2⟩:=q;rw[mX]at g;obtain⟨g1,g2,g3,g4,g5,g6⟩:=g;simp only;rw[g1];have hlen:aP.length<=ts2.length:=g3.length_le;by_cases rU:bK l a2=41
      ·simp only[rU,av8];rw[qQ rU];refine⟨rfl,g2,h3.trans g3,O,g4,?_,O⟩;have e0:=oJ (oz (l:=l) (a:=a) (c:=40) iC ane);have e1:=oJ (oz (l:=l) (a:=a1) (c:=44) N7 ane);have e2:=oJ (oz (l:=l) (a:=a2) (c:=41) rU ane);have em:(texts ts2).getD m []=(texts aP).getD m []:=Gs (CU g3) (by rw[aO];exact h4);rw[oK l (show a<=a+1 by omega) (show a+1<=a2+1 by omega),oK l (show a+1<=a1 by omega) (show a1<=a2+1 by omega),oK l (show a1<=a1+1 by omega) (show a1+1<=a2+1 by omega),
        oK l (show a1+1<=a2 by omega) (show a2<=a2+1 by omega),e0,e1,e2,em,h5,g5]
       simp
      ·simp only[rU,az0];exact vN rU
    ·simp only[N7,az0];have hd:=I9 (l:=l) (C:=C) (a:=a1) (d:=d+1) (T:=texts aP) (L:=[44]) (by simpa using N7);rw[hd.term];exact hd.shut
 ·rw[an8 iC];have hd:=uq (l:=l) (C:=C) (d:=d) (T:=texts Y) iC;rw[hd.term,hd.one,hd.term];exact hd.shut
theorem OO{a a1 d:Nat}{aP:Ai}{k:Key}(h:Inv aP)(hk:lQ aP.length k)(hc:cut l a a1=rend (texts aP) k) :
  iJ l a ⟨a1,d,0,texts aP,C⟩=(⟨a1,d,0,texts (put aP k),C⟩,aP.idxOf k):=by
 unfold iJ;rw[ao4 rfl];simp only[hc];rw[(h.put hk).2,(h.find hk).2]
theorem OU{Y:Ai}(h:Inv Y){k:Key}(hk:lQ Y.length k):(texts (put Y k)).getD (Y.idxOf k) []=rend (texts Y) k:=by
 have hf:=h.find hk;rw[(h.put hk).2,<-hf.2];unfold au.put;by_cases hc:(texts Y).contains (rend (texts Y) k)=true
 ·rw[ao4 hc];have hm:rend (texts Y) k∈texts Y:=by simpa using hc
  have hi:=ar0 hm;rw[ao0,an3 hi];exact ar8 hi
 ·rw[an8 hc];have hm:¬rend (texts Y) k∈texts Y:=by simpa using hc
  rw[as3 hm];simp[ao0]
theorem vU{Y:Ai}(k:Key):Y <+: put Y k:=by
 unfold put;split
 ·exact List.prefix_rfl
 ·exact aB0 _ _
theorem qG:∀n,aes l C n:=by
 intro n
 induction n with
 |zero=>intro a d Y ha hn;omega
 |succ n ih=>
  intro a d Y ha hn hi;unfold iU aN;by_cases Lh:isName (bK l a)=true
  ·rw[ao4 Lh];have hb:97<=bK l a/\bK l a<=101:=(by simpa[isName]using Lh);have gK:letters.contains (bK l a)=true:=(by simp[letters];omega);rw[pX gK];have hIn:Hy (bK l) (λτ=>(aN l (bK l) n τ).1) (bK l a) ⟨a+1,d,0,texts Y,C⟩=⟨a+1,d,0,texts Y,C⟩:=(by unfold Hy;rw[an8 O,an8 O]);simp only[hIn];have hk:lQ Y.length (bK l a,0,0):=Or.inl ⟨hb.1,hb.2,rfl,rfl⟩;have hc:cut l a (a+1)=rend (texts Y) (bK l a,0,0):=by
    have hg:=oz (l:=l) (a:=a) (c:=UInt8.ofNat (bK l a).toNat) anf (λe=>by have:=ax1 UInt8.toNat e;simp at this;omega);rw[oJ hg];unfold rend;rw[an8 ang,an8 ang]
   rw[OO hi hk hc];exact⟨rfl,(hi.put hk).1,vU _,lC _ _,by rw[OU hi hk,hc],O⟩
  ·rw[an8 Lh];by_cases hf:bK l a=102
   ·rw[ao4 hf];have hlt:=fP (l:=l) (a:=a) O;have gK:letters.contains (bK l a)=true:=(by rw[hf];decide);rw[pX gK,hf];have hIn:Hy (bK l) (λτ=>(aN l (bK l) n τ).1) 102 ⟨a+1,d,0,texts Y,C⟩=dA (bK l) (aN l (bK l) n (aG (bK l) ⟨a+1,d,0,texts Y,C⟩)).1:=(by unfold Hy;rw[ao4 rfl]);simp only[hIn];have h:=ER (d:=d) ih (a:=a+1) O O hi;cases hR:arg1 (bK l) (iU (bK l) n) (a+1) d Y with
    |error Ep=>
     obtain⟨E,p⟩:=Ep;rw[hR]at h;have hd:Dd _ E p:=h
     show Dd (iJ l a _).1 E p
     rw[hd.acR];exact hd
    |ok q=>
     obtain⟨a1,aP,m⟩:=q;rw[hR]at h;obtain⟨I,M,h3,h4,h5,h6⟩:=h;rw[I];have hk:lQ aP.length (102,m,0):=Or.inr (Or.inl ⟨rfl,h4,rfl⟩);have hc:cut l a a1=rend (texts aP) (102,m,0):=by
      rw[oK l (show a<=a+1 by omega) (show a+1<=a1 by omega),oJ (oz (l:=l) (a:=a) (c:=102) hf ane),h5];rfl
     rw[OO M hk hc];exact⟨rfl,(M.put hk).1,h3.trans (vU _),lC _ _,by rw[OU M hk,hc],O⟩
   ·rw[an8 hf];by_cases hg:bK l a=103
    ·rw[ao4 hg];have hlt:=fP (l:=l) (a:=a) O;have gK:letters.contains (bK l a)=true:=(by rw[hg];decide);rw[pX gK,hg];have hIn:Hy (bK l) (λτ=>(aN l (bK l) n τ).1) 103 ⟨a+1,d,0,texts Y,C⟩=dA (bK l) (aN l (bK l) n (bF (bK l) [44] (aN l (bK l) n (aG (bK l) ⟨a+1,d,0,texts Y,C⟩)).1).1).1:=by
      unfold Hy;rw[an8 ane,ao4 rfl]
     simp only[hIn];have h:=Zu (d:=d) ih (a:=a+1) O O hi;cases hR:arg2 (bK l) (iU (bK l) n) (a+1) d Y with
     |error Ep=>
      obtain⟨E,p⟩:=Ep;rw[hR]at h;have hd:Dd _ E p:=h
      show Dd (iJ l a _).1 E p
      rw[hd.acR];exact hd
     |ok q=>
      obtain⟨a1,aP,m,m2⟩:=q;rw[hR]at h;obtain⟨I,M,h3,h4,h4',h5,h6⟩:=h;rw[I];have hk:lQ aP.length (103,m,m2):=Or.inr (Or.inr ⟨rfl,h4,h4'⟩);have hc:cut l a a1=rend (texts aP) (103,m,m2):=by
       rw[oK l (show a<=a+1 by omega) (show a+1<=a1 by omega),oJ (oz (l:=l) (a:=a) (c:=103) hg ane),h5];rfl
      rw[OO M hk hc];exact⟨rfl,(M.put hk).1,h3.trans (vU _),lC _ _,by rw[OU M hk,hc],O⟩
    ·rw[an8 hg];have gK:letters.contains (bK l a)=false:=by
      have hb:¬(97<=bK l a/\bK l a<=101):=(by simpa[isName]using Lh);simp[letters];omega
     have hd:=I9 (l:=l) (C:=C) (a:=a) (d:=d) (T:=texts Y) gK;have h0:(bF (bK l) letters ⟨a,d,0,texts Y,C⟩).2=0:=(by unfold bF;rw[ao4 rfl,an8 (by rw[gK];simp)]);rw[h0];have hIn:∀σ,Hy (bK l) (λτ=>(aN l (bK l) n τ).1) 0 σ=σ:=λσ=>by unfold Hy;rw[an8 ane,an8 ane]
     rw[hIn]
     show Dd (iJ l a _).1 2 a
     rw[hd.acR];exact hd
end
def dH(T:List (List UInt8))(c:Int×Nat):List UInt8:=UInt8.ofNat c.1.toNat::40::(T.getD c.2 []++[41])
def okC(n:Nat)(c:Int×Nat):Prop:=(c.1=80\/c.1=81)/\c.2<n
def kD(Y:Ai)(cs:Ah):Prop:=∀c∈cs,okC Y.length c
theorem Nk{Y:Ai}(h:Inv Y){c c':Int×Nat}(hc:okC Y.length c)(Fj:okC Y.length c')(e:dH (texts Y) c=dH (texts Y) c'):c=c':=by
 obtain⟨x,m⟩:=c;obtain⟨x',m'⟩:=c';obtain⟨I,M⟩:=hc;obtain⟨h1',h2'⟩:=Fj;simp only at I M h1' h2';unfold dH at e;simp only[List.cons.injEq,true_and]at e;obtain⟨e1,e2⟩:=e;have e3:=aC8 e2;have:=qY h.nd (by rw[aO];exact M) (by rw[aO];exact h2') e3;have e4:=ax1 UInt8.toNat e1;simp at e4;subst this;simp;omega
theorem Vg{Y aP:Ai}(hp:Y <+: aP){c:Int×Nat}(h:okC Y.length c):dH (texts aP) c=dH (texts Y) c:=by
 unfold dH;rw[Gs (CU hp) (by rw[aO];exact h.2)]
theorem yY{Y aP:Ai}(hp:Y <+: aP){cs:Ah}(h:kD Y cs):cs.map (dH (texts aP))=cs.map (dH (texts Y)):=
 List.map_congr_left λc hc=>Vg hp (h c hc)
theorem kD.more{Y aP:Ai}(hp:Y <+: aP){cs:Ah}(h:kD Y cs):kD aP cs:=λc hc=>⟨(h c hc).1,ap2 (h c hc).2 hp.length_le⟩
theorem akn{Y:Ai}(h:Inv Y){cs:Ah}(hcs:kD Y cs){c:Int×Nat}(hc:okC Y.length c):(cs.map (dH (texts Y))).contains (dH (texts Y) c)=cs.contains c:=by
 rw[Bool.eq_iff_iff];simp only[List.contains_eq_mem,as7,ap6];constructor
 ·rintro⟨c',hm,e⟩;rw[<-Nk h (hcs c' hm) hc e];exact hm
 ·intro hm;exact⟨c,hm,rfl⟩
theorem akQ{Y:Ai}(h:Inv Y){cs:Ah}(hcs:kD Y cs){c:Int×Nat}(hc:okC Y.length c) :
  put (cs.map (dH (texts Y))) (dH (texts Y) c)=(put cs c).map (dH (texts Y))/\kD Y (put cs c):=by
 unfold put;rw[akn h hcs hc];by_cases hm:cs.contains c=true
 ·rw[ao4 hm,ao4 hm];exact⟨rfl,hcs⟩
 ·rw[an8 hm,an8 hm];refine⟨R,λx hx=>?_⟩;obtain hx|hx:=aq7.1 hx
  ·exact hcs x hx
  ·simp at hx;subst hx;exact hc
def afM(d:Nat)(r:RF)(x:St):Prop:=
 match r with
 |.ok (a1,aP,dQ)=>x=⟨a1,d,0,texts aP,dQ.map (dH (texts aP))⟩/\Inv aP/\kD aP dQ
 |.error (E,p)=>Dd x E p
section
variable {l:List UInt8}
theorem same_eq{n a d:Nat}{Y:Ai}{cs:Ah}(ha:a<=l.length)(hn:l.length<a+n)(hi:Inv Y)(hcs:kD Y cs) :
  afM d (ZC (bK l) n a d Y cs) (aN l (bK l) n (bF (bK l) [61] (aN l (bK l) n ⟨a,d,0,texts Y,cs.map (dH (texts Y))⟩).1).1).1:=by
 unfold ZC;have h:=qG (l:=l) (C:=cs.map (dH (texts Y))) n a d Y ha hn hi;cases hR:iU (bK l) n a d Y with
 |error Ep=>
  obtain⟨E,p⟩:=Ep;rw[hR]at h;have hd:Dd (aN l (bK l) n ⟨a,d,0,texts Y,cs.map (dH (texts Y))⟩).1 E p:=h;rw[hd.one,hd.term];exact hd
 |ok q=>
  obtain⟨a1,aP,m⟩:=q;rw[hR]at h;obtain⟨I,M,h3,h4,h5,h6⟩:=h;rw[I];by_cases jP:bK l a1=61
  ·have hlt:=fP (l:=l) (a:=a1) O;simp only[jP,av8];rw[pX (by simpa using jP)];have g:=qG (l:=l) (C:=cs.map (dH (texts Y))) n (a1+1) d aP O O M;cases mX:iU (bK l) n (a1+1) d aP with
   |error Ep=>
    obtain⟨E,p⟩:=Ep;rw[mX]at g;exact g
   |ok q=>
    obtain⟨a2,ts2,m2⟩:=q;rw[mX]at g;obtain⟨g1,g2,g3,g4,g5,g6⟩:=g;simp only;rw[g1];refine⟨?_,g2,hcs.more (h3.trans g3)⟩;rw[yY (h3.trans g3) hcs]
  ·simp only[jP,az0];have hd:=I9 (l:=l) (C:=cs.map (dH (texts Y))) (a:=a1) (d:=d) (T:=texts aP) (L:=[61]) (by simpa using jP);rw[hd.term];exact hd
theorem XW(c:Int)(a d:Nat)(T C:List (List UInt8)):aJ (bK l) ⟨a,d,0,T,C⟩ c=decide (bK l a=c):=by simp[aJ]
theorem Dj:∀(n a d:Nat) (Y:Ai) (cs:Ah),a<=l.length->l.length<a+n->Inv Y->kD Y cs->
  afM d (UE (bK l) n a d Y cs) (aK l (bK l) n ⟨a,d,0,texts Y,cs.map (dH (texts Y))⟩):=by
 intro n
 induction n with
 |zero=>intro a d Y cs ha hn;omega
 |succ n ih=>
  intro a d Y cs ha hn hi hcs;unfold UE aK;simp only[XW];by_cases mV:bK l a=33
  ·have hlt:=fP (l:=l) (a:=a) O;rw[ao4 mV,ao4 (show decide (bK l a=33)=true by simpa using mV)];exact ih (a+1) d Y cs O O hi hcs
  ·rw[an8 mV,an8 (show ¬(decide (bK l a=33)=true) by simpa using mV)];by_cases iC:bK l a=40
   ·have hlt:=fP (l:=l) (a:=a) O;rw[ao4 iC,an8 (show ¬((decide (bK l a=80)||decide (bK l a=81))=true) by simp;omega),ao4 (show decide (bK l a=40)=true by simpa using iC)];by_cases h8:d=8
    ·rw[ao4 h8];subst h8;have hd:=nI (l:=l) (C:=cs.map (dH (texts Y))) (T:=texts Y) iC;rw[hd.formula,hd.one,hd.formula];exact hd.shut
    ·rw[an8 h8,fE iC h8];have h:=ih (a+1) (d+1) Y cs O O hi hcs;have iq:=vW (pk:=bK l) (N:=l.length) (λa h=>fP h) n (a+1) (d+1) Y cs O;cases hR:UE (bK l) n (a+1) (d+1) Y cs with
     |error Ep=>
      obtain⟨E,p⟩:=Ep;rw[hR]at h;have hd:Dd (aK l (bK l) n ⟨a+1,d+1,0,texts Y,cs.map (dH (texts Y))⟩) E p:=h;rw[hd.one,hd.formula];exact hd.shut
     |ok q=>
      obtain⟨a1,aP,dQ⟩:=q;rw[hR]at h iq;obtain⟨I,M,h3⟩:=h;obtain⟨o1,o2,_⟩:=iq;rw[I];by_cases hj:aB (bK l a1)=true
      ·have jL:=fP (l:=l) (a:=a1) (λe=>by rw[e]at hj;simp[aB]at hj);simp only[hj,av8];have NU:List.contains [38,124,62,45] (bK l a1)=true:=(by simpa[aB,or_assoc]using hj);rw[pX NU];have g:=ih (a1+1) (d+1) aP dQ O O M h3;cases mX:UE (bK l) n (a1+1) (d+1) aP dQ with
       |error Ep=>
        obtain⟨E,p⟩:=Ep;rw[mX]at g;exact Dd.shut g
       |ok q=>
        obtain⟨a2,ts2,Ce⟩:=q;rw[mX]at g;obtain⟨g1,g2,g3⟩:=g;simp only;rw[g1];by_cases rU:bK l a2=41
        ·simp only[rU,av8];rw[qQ rU];exact⟨rfl,g2,g3⟩
        ·simp only[rU,az0];exact vN rU
      ·simp only[hj];have NU:List.contains [38,124,62,45] (bK l a1)=false:=(by simpa[aB,or_assoc]using hj);have hd:=I9 (l:=l) (C:=dQ.map (dH (texts aP))) (a:=a1) (d:=d+1) (T:=texts aP) NU;rw[hd.formula];exact hd.shut
   ·rw[an8 iC];by_cases h8:bK l a=80\/bK l a=81
    ·have hlt:=fP (l:=l) (a:=a) O;rw[ao4 h8,ao4 (show(decide (bK l a=80)||decide (bK l a=81))=true by simpa using h8)];have h:=ER (l:=l) (C:=cs.map (dH (texts Y))) (n:=n+1) (d:=d) (qG _) (a:=a+1) O O hi;cases hR:arg1 (bK l) (iU (bK l) (n+1)) (a+1) d Y with
     |error Ep=>
      obtain⟨E,p⟩:=Ep;rw[hR]at h;have hd:Dd _ E p:=h
      show Dd (iK l a _) E p
      rw[hd.aiJ];exact hd
     |ok q=>
      obtain⟨a1,aP,m⟩:=q;rw[hR]at h;obtain⟨I,M,h3,h4,h5,h6⟩:=h;rw[I];have hc:okC aP.length (bK l a,m):=⟨h8,h4⟩;have aho:cut l a a1=dH (texts aP) (bK l a,m):=by
       have hg:=oz (l:=l) (a:=a) (c:=UInt8.ofNat (bK l a).toNat) anf (λe=>by have:=ax1 UInt8.toNat e;simp at this;omega);rw[oK l (show a<=a+1 by omega) (show a+1<=a1 by omega),oJ hg,h5];rfl
      have hp:=akQ M (hcs.more h3) hc
      show afM d (.ok (a1,aP,put cs (bK l a,m))) _
      refine⟨?_,M,hp.2⟩;unfold iK;rw[ao4 rfl];simp only[aho];rw[<-yY h3 hcs,hp.1]
    ·rw[an8 h8,an8 (show ¬((decide (bK l a=80)||decide (bK l a=81))=true) by simpa using h8),an8 (show ¬(decide (bK l a=40)=true) by simpa using iC)];exact same_eq ha O hi hcs
end
def Gd(l:List UInt8)(σ:St):Prop:=(∀t∈σ.T,t.length<=l.length)/\(∀t∈σ.C,t.length<=l.length)/\σ.C.Nodup
theorem adZ(l:List UInt8)(x y:Nat):(cut l x y).length<=l.length:=by unfold cut;simp;omega
theorem put_mem{α:Type}[BEq α][LawfulBEq α]{L:List α}{k t:α}(h:t∈put L k):t∈L\/t=k:=by
 unfold put at h;split at h
 ·exact Or.inl h
 ·obtain h|h:=aq7.1 h
  ·exact Or.inl h
  ·exact Or.inr (by simpa using h)
theorem zA{α:Type}[BEq α][LawfulBEq α]{L:List α}(k:α)(h:L.Nodup):(put L k).Nodup:=by
 unfold put;split
 ·exact h
 ·rename_i hc;refine az1.2 ⟨h,R,λa ha b hb e=>?_⟩;simp at hb;subst hb;subst e;exact hc (by simpa using ha)
section
variable {l:List UInt8} {pk:Nat->Int}
theorem Fv{σ:St}(L:List Int)(h:Gd l σ):Gd l (bF pk L σ).1:=by
 unfold bF;split
 ·split
  ·exact h
  ·exact h
 ·exact h
theorem Iq{σ:St}(h:Gd l σ):Gd l (aG pk σ):=by
 have I:Gd l (gJ pk σ):=by unfold gJ;split;exact h;exact h
 have M:=Fv (pk:=pk) [40] I;exact M
theorem Ip{σ:St}(h:Gd l σ):Gd l (dA pk σ):=Fv (pk:=pk) [41] h
theorem adH{σ:St}(x:Nat)(h:Gd l σ):Gd l (iJ l x σ).1:=by
 unfold iJ;split
 ·refine⟨λt ht=>?_,h.2.1,h.2.2⟩;obtain ht|ht:=put_mem ht
  ·exact h.1 t ht
  ·subst ht;exact adZ _ _ _
 ·exact h
theorem adI{σ:St}(x:Nat)(h:Gd l σ):Gd l (iK l x σ):=by
 unfold iK;split
 ·refine⟨h.1,λt ht=>?_,zA _ h.2.2⟩;obtain ht|ht:=put_mem ht
  ·exact h.2.1 t ht
  ·subst ht;exact adZ _ _ _
 ·exact h
theorem Po:∀(n:Nat) (σ:St),Gd l σ->Gd l (aN l pk n σ).1:=by
 intro n
 induction n with
 |zero=>intro σ h;exact h
 |succ n ih=>
  intro σ h;unfold aN;refine adH _ ?_;have I:=Fv (pk:=pk) letters h;unfold Hy;split
  ·exact Ip (ih _ (Iq I))
  ·split
   ·exact Ip (ih _ (Fv _ (ih _ (Iq I))))
   ·exact I
theorem WM:∀(n:Nat) (σ:St),Gd l σ->Gd l (aK l pk n σ):=by
 intro n
 induction n with
 |zero=>intro σ h;exact h
 |succ n ih=>
  intro σ h;unfold aK;split
  ·exact ih _ h
  ·split
   ·exact adI _ (Ip (Po _ _ (Iq (σ:={σ with a:=σ.a+1}) h)))
   ·split
    ·exact Ip (ih _ (Fv _ (ih _ (Iq h))))
    ·exact Po _ _ (Fv _ (Po _ _ h))
end
theorem Inv.nodup{Y:Ai}(h:Inv Y):Y.Nodup:=by
 refine av4.2 λi j hi hj hlt e=>?_;have g1:=h.get i hi;have g2:=h.get j hj;rw[e,<-g2]at g1;have:=qY h.nd (by rw[aO];exact hi) (by rw[aO];exact hj) g1;omega
end au
open Go.RowKit
open au (St put)
section
variable (w:World) (B:Nat) (s:ByteArray) (σ:St) (k1 k2:Value)
theorem abz(hs:s.size<=100)(_hr:au.kV s.size σ)(n:Nat)(CB:Hid (au.aJ (pk s) σ 33=false))(FW:Hid (au.aJ (pk s) σ 80=true))(BX:σ.a+1<=s.size)(tJ:σ.d<=8)(rE:au.kV s.size (au.aG (pk s) {σ with a:=σ.a+1}))(uK:au.need s.size (au.aG (pk s) {σ with a:=σ.a+1})<=n+1)(σ5:St)(H5:Hid ((au.aN s.data.toList (pk s) (n+1) (au.aG (pk s) {σ with a:=σ.a+1})).1=σ5))(D9:σ5.a<=s.size)(xq:1<=σ5.d/\σ5.d<=9)(τ:St)(HT:Hid (au.dA (pk s) σ5=τ))(HE:Hid (τ.E≠0))(h:RI w B s σ false k1 k2) :
  Calls prog 132 #[Aa B 0] w λe w'=>(∃b:Bool,e=.returned (.bool b))/\RI w' B s (τ) false k1 k2/\Below B w w':=by
 have FN:=h.c1
 go_in
 go_wp2_with fail
 refine(aQ w B s σ false k1 k2 33 O h).mono ?_;rw[Z CB];rintro e w1 ⟨rfl,I,b1⟩
 go_wp2_with fail
 refine(aQ w1 B s σ false k1 k2 80 O I).mono ?_;rw[Z FW];rintro e w2 ⟨rfl,M,b2⟩;have c1:=M.c1;have f1:=M.fz 1
 go_wp2_with fail
 refine(dV _ B s {σ with a:=σ.a+1} false k1 k2 hs BX tJ (M.set1 O)).mono ?_;rintro e w4 ⟨rfl,h4,b4⟩
 go_wp2_with fail
 refine(fJ B s false k1 k2 hs (n+1) w4 _ rE uK h4).mono ?_;rw[Z H5];generalize (au.aN s.data.toList (pk s) (n+1) (au.aG (pk s) {σ with a:=σ.a+1})).2=z5;rintro e w5 ⟨rfl,h5,b5⟩
 go_wp2_with fail
 refine(dU w5 B s σ5 false k1 k2 hs D9 xq.2 xq.1 h5).mono ?_;rw[Z HT];rintro e w6 ⟨rfl,hI,b6⟩;have hB:=(((b1.trans b2).trans (bU _ _ _ _)).trans b4).trans (b5.trans b6);have c3:=hI.c3;have bg:(τ.E != 0)=true:=by simpa using Z HE
 go_wp2_with fail
 go_ret
 exact⟨⟨_,rfl⟩,hI,hB⟩
theorem abx(hs:s.size<=100)(_hr:au.kV s.size σ)(n:Nat)(CB:Hid (au.aJ (pk s) σ 33=false))(FW:Hid (au.aJ (pk s) σ 80=true))(BX:σ.a+1<=s.size)(tJ:σ.d<=8)(rE:au.kV s.size (au.aG (pk s) {σ with a:=σ.a+1}))(uK:au.need s.size (au.aG (pk s) {σ with a:=σ.a+1})<=n+1)(σ5:St)(H5:Hid ((au.aN s.data.toList (pk s) (n+1) (au.aG (pk s) {σ with a:=σ.a+1})).1=σ5))(D9:σ5.a<=s.size)(xq:1<=σ5.d/\σ5.d<=9)(τ:St)(HT:Hid (au.dA (pk s) σ5=τ))(HE:Hid (τ.E=0))(hle:σ.a<=τ.a)(wE:τ.a<=s.size)(YB:τ.C.length<=500)(tx:List UInt8)(HX:Hid (au.cut s.data.toList σ.a τ.a=tx))(HC:Hid (τ.C.contains tx=true))(h:RI w B s σ false k1 k2) :
  Calls prog 132 #[Aa B 0] w λe w'=>(∃b:Bool,e=.returned (.bool b))/\RI w' B s (τ) false k1 k2/\Below B w w':=by
 have FN:=h.c1
 go_in
 go_wp2_with fail
 refine(aQ w B s σ false k1 k2 33 O h).mono ?_;rw[Z CB];rintro e w1 ⟨rfl,I,b1⟩
 go_wp2_with fail
 refine(aQ w1 B s σ false k1 k2 80 O I).mono ?_;rw[Z FW];rintro e w2 ⟨rfl,M,b2⟩;have c1:=M.c1;have f1:=M.fz 1
 go_wp2_with fail
 refine(dV _ B s {σ with a:=σ.a+1} false k1 k2 hs BX tJ (M.set1 O)).mono ?_;rintro e w4 ⟨rfl,h4,b4⟩
 go_wp2_with fail
 refine(fJ B s false k1 k2 hs (n+1) w4 _ rE uK h4).mono ?_;rw[Z H5];generalize (au.aN s.data.toList (pk s) (n+1) (au.aG (pk s) {σ with a:=σ.a+1})).2=z5;rintro e w5 ⟨rfl,h5,b5⟩
 go_wp2_with fail
 refine(dU w5 B s σ5 false k1 k2 hs D9 xq.2 xq.1 h5).mono ?_;rw[Z HT];rintro e w6 ⟨rfl,hI,b6⟩;have hB:=(((b1.trans b2).trans (bU _ _ _ _)).trans b4).trans (b5.trans b6);have c0:=hI.c0;have c1:=hI.c1;have c3:=hI.c3;rw[Z HE]at c3;have c6:=hI.c6;obtain⟨v4,v5,r1,r2,r3,r4,r5⟩:=hI.rows;have nN:(σ.a:Int)<=(τ.a:Int):=O
 have mM:(τ.a:Int)<=(s.size:Int):=O
 go_wp2_with fail
 go_quiet (fail)
 go_wp2_with fail
 rw[iH,Z HX];refine(kS _ tx τ.C v5 (B+1) O (by exact r4)).mono ?_;rw[lW (Z HC)];rintro e w2 ⟨rfl,eu⟩;subst eu;have Ih:decide (((τ.C.idxOf tx:Nat):Int)<0)=false:=R
 go_wp2_with fail
 go_ret
 exact⟨⟨_,rfl⟩,hI.drewN _,hB.trans (below_drewN _ _ _)⟩
theorem aby(hs:s.size<=100)(_hr:au.kV s.size σ)(n:Nat)(CB:Hid (au.aJ (pk s) σ 33=false))(FW:Hid (au.aJ (pk s) σ 80=true))(BX:σ.a+1<=s.size)(tJ:σ.d<=8)(rE:au.kV s.size (au.aG (pk s) {σ with a:=σ.a+1}))(uK:au.need s.size (au.aG (pk s) {σ with a:=σ.a+1})<=n+1)(σ5:St)(H5:Hid ((au.aN s.data.toList (pk s) (n+1) (au.aG (pk s) {σ with a:=σ.a+1})).1=σ5))(D9:σ5.a<=s.size)(xq:1<=σ5.d/\σ5.d<=9)(τ:St)(HT:Hid (au.dA (pk s) σ5=τ))(HE:Hid (τ.E=0))(hle:σ.a<=τ.a)(wE:τ.a<=s.size)(YB:τ.C.length<=500)(tx:List UInt8)(HX:Hid (au.cut s.data.toList σ.a τ.a=tx))(HC:Hid (τ.C.contains tx=false))(h:RI w B s σ false k1 k2) :
  Calls prog 132 #[Aa B 0] w λe w'=>(∃b:Bool,e=.returned (.bool b))/\RI w' B s ({τ with C:=τ.C++[tx]}) false k1 k2/\Below B w w':=by
 have FN:=h.c1
 go_in
 go_wp2_with fail
 refine(aQ w B s σ false k1 k2 33 O h).mono ?_;rw[Z CB];rintro e w1 ⟨rfl,I,b1⟩
 go_wp2_with fail
 refine(aQ w1 B s σ false k1 k2 80 O I).mono ?_;rw[Z FW];rintro e w2 ⟨rfl,M,b2⟩;have c1:=M.c1;have f1:=M.fz 1
 go_wp2_with fail
 refine(dV _ B s {σ with a:=σ.a+1} false k1 k2 hs BX tJ (M.set1 O)).mono ?_;rintro e w4 ⟨rfl,h4,b4⟩
 go_wp2_with fail
 refine(fJ B s false k1 k2 hs (n+1) w4 _ rE uK h4).mono ?_;rw[Z H5];generalize (au.aN s.data.toList (pk s) (n+1) (au.aG (pk s) {σ with a:=σ.a+1})).2=z5;rintro e w5 ⟨rfl,h5,b5⟩
 go_wp2_with fail
 refine(dU w5 B s σ5 false k1 k2 hs D9 xq.2 xq.1 h5).mono ?_;rw[Z HT];rintro e w6 ⟨rfl,hI,b6⟩;have hB:=(((b1.trans b2).trans (bU _ _ _ _)).trans b4).trans (b5.trans b6);have c0:=hI.c0;have c1:=hI.c1;have c3:=hI.c3;rw[Z HE]at c3;have c6:=hI.c6;obtain⟨v4,v5,r1,r2,r3,r4,r5⟩:=hI.rows;have nN:(σ.a:Int)<=(τ.a:Int):=O
 have mM:(τ.a:Int)<=(s.size:Int):=O
 go_wp2_with fail
 go_quiet (fail)
 go_wp2_with fail
 rw[iH,Z HX];refine(kS _ tx τ.C v5 (B+1) O (by exact r4)).mono ?_;rw[nX (Z HC)];rintro e w2 ⟨rfl,eu⟩;subst eu;obtain⟨i0,hi,jR,ig,jy⟩:=info_parts DR;obtain⟨ao,cap,hv4⟩:=bD r4;subst hv4;have hlt:=hI.lt;have f4:=hI.fz 5;have E8:str tx=.string ⟨tx.toArray⟩:=rfl;rw[E8]
 go_wp2_with (at_builtin;refine wpList_append_own_at _ rfl _ _ 163 rfl (B+1) 9 i0 (.string ⟨#[]⟩) 1 16 underlying163 hi jR ig jy rfl ane (.slice ao τ.C.length cap) τ.C.length (τ.C.map str) rfl (by exact World.ownsRow.alloc (by exact r4) _) (J w6.heap.size 0) 1 1 [str tx] rfl rfl (cell_one_new _ _ _) (vJ tx) anj O anf ?_;intro v' w3 aH dG fC AB;obtain⟨ao2,xO,BD⟩:=bD aH;subst BD;have c4':=(iZ dG (by exact hlt) (by exact r4) 5).trans (by exact r2);have f4':=(lJ dG (by exact hlt) (by exact r4) 5).trans (by exact f4);have c6':=(iZ dG (by exact hlt) (by exact r4) 6).trans (by exact c6);clear fC)
 have P:=RI.afG (hI.drewN _) (by exact r1) (by exact r2) (by exact r3) (by exact r4) r5 aH dG AB
 go_ret
 exact⟨⟨_,rfl⟩,P.1,hB.trans ((below_drewN _ _ _).trans P.2)⟩
end
section
variable (w:World) (B:Nat) (s:ByteArray) (σ:St) (k1 k2:Value)
theorem abw(hs:s.size<=100)(_hr:au.kV s.size σ)(n:Nat)(CB:Hid (au.aJ (pk s) σ 33=false))(FW:Hid (au.aJ (pk s) σ 80=false))(UD:Hid (au.aJ (pk s) σ 81=true))(BX:σ.a+1<=s.size)(tJ:σ.d<=8)(rE:au.kV s.size (au.aG (pk s) {σ with a:=σ.a+1}))(uK:au.need s.size (au.aG (pk s) {σ with a:=σ.a+1})<=n+1)(σ5:St)(H5:Hid ((au.aN s.data.toList (pk s) (n+1) (au.aG (pk s) {σ with a:=σ.a+1})).1=σ5))(D9:σ5.a<=s.size)(xq:1<=σ5.d/\σ5.d<=9)(τ:St)(HT:Hid (au.dA (pk s) σ5=τ))(HE:Hid (τ.E≠0))(h:RI w B s σ false k1 k2) :
  Calls prog 132 #[Aa B 0] w λe w'=>(∃b:Bool,e=.returned (.bool b))/\RI w' B s (τ) false k1 k2/\Below B w w':=by
 have FN:=h.c1
 go_in
 go_wp2_with fail
 refine(aQ w B s σ false k1 k2 33 O h).mono ?_;rw[Z CB];rintro e w1 ⟨rfl,I,b1⟩
 go_wp2_with fail
 refine(aQ w1 B s σ false k1 k2 80 O I).mono ?_;rw[Z FW];rintro e w2 ⟨rfl,M,b2⟩
 go_wp2_with fail
 refine(aQ w2 B s σ false k1 k2 81 O M).mono ?_;rw[Z UD];rintro e w3 ⟨rfl,h3,b3⟩;have c1:=h3.c1;have f1:=h3.fz 1
 go_wp2_with fail
 refine(dV _ B s {σ with a:=σ.a+1} false k1 k2 hs BX tJ (h3.set1 O)).mono ?_;rintro e w4 ⟨rfl,h4,b4⟩
 go_wp2_with fail
 refine(fJ B s false k1 k2 hs (n+1) w4 _ rE uK h4).mono ?_;rw[Z H5];generalize (au.aN s.data.toList (pk s) (n+1) (au.aG (pk s) {σ with a:=σ.a+1})).2=z5;rintro e w5 ⟨rfl,h5,b5⟩
 go_wp2_with fail
 refine(dU w5 B s σ5 false k1 k2 hs D9 xq.2 xq.1 h5).mono ?_;rw[Z HT];rintro e w6 ⟨rfl,hI,b6⟩;have hB:=((((b1.trans b2).trans b3).trans (bU _ _ _ _)).trans b4).trans (b5.trans b6);have c3:=hI.c3;have bg:(τ.E != 0)=true:=by simpa using Z HE
 go_wp2_with fail
 go_ret
 exact⟨⟨_,rfl⟩,hI,hB⟩
theorem abu(hs:s.size<=100)(_hr:au.kV s.size σ)(n:Nat)(CB:Hid (au.aJ (pk s) σ 33=false))(FW:Hid (au.aJ (pk s) σ 80=false))(UD:Hid (au.aJ (pk s) σ 81=true))(BX:σ.a+1<=s.size)(tJ:σ.d<=8)(rE:au.kV s.size (au.aG (pk s) {σ with a:=σ.a+1}))(uK:au.need s.size (au.aG (pk s) {σ with a:=σ.a+1})<=n+1)(σ5:St)(H5:Hid ((au.aN s.data.toList (pk s) (n+1) (au.aG (pk s) {σ with a:=σ.a+1})).1=σ5))(D9:σ5.a<=s.size)(xq:1<=σ5.d/\σ5.d<=9)(τ:St)(HT:Hid (au.dA (pk s) σ5=τ))(HE:Hid (τ.E=0))(hle:σ.a<=τ.a)(wE:τ.a<=s.size)(YB:τ.C.length<=500)(tx:List UInt8)(HX:Hid (au.cut s.data.toList σ.a τ.a=tx))(HC:Hid (τ.C.contains tx=true))(h:RI w B s σ false k1 k2) :
  Calls prog 132 #[Aa B 0] w λe w'=>(∃b:Bool,e=.returned (.bool b))/\RI w' B s (τ) false k1 k2/\Below B w w':=by
 have FN:=h.c1
 go_in
 go_wp2_with fail
 refine(aQ w B s σ false k1 k2 33 O h).mono ?_;rw[Z CB];rintro e w1 ⟨rfl,I,b1⟩
 go_wp2_with fail
 refine(aQ w1 B s σ false k1 k2 80 O I).mono ?_;rw[Z FW];rintro e w2 ⟨rfl,M,b2⟩
 go_wp2_with fail
 refine(aQ w2 B s σ false k1 k2 81 O M).mono ?_;rw[Z UD];rintro e w3 ⟨rfl,h3,b3⟩;have c1:=h3.c1;have f1:=h3.fz 1
 go_wp2_with fail
 refine(dV _ B s {σ with a:=σ.a+1} false k1 k2 hs BX tJ (h3.set1 O)).mono ?_;rintro e w4 ⟨rfl,h4,b4⟩
 go_wp2_with fail
 refine(fJ B s false k1 k2 hs (n+1) w4 _ rE uK h4).mono ?_;rw[Z H5];generalize (au.aN s.data.toList (pk s) (n+1) (au.aG (pk s) {σ with a:=σ.a+1})).2=z5;rintro e w5 ⟨rfl,h5,b5⟩
 go_wp2_with fail
 refine(dU w5 B s σ5 false k1 k2 hs D9 xq.2 xq.1 h5).mono ?_;rw[Z HT];rintro e w6 ⟨rfl,hI,b6⟩;have hB:=((((b1.trans b2).trans b3).trans (bU _ _ _ _)).trans b4).trans (b5.trans b6);have c0:=hI.c0;have c1:=hI.c1;have c3:=hI.c3;rw[Z HE]at c3;have c6:=hI.c6;obtain⟨v4,v5,r1,r2,r3,r4,r5⟩:=hI.rows;have nN:(σ.a:Int)<=(τ.a:Int):=O
 have mM:(τ.a:Int)<=(s.size:Int):=O
 go_wp2_with fail
 go_quiet (fail)
 go_wp2_with fail
 rw[iH,Z HX];refine(kS _ tx τ.C v5 (B+1) O (by exact r4)).mono ?_;rw[lW (Z HC)];rintro e w2 ⟨rfl,eu⟩;subst eu;have Ih:decide (((τ.C.idxOf tx:Nat):Int)<0)=false:=R
 go_wp2_with fail
 go_ret
 exact⟨⟨_,rfl⟩,hI.drewN _,hB.trans (below_drewN _ _ _)⟩
theorem abv(hs:s.size<=100)(_hr:au.kV s.size σ)(n:Nat)(CB:Hid (au.aJ (pk s) σ 33=false))(FW:Hid (au.aJ (pk s) σ 80=false))(UD:Hid (au.aJ (pk s) σ 81=true))(BX:σ.a+1<=s.size)(tJ:σ.d<=8)(rE:au.kV s.size (au.aG (pk s) {σ with a:=σ.a+1}))(uK:au.need s.size (au.aG (pk s) {σ with a:=σ.a+1})<=n+1)(σ5:St)(H5:Hid ((au.aN s.data.toList (pk s) (n+1) (au.aG (pk s) {σ with a:=σ.a+1})).1=σ5))(D9:σ5.a<=s.size)(xq:1<=σ5.d/\σ5.d<=9)(τ:St)(HT:Hid (au.dA (pk s) σ5=τ))(HE:Hid (τ.E=0))(hle:σ.a<=τ.a)(wE:τ.a<=s.size)(YB:τ.C.length<=500)(tx:List UInt8)(HX:Hid (au.cut s.data.toList σ.a τ.a=tx))(HC:Hid (τ.C.contains tx=false))(h:RI w B s σ false k1 k2) :
  Calls prog 132 #[Aa B 0] w λe w'=>(∃b:Bool,e=.returned (.bool b))/\RI w' B s ({τ with C:=τ.C++[tx]}) false k1 k2/\Below B w w':=by
 have FN:=h.c1
 go_in
 go_wp2_with fail
 refine(aQ w B s σ false k1 k2 33 O h).mono ?_;rw[Z CB];rintro e w1 ⟨rfl,I,b1⟩
 go_wp2_with fail
 refine(aQ w1 B s σ false k1 k2 80 O I).mono ?_;rw[Z FW];rintro e w2 ⟨rfl,M,b2⟩
 go_wp2_with fail
 refine(aQ w2 B s σ false k1 k2 81 O M).mono ?_;rw[Z UD];rintro e w3 ⟨rfl,h3,b3⟩;have c1:=h3.c1;have f1:=h3.fz 1
 go_wp2_with fail
 refine(dV _ B s {σ with a:=σ.a+1} false k1 k2 hs BX tJ (h3.set1 O)).mono ?_;rintro e w4 ⟨rfl,h4,b4⟩
 go_wp2_with fail
 refine(fJ B s false k1 k2 hs (n+1) w4 _ rE uK h4).mono ?_;rw[Z H5];generalize (au.aN s.data.toList (pk s) (n+1) (au.aG (pk s) {σ with a:=σ.a+1})).2=z5;rintro e w5 ⟨rfl,h5,b5⟩
 go_wp2_with fail
 refine(dU w5 B s σ5 false k1 k2 hs D9 xq.2 xq.1 h5).mono ?_;rw[Z HT];rintro e w6 ⟨rfl,hI,b6⟩;have hB:=((((b1.trans b2).trans b3).trans (bU _ _ _ _)).trans b4).trans (b5.trans b6);have c0:=hI.c0;have c1:=hI.c1;have c3:=hI.c3;rw[Z HE]at c3;have c6:=hI.c6;obtain⟨v4,v5,r1,r2,r3,r4,r5⟩:=hI.rows;have nN:(σ.a:Int)<=(τ.a:Int):=O
 have mM:(τ.a:Int)<=(s.size:Int):=O
 go_wp2_with fail
 go_quiet (fail)
 go_wp2_with fail
 rw[iH,Z HX];refine(kS _ tx τ.C v5 (B+1) O (by exact r4)).mono ?_;rw[nX (Z HC)];rintro e w2 ⟨rfl,eu⟩;subst eu;obtain⟨i0,hi,jR,ig,jy⟩:=info_parts DR;obtain⟨ao,cap,hv4⟩:=bD r4;subst hv4;have hlt:=hI.lt;have f4:=hI.fz 5;have E8:str tx=.string ⟨tx.toArray⟩:=rfl;rw[E8]
 go_wp2_with (at_builtin;refine wpList_append_own_at _ rfl _ _ 163 rfl (B+1) 9 i0 (.string ⟨#[]⟩) 1 16 underlying163 hi jR ig jy rfl ane (.slice ao τ.C.length cap) τ.C.length (τ.C.map str) rfl (by exact World.ownsRow.alloc (by exact r4) _) (J w6.heap.size 0) 1 1 [str tx] rfl rfl (cell_one_new _ _ _) (vJ tx) anj O anf ?_;intro v' w3 aH dG fC AB;obtain⟨ao2,xO,BD⟩:=bD aH;subst BD;have c4':=(iZ dG (by exact hlt) (by exact r4) 5).trans (by exact r2);have f4':=(lJ dG (by exact hlt) (by exact r4) 5).trans (by exact f4);have c6':=(iZ dG (by exact hlt) (by exact r4) 6).trans (by exact c6);clear fC)
 have P:=RI.afG (hI.drewN _) (by exact r1) (by exact r2) (by exact r3) (by exact r4) r5 aH dG AB
 go_ret
 exact⟨⟨_,rfl⟩,P.1,hB.trans ((below_drewN _ _ _).trans P.2)⟩
end
end Go.Proofs.YthcppbmkacbbiabGreat
