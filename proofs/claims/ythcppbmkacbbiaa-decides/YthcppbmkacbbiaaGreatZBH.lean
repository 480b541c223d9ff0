import Derived.Test.YthcppbmkacbbiaaGreatZBE
set_option linter.unusedSimpArgs false
set_option maxHeartbeats 1000000
namespace Go.Proofs.YthcppbmkacbbiaaGreat
open Go.Proofs.Tryz
section
open Sat (View Rule jT cZ)
open au (Key put qY iG jn aA bI dX gy)
def Vj(f:Nat->Nat)(n:Nat):List Int:=(List.range n).map λi=>(f i:Int)
theorem kM(f:Nat->Nat){n i:Nat}(h:i<n):(Vj f n).getD i 0=(f i:Int):=by
 unfold Vj;rw[ag8,ak7,List.getElem?_range h];rfl
structure FH(f:Nat->Nat)(ts:List Key)(cs:List (Int×Nat))(ps:List Key)(hl:List Bool):Prop where
 Iy:yt f ts
 agr:∀p∈dJ (OO f cs) cs.length,hl.getD p.1 false=hl.getD p.2 false
 Eb:(iG (Vj f ts.length) hl ps).getD (ps.length-1) false=true
def X7(f:Nat->Nat)(cs:List (Int×Nat))(hl:List Bool):Prop:=∀i j (hi:i<cs.length) (hj:j<cs.length),cs[i].1=cs[j].1->f cs[i].2=f cs[j].2->hl.getD i false=hl.getD j false
theorem rW(f:Nat->Nat)(cs:List (Int×Nat))(hl:List Bool):(∀p∈dJ (OO f cs) cs.length,hl.getD p.1 false=hl.getD p.2 false)↔X7 f cs hl:=by
 have hB:=uM (OO f cs) (λi j=>hl.getD i false=hl.getD j false) (λ_=>rfl) (λ_ _ e=>e.symm) (λ_ _ _ e1 e2=>e1.trans e2);rw[zW]at hB;rw[hB];constructor
 ·intro h i j hi hj e1 e2;exact h i j hi hj (by simp[OO,hi,hj,e1,e2])
 ·intro h i j hi hj e;simp only[OO,ak7,af2 hi,af2 hj,aq2,ak5,as4]at e;exact h i j hi hj e.1 e.2
def ig(q:Key):Key:=if q.1=61 then(if q.2.1=q.2.2 then(61,0,0)else if q.2.2<q.2.1 then(61,q.2.2,q.2.1)else q)else q
theorem fP:IQ ig:=by
 refine⟨λq h=>?_,λq h=>?_⟩
 ·unfold ig;rw[af9 h];by_cases e:q.2.1=q.2.2
  ·rw[af9 e];exact⟨rfl,Or.inr (Or.inr ⟨e,rfl⟩)⟩
  ·rw[af6 e];by_cases e2:q.2.2<q.2.1
   ·rw[af9 e2];exact⟨rfl,Or.inr (Or.inl rfl)⟩
   ·rw[af6 e2];exact⟨h,Or.inl rfl⟩
 ·unfold ig;rw[af6 h]
theorem Gl(a:Nat):ig (dh a a)=dh 0 0:=by simp[ig,dh]
theorem Rk(a b:Nat):ig (dh a b)=ig (dh b a):=by
 unfold ig dh;simp only[am9];by_cases e:a=b
 ·subst e;rfl
 ·have e':¬b=a:=λh=>e h.symm;rw[af6 e,af6 e'];by_cases h:b<a
  ·rw[af9 h,af6 (by omega)]
  ·rw[af6 h,af9 (by omega)]
def BH(ts:List Key)(cs:List (Int×Nat))(ps:List Key):List (List bG):=mY ig ps++UO ig ts.length++Ym ig ts++prC ig cs
theorem aN{α:Type}{l:List α}{i:Nat}(h:i<l.length)(d:α):l.getD i d=l[i]:=by
 rw[ag8,af2 h];rfl
theorem IL{sm:Key->Key}(hs:IQ sm){v:Key->Bool}{f:Nat->Nat}{ts:List Key}{cs:List (Int×Nat)}{ps:List Key}{hl:List Bool}(hi:bI ts.length cs.length ps)(hk:gy cs ps)
 (hf:∀q∈ps,q.1=61->(f q.2.1=f q.2.2↔v (sm q)=true))(hh:∀c (h:c<cs.length),hl.getD c false=v (cs[c].1,c,0)):qW sm v (Vj f ts.length) hl ps:=by
 intro q hq;obtain⟨i,hlt,e⟩:=aj2 hq;have ho:=hi.ok i hlt;rw[e]at ho;refine⟨λh=>?_,λh=>?_⟩
 ·rcases ho with⟨a,_⟩|⟨a,_⟩|⟨a,_⟩|⟨_,h1,h2⟩
  ·omega
  ·rw[h]at a;simp[aA]at a
  ·omega
  ·rw[kM f h1,kM f h2];have:=hf q hq h;cases hv:v (sm q)
   ·rw[hv]at this;have:¬f q.2.1=f q.2.2:=λh=>by have:=this.1 h;cases this
    have:¬(f q.2.1:Int)=(f q.2.2:Int):=(by omega);simp[this]
   ·rw[hv]at this;have:=this.2 rfl;simp[this]
 ·obtain⟨h1,h2⟩:=hk.letter q hq h;rw[hs.other q (by omega),hh _ h1,h2];have h3:q.2.2=0:=by
   rcases ho with⟨a,_,b⟩|⟨a,_⟩|⟨_,_,b⟩|⟨a,_⟩
   ·exact b
   ·rcases h with h|h<;>(rw[h]at a;simp[aA]at a)
   ·exact b
   ·omega
  congr 1
  rw[<-h3]
theorem acd{v:Key->Bool}{n:Nat}(h:Hold v (UO ig n)):(∀a,v (ig (dh a a))=true)/\(∀a b,v (ig (dh a b))=true->v (ig (dh b a))=true)/\∀a b c,a<n->b<n->c<n->v (ig (dh a b))=true->v (ig (dh b c))=true->v (ig (dh a c))=true:=by
 obtain⟨h1,h2⟩:=Hw.1 h;rw[Gl]at h1;have hr:∀a,v (ig (dh a a))=true:=λa=>by rw[Gl];exact h1
 have hs:∀a b,v (ig (dh a b))=true->v (ig (dh b a))=true:=λa b e=>by rw[Rk];exact e
 refine⟨hr,hs,λa b c ha hb hc e1 e2=>?_⟩;by_cases h3:c<a
 ·exact h2 a ha b hb c h3 e1 e2
 ·by_cases h4:a<c
  ·exact hs _ _ (h2 c hc b hb a h4 (hs _ _ e2) (hs _ _ e1))
  ·have:a=c:=(by omega);subst this;exact hr a
theorem I9{v:Key->Bool}{f:Nat->Nat}{ts:List Key}{cs:List (Int×Nat)}{ps:List Key}{hl:List Bool}(hi:bI ts.length cs.length ps)(hk:gy cs ps)(h0:0<ps.length)
 (ht:∀i (hi:i<ts.length),ts[i].2.1<ts.length/\ts[i].2.2<ts.length)(hc:∀x∈cs,(x.1=80\/x.1=81)/\x.2<ts.length)
 (h:Hold v (BH ts cs ps))(hf:∀a b,a<ts.length->b<ts.length->(f a=f b↔v (ig (dh a b))=true))(hh:∀c (h:c<cs.length),hl.getD c false=v (cs[c].1,c,0)):FH f ts cs ps hl:=by
 unfold BH at h;rw[fG,fG,fG]at h;obtain⟨⟨⟨h1,h2⟩,h3⟩,h4⟩:=h;obtain⟨e1,e2,e3⟩:=acd h2;refine⟨?_,?_,?_⟩
 ·rw[lq];intro i j hi' hj' p1 p2 p3;obtain⟨a1,a2⟩:=ht i hi';obtain⟨b1,b2⟩:=ht j hj';have q2:=(hf _ _ a1 b1).1 p2;have q3:=(hf _ _ a2 b2).1 p3;refine(hf i j hi' hj').2 ?_;have key:=Hu.1 h3;by_cases hij:j<i
  ·have:=key i hi' j hij;rw[aN hi',aN hj']at this;exact this p1 q2 q3
  ·by_cases hji:i<j
   ·have:=key j hj' i hji;rw[aN hi',aN hj']at this;exact e2 _ _ (this p1.symm (e2 _ _ q2) (e2 _ _ q3))
   ·have:i=j:=(by omega);subst this;exact e1 i
 ·rw[rW];intro i j hi' hj' p1 p2;have a1:=(hc _ (af4 hi'));have b1:=(hc _ (af4 hj'));have q2:=(hf _ _ a1.2 b1.2).1 p2;have key:=Hr.1 h4;have s1:ig (cs[i].1,i,0)=(cs[i].1,i,0):=fP.other _ (by show cs[i].1≠61;omega);have s2:ig (cs[j].1,j,0)=(cs[j].1,j,0):=fP.other _ (by show cs[j].1≠61;omega);rw[hh i hi',hh j hj'];by_cases hij:j<i
  ·have:=key i hi' j hij;rw[aN hi',aN hj',s1,s2]at this;exact this p1 q2
  ·by_cases hji:i<j
   ·have:=key j hj' i hji;rw[aN hi',aN hj',s1,s2]at this;exact(this p1.symm (e2 _ _ q2)).symm
   ·have:i=j:=(by omega);subst this;rfl
 ·refine F7 hi h0 (vN.1 h1) (IL fP hi hk (λq hq h61=>?_) hh);obtain⟨i,hlt,e⟩:=aj2 hq;have ho:=hi.ok i hlt;rw[e]at ho;rcases ho with⟨a,_⟩|⟨a,_⟩|⟨a,_⟩|⟨_,g1,g2⟩
  ·omega
  ·rw[h61]at a;simp[aA]at a
  ·omega
  ·have:=hf _ _ g1 g2;have eq:q=dh q.2.1 q.2.2:=(by unfold dh;rw[<-h61]);rw[<-eq]at this;exact this
theorem qN{sm:Key->Key}(hs:IQ sm){f:Nat->Nat}{n:Nat}{hl:List Bool}{ps:List Key}{a b:Nat}(ha:a<n)(hb:b<n):cv (Vj f n) hl ps (sm (dh a b))=true↔f a=f b:=by
 rw[Yt hs (q:=dh a b) rfl]
 show decide ((Vj f n).getD a 0=(Vj f n).getD b 0)=true↔_
 rw[kM f ha,kM f hb];simp only[ak4];omega
theorem JF{f:Nat->Nat}{ts:List Key}{cs:List (Int×Nat)}{ps:List Key}{hl:List Bool}(hi:bI ts.length cs.length ps)(h0:0<ps.length)(hn:0<ts.length)
 (ht:∀i (hi:i<ts.length),ts[i].2.1<ts.length/\ts[i].2.2<ts.length)(hc:∀x∈cs,(x.1=80\/x.1=81)/\x.2<ts.length)(h:FH f ts cs ps hl):Hold (cv (Vj f ts.length) hl ps) (BH ts cs ps):=by
 unfold BH;rw[fG,fG,fG];refine⟨⟨⟨vN.2 (Iz fP hi h0 h.Eb),Hw.2 ⟨?_,λa ha b hb c hc'=>?_⟩⟩,Hu.2 λa ha b hb=>?_⟩,Hr.2 λa ha b hb=>?_⟩
 ·rw[qN fP hn hn]
 ·rw[qN fP ha hb,qN fP hb (by omega),qN fP ha (by omega)];exact Eq.trans
 ·have hb':b<ts.length:=by omega
  obtain⟨a1,a2⟩:=ht a ha;obtain⟨b1,b2⟩:=ht b hb';rw[aN ha,aN hb',qN fP a1 b1,qN fP a2 b2,qN fP ha hb'];exact(lq f ts).1 h.Iy a b ha hb'
 ·have hb':b<cs.length:=by omega
  have a1:=hc _ (af4 ha);have b1:=hc _ (af4 hb');rw[aN ha,aN hb',qN fP a1.2 b1.2];intro p1 p2;have s1:ig (cs[a].1,a,0)=(cs[a].1,a,0):=fP.other _ (by show cs[a].1≠61;omega);have s2:ig (cs[b].1,b,0)=(cs[b].1,b,0):=fP.other _ (by show cs[b].1≠61;omega);rw[s1,s2,vX a1.1,vX b1.1];exact(rW f cs hl).1 h.agr a b ha hb' p1 p2
theorem I8{v:Key->Bool}{f:Nat->Nat}{ts:List Key}{cs:List (Int×Nat)}{ps:List Key}{hl:List Bool}(hi:bI ts.length cs.length ps)(hk:gy cs ps)(h0:0<ps.length)
 (h:Hold v (mY id ps))(xU:yt f ts)(adi:X7 f cs hl)(hf:∀q∈ps,q.1=61->(f q.2.1=f q.2.2↔v q=true))(hh:∀c (h:c<cs.length),hl.getD c false=v (cs[c].1,c,0)):FH f ts cs ps hl:=
 ⟨xU,(rW f cs hl).2 adi,F7 hi h0 (vN.1 h) (IL MC hi hk hf hh)⟩
theorem JE{f:Nat->Nat}{ts:List Key}{cs:List (Int×Nat)}{ps:List Key}{hl:List Bool}(hi:bI ts.length cs.length ps)(h0:0<ps.length)(h:FH f ts cs ps hl):Hold (cv (Vj f ts.length) hl ps) (mY id ps):=
 vN.2 (Iz MC hi h0 h.Eb)
end
section
open Go.RowKit Go.Maps Go.WideMaps
open au (Key put dX qY jn aA iG bI)
attribute [local go_sem] Oper.semAt_some
def hlo(s:ByteArray)(nt nc:Nat):List Bool:=(List.range nc).map λc=>s.data.toList.getD (nt+1+c) 0==49
theorem Wj{W:World}{X t:Nat}{p q u v:Value}(h:W.heap[X]?=some (.cells #[p,q] t)):((W.setCell ⟨X,0,none⟩ u).setCell ⟨X,1,none⟩ v).heap[X]?=some (.cells #[u,v] t):=by
 have h1:(W.setCell ⟨X,0,none⟩ u).heap[X]?=some (.cells #[u,q] t):=by simp[World.setCell,ar5,h]
 generalize W.setCell ⟨X,0,none⟩ u=W1 at h1 ⊢;simp[World.setCell,ar5,h1]
structure L5(w0:World)(keys:List UInt8)(nc b H X k:Nat)(hb:Nat->Bool)(W:World):Prop where
 below:Below w0.heap.size w0 W
 lb:w0.heap.size<=b
 lh:w0.heap.size<=H
 lx:w0.heap.size<=X
 m:Cc W b (fi keys) keys.length 100
 x0:W.cell? ⟨X,0,none⟩=some (.map (some b))
 x1:W.cell? ⟨X,1,none⟩=some (.slice (some ⟨H,0,none⟩) nc nc)
 hlt:H<W.heap.size
 c:∀c,c<nc->W.cell? ⟨H,c,none⟩=some (.bool (decide (c<k)&&hb c))
 fz:∀c,W.frozen? ⟨H,c,none⟩=false
 nx:X≠H
 nb:b≠H
end
section
open au (put gu gq)
theorem Ap:∀l:List UInt8,gq l=if bits (l.map (·==49))=l then some (l.map (·==49))else none
 |[]=>by simp[gq,bits]
 |c::r=>by
  have ih:=Ap r;simp only[gq];by_cases h:c≠48/\c≠49
  ·rw[af9 h,af6];intro e;simp only[bits,aq6,as5]at e;have e1:=e.1;have h2:(c==49)=false:=beq_eq_false_iff_ne.2 h.2;rw[h2]at e1;exact h.1 e1.symm
  ·rw[af6 h,ih];have hc:(if (c==49)=true then(49:UInt8)else 48)=c:=by
    by_cases h2:c=49
    ·subst h2;rfl
    ·have h3:c=48:=ai0 λh3=>h ⟨h3,h2⟩;subst h3;rfl
   by_cases hb:bits (r.map (·==49))=r
   ·rw[af9 hb,af9]
    ·simp;by_cases h2:c=49
     ·subst h2;rfl
     ·simp[h2]
    ·simp only[bits,aq6,as5];exact⟨hc,hb⟩
   ·rw[af6 hb,af6]
    ·rfl
    ·intro e;simp only[bits,aq6,as5]at e;exact hb e.2
theorem Hz(s:ByteArray)(n c:Nat)(h:s.size=n+1+c):hlo s n c=(s.data.toList.drop (n+1)).map (·==49):=by
 have hl:s.data.toList.length=s.size:=by simp
 refine List.ext_getElem ?_ ?_
 ·simp only[hlo,am3,List.length_range,aq9];omega
 ·intro i h1 h2;have h3:n+1+i<s.data.toList.length:=by simp only[hlo,am3,List.length_range]at h1;omega
  simp only[hlo,am8,List.getElem_range,List.getElem_drop];rw[ag8,af2 h3];rfl
structure Can(keys:List UInt8)(k:Nat):Prop where
 eq:oW (fi keys) k=keys.take k
 all:∀v,v<(nums (fi keys) k).length->∃j,∃_:j<keys.length,j<k/\keys[j].toNat=48+v
 lt:∀j (_:j<keys.length),j<k->48<=keys[j].toNat/\keys[j].toNat<48+(nums (fi keys) k).length
theorem Td{l:List Nat}{x y:Nat}:y∈put l x↔y∈l\/y=x:=by
 unfold put;split
 ·rename_i h;have h1:x∈l:=by simpa using h
  constructor
  ·exact .inl
  ·rintro(h2|rfl)
   ·exact h2
   ·exact h1
 ·simp
theorem fZ(f:Nat->Nat):∀(k x:Nat),x∈nums f k↔∃j,j<k/\f j=x
 |0,x=>by simp[nums]
 |k+1,x=>by
  unfold nums;rw[Td,fZ f k x];constructor
  ·rintro(⟨j,h1,h2⟩|rfl)
   ·exact⟨j,by omega,h2⟩
   ·exact⟨k,by omega,rfl⟩
  ·rintro⟨j,h1,h2⟩;by_cases e:j=k
   ·subst e;exact .inr h2.symm
   ·exact .inl ⟨j,by omega,h2⟩
theorem MN{l:List Nat}{x y:Nat}(h:y∈l):(put l x).idxOf y=l.idxOf y:=by
 unfold put;split
 ·rfl
 ·rw[an1,af9 h]
theorem WI{l:List Nat}{x:Nat}:(put l x).idxOf x=l.idxOf x:=by
 by_cases h:x∈l
 ·exact MN h
 ·have h2:put l x=l++[x]:=by unfold put;rw[af6 (by simpa using h)]
  rw[h2,ak0 h,an1,af6 h];simp
theorem nH(f:Nat->Nat)(j:Nat):∀k,j<k->(nums f k).idxOf (f j)=(nums f j).idxOf (f j)
 |0,h=>by omega
 |k+1,h=>by
  show(put (nums f k) (f k)).idxOf (f j)=_
  by_cases e:j=k
  ·subst e;exact WI
  ·rw[MN ((fZ f k _).2 ⟨j,by omega,rfl⟩)];exact nH f j k (by omega)
theorem Vq(keys:List UInt8):Can keys 0:=⟨by simp[oW],λv h=>by simp[nums]at h,λj _ h=>by omega⟩
theorem EU(f:Nat->Nat)(k j:Nat)(h:j<k):(oW f k)[j]?=some (UInt8.ofNat (48+(nums f j).idxOf (f j))):=by simp[oW,h]
theorem Can.old{keys:List UInt8}{k j:Nat}(h:Can keys k)(hk:k<keys.length)(hj:j<k)(he:keys[j]'(by omega)=keys[k]):Can keys (k+1)/\nums (fi keys) (k+1)=nums (fi keys) k:=by
 have hf:fi keys k=fi keys j:=(xX hk (by omega)).2 he.symm;have hm:fi keys k∈nums (fi keys) k:=(fZ _ _ _).2 ⟨j,hj,hf.symm⟩;have hn:nums (fi keys) (k+1)=nums (fi keys) k:=by
  show put (nums (fi keys) k) (fi keys k)=_
  unfold put;rw[af9 (by simpa using hm)]
 refine⟨⟨?_,?_,?_⟩,hn⟩
 ·rw[Bd,h.eq,ai4,af2 hk,<-he];have h1:=EU (fi keys) k j hj;rw[h.eq,ao7,af9 hj,af2 (by omega)]at h1;rw[am2 h1,hf,nH _ _ _ hj];rfl
 ·intro v hv;rw[hn]at hv;obtain⟨i,h1,h2,h3⟩:=h.all v hv;exact⟨i,h1,by omega,h3⟩
 ·intro i h1 h2;rw[hn];by_cases e:i=k
  ·subst e;rw[<-he];exact h.lt j (by omega) hj
  ·exact h.lt i h1 (by omega)
theorem NC{keys:List UInt8}{k:Nat}(hk:k<keys.length)(hj:¬∃j,∃hj:j<k,keys[j]'(by omega)=keys[k]):(nums (fi keys) k).idxOf (fi keys k)=(nums (fi keys) k).length/\(nums (fi keys) (k+1)).length=(nums (fi keys) k).length+1:=by
 have hnm:fi keys k∉nums (fi keys) k:=λhm=>by
  obtain⟨j,h1,h2⟩:=(fZ _ _ _).1 hm;exact hj ⟨j,h1,(xX (by omega) hk).1 h2⟩
 refine⟨ak0 hnm,?_⟩
 show(put (nums (fi keys) k) (fi keys k)).length=_
 unfold put;rw[af6 (by simpa using hnm)];simp
theorem Can.next{keys:List UInt8}{k:Nat}(h:Can keys k)(hk:k<keys.length)(hj:¬∃j,∃hj:j<k,keys[j]'(by omega)=keys[k])(hc:keys[k].toNat=48+(nums (fi keys) k).length):Can keys (k+1):=by
 obtain⟨h1,h2⟩:=NC hk hj;refine⟨?_,?_,?_⟩
 ·rw[Bd,h.eq,ai4,af2 hk,h1,<-hc];simp
 ·intro v hv;rw[h2]at hv;by_cases e:v=(nums (fi keys) k).length
  ·subst e;exact⟨k,hk,by omega,hc⟩
  ·obtain⟨i,q1,q2,q3⟩:=h.all v (by omega);exact⟨i,q1,by omega,q3⟩
 ·intro i q1 q2;rw[h2];by_cases e:i=k
  ·subst e;omega
  ·have:=h.lt i q1 (by omega);omega
theorem QU{a b:UInt8}(h:a.toNat=b.toNat):a=b:=UInt8.toNat.inj h
theorem Bl(keys:List UInt8)(hl:keys.length<=100):∀(n k:Nat),n+k=keys.length->Can keys k->gu (keys.drop k) (((nums (fi keys) k).length:Int)-1)=if oW (fi keys) keys.length=keys then some ((keys.drop k).map λc=>(c.toNat:Int)-48)else none
 |0,k,hn,h=>by
  have hk:k=keys.length:=by omega
  subst hk;have h1:=h.eq;rw[ak8]at h1;rw[af9 h1,List.drop_length];rfl
 |n+1,k,hn,h=>by
  have hk:k<keys.length:=by omega
  have hnl:(nums (fi keys) k).length<=k:=nums_length _ _;rw[an6 hk];simp only[gu];by_cases hj:∃j,∃hj:j<k,keys[j]'(by omega)=keys[k]
  ·obtain⟨j,hj,he⟩:=hj;obtain⟨h1,h2⟩:=h.old hk hj he;have h3:=h.lt j (by omega) hj;rw[he]at h3;rw[af6 (by omega)];have hm:max (((nums (fi keys) k).length:Int)-1) ((keys[k].toNat:Int)-48)=((nums (fi keys) (k+1)).length:Int)-1:=(by rw[h2];omega);rw[hm,Bl keys hl n (k+1) (by omega) h1];by_cases e:oW (fi keys) keys.length=keys
   ·rw[af9 e,af9 e];rfl
   ·rw[af6 e,af6 e];rfl
  ·obtain⟨h1,h2⟩:=NC hk hj;by_cases hc:keys[k].toNat=48+(nums (fi keys) k).length
   ·rw[af6 (by omega)];have hm:max (((nums (fi keys) k).length:Int)-1) ((keys[k].toNat:Int)-48)=((nums (fi keys) (k+1)).length:Int)-1:=(by rw[h2];omega);rw[hm,Bl keys hl n (k+1) (by omega) (h.next hk hj hc)];by_cases e:oW (fi keys) keys.length=keys
    ·rw[af9 e,af9 e];rfl
    ·rw[af6 e,af6 e];rfl
   ·have hne:oW (fi keys) keys.length≠keys:=λe=>hc (by
     have h3:=EU (fi keys) keys.length k hk;rw[e,af2 hk,h1]at h3;rw[am2 h3];simp;omega)
    rw[af6 hne];by_cases hd:(keys[k].toNat:Int)-48<0\/((nums (fi keys) k).length:Int)-1+1<(keys[k].toNat:Int)-48
    ·rw[af9 hd]
    ·exfalso;obtain⟨j,q1,q2,q3⟩:=h.all (keys[k].toNat-48) (by omega);exact hj ⟨j,q2,QU (by omega)⟩
theorem XH(keys:List UInt8)(hl:keys.length<=100):gu keys (-1)=if oW (fi keys) keys.length=keys then some (keys.map λc=>(c.toNat:Int)-48)else none:=by
 have h:=Bl keys hl keys.length 0 rfl (Vq keys);simpa[nums]using h
theorem vU(f:Nat->Nat)(k:Nat):(oW f k).length=k:=by simp[oW]
theorem OE(m:ByteArray)(n c:Nat)(hn:n<=100)(hs:m.size=n+1+c):au.parse n c m.data.toList=if wrt (fi (m.data.toList.take n)) n (hlo m n c)=m.data.toList then some ((m.data.toList.take n).map λc=>(c.toNat:Int)-48,hlo m n c)else none:=by
 have hl:m.data.toList.length=n+1+c:=by rw[<-hs];simp
 rw[Hz m n c hs];generalize m.data.toList=l at *;have hlk:(l.take n).length=n:=by rw[al0];omega
 have hsp:l=l.take n++[l.getD n 0]++l.drop (n+1):=by
  have h1:n<l.length:=by omega
  rw[ag8,af2 h1];have h2:=ar2 n l;rw[an6 h1]at h2;simp
 have hcl:=XH (l.take n) (by omega);rw[hlk]at hcl;have hho:=Ap (l.drop (n+1));have key:wrt (fi (l.take n)) n ((l.drop (n+1)).map (·==49))=l↔oW (fi (l.take n)) n=l.take n/\l.getD n 0=47/\bits ((l.drop (n+1)).map (·==49))=l.drop (n+1):=by
  unfold wrt;constructor
  ·intro e;have e1:=e.trans hsp;rw[ak6,ak6]at e1;obtain⟨e2,e3⟩:=List.append_inj e1 (by rw[vU,hlk]);obtain⟨e4,e5⟩:=List.append_inj e3 rfl;exact⟨e2,(List.cons.inj e4).1.symm,e5⟩
  ·rintro⟨e1,e2,e3⟩;rw[e1,e3,<-e2];exact hsp.symm
 unfold au.parse;by_cases h47:l.getD n 0=47
 ·rw[af6 (by rw[h47];simp[hl])];rw[hcl,hho];by_cases h1:oW (fi (l.take n)) n=l.take n
  ·rw[af9 h1];by_cases h2:bits ((l.drop (n+1)).map (·==49))=l.drop (n+1)
   ·rw[af9 h2,af9 (key.2 ⟨h1,h47,h2⟩)];rfl
   ·rw[af6 h2,af6 (λe=>h2 (key.1 e).2.2)];rfl
  ·rw[af6 h1,af6 (λe=>h1 (key.1 e).1)]
 ·rw[af9 (Or.inr h47),af6 (λe=>h47 (key.1 e).2.1)]
end
section
open Go.RowKit
open au (St put cut gu gq)
theorem LQ(w:World)(s m:ByteArray)(hm:s.size<=maxLen)(hE:(zF s).1≠0) :
  Calls prog 39 #[.string s,.string m] w λe w'=>e=.returned (.tuple #[.bool false,.int .i64 (zF s).1])/\Below w.heap.size w w':=by
 have HR:=aj (λw=>D7 w s hm);generalize zF s=c at HR hE;have hb:(c.1 != 0)=true:=by simpa using hE
 go_enter func39,ntmps39
 go_wp2_with fail
 refine((ah HR) _).mono ?_;rintro e w1 ⟨rfl,h1⟩
 go_wp2_with fail
 go_ret2
 exact⟨rfl,h1⟩
def Ef(s m:ByteArray)(T C:List (List UInt8)):Bool×Int:=
 match au.parse T.length C.length m.data.toList with
 |none=>(false,6)
 |some (cl,hl)=>(snd T C cl hl&&Eb s cl hl,0)
theorem Qz(w:World)(s m:ByteArray)(hs:s.size<=100)(hm:m.size<=maxLen)(τ:St)(HT:Hid (gQ s=τ))(hE:τ.E=0)(hlt:¬τ.a<s.size)(h7:τ.T.length<=7)(h4:τ.C.length<=4)(hG:NI τ.T τ.C) :
  Calls prog 39 #[.string s,.string m] w λe w'=>e=.returned (.tuple #[.bool (Ef s m τ.T τ.C).1,.int .i64 (Ef s m τ.T τ.C).2])/\Below w.heap.size w w':=by
 have HR:=aj (BX w s hs τ HT hE hlt h7 h4);have HP:=aj (fun(w1:World) (v4 v5:Value) c4 c5 r4 r5=>parse_any w1 w.heap.size m v4 v5 τ.T τ.C h7 h4 hm c4 c5 r4 r5);have HS:=aj (fun(w1:World) (cl:List Int) (hl:List Bool) (k1 k2 v4 v5:Value) h1 h2 h=>zn w1 w.heap.size τ.T τ.C cl hl k1 k2 v4 v5 hG h7 h4 h1 h2 h);have HV:=aj (fun(w1:World) (cl:List Int) (hl:List Bool) (k1 k2:Value) h1 h2 h=>FY w1 s k1 k2 cl hl hs (by rw[ah HT];exact hE) (by rw[ah HT];exact h1) (by rw[ah HT];exact h2) h);obtain⟨r,hr⟩:∃r,Ef s m τ.T τ.C=r:=⟨_,rfl⟩;rw[hr];have HRS:=aj hr;clear hr
 go_enter func39,ntmps39
 go_wp2_with fail
 refine(ah HR).mono ?_;rintro e w1 ⟨rfl,h1,hI⟩;obtain⟨v4,v5,c4,c5,r4,r5,_⟩:=hI.rows;have hlt1:=hI.lt;have R4:=aj (fE r4 (ah9 _));have R5:=aj (fE r5 (ah9 _));clear hI HR r4 r5
 go_wp2_with fail
 refine(ah HP w1 v4 v5 c4 c5 (ah R4) (ah R5)).mono ?_;rintro e w2 ⟨h2,a1,n1,e1,a2,n2,e2,ok,rfl,hok,hcs⟩;have hb2:Below w.heap.size w w2:=h1.trans ⟨h2.os,h2.tape,h2.output,h2.size,λj hj=>h2.block j (by have:=h1.size;omega)⟩;have d4:=(h2.cell (p:=⟨w.heap.size,4,none⟩) hlt1).trans c4;have d5:=(h2.cell (p:=⟨w.heap.size,5,none⟩) hlt1).trans c5;have hg2:w1.grownBy w2 none:=⟨h2.os,h2.tape,h2.output,h2.size,λj hj _=>h2.block j hj⟩;have HCS:=aj hcs;clear hcs;cases hp:au.parse τ.T.length τ.C.length m.data.toList with
 |none=>
  rw[hp]at hok;simp only[Option.isSome]at hok;subst hok;have HPN:=aj hp;clear hp
  go_wp2_with fail
  go_ret2
  have hr:=ah HRS;unfold Ef at hr;rw[ah HPN]at hr;exact⟨by rw[<-hr];rfl,hb2.alloc hb2.size _⟩
 |some x=>
  obtain⟨cl,hl⟩:=x;rw[hp]at hok;simp only[Option.isSome]at hok;subst hok;have hcs:=ah HCS cl hl hp;obtain⟨l1,l2,_⟩:=Em hp;have HPN:=aj hp;clear hp
  go_wp2_with fail
  obtain⟨w3,hw3⟩:∃w3,w2.alloc (.cells #[.slice a1 n1 e1,.slice a2 n2 e2] 118)=w3:=⟨_,rfl⟩;have h3:Below w2.heap.size w2 w3:=by rw[<-hw3];exact(ai7 _ _).alloc (af0 _) _
  have y0:w3.cell? ⟨w2.heap.size,0,none⟩=some (.slice a1 n1 e1):=by rw[<-hw3];simp[go_sem]
  have y1:w3.cell? ⟨w2.heap.size,1,none⟩=some (.slice a2 n2 e2):=by rw[<-hw3];simp[go_sem]
  have hs3:w2.heap.size<w3.heap.size:=by rw[<-hw3];simp
  rw[hw3];clear hw3;have hg3:w1.grownBy w3 none:=hg2.trans ⟨h3.os,h3.tape,h3.output,h3.size,λj hj _=>h3.block j hj⟩;have hlt2:w.heap.size<w2.heap.size:=ah4 hlt1 h2.size;have hSn:nO (w3.alloc (.cells #[.slice a1 n1 e1,.slice a2 n2 e2] 118)) w.heap.size w3.heap.size τ.T τ.C cl hl (.slice a1 n1 e1) (.slice a2 n2 e2) v4 v5:=by
   have hg4:w1.grownBy (w3.alloc (.cells #[.slice a1 n1 e1,.slice a2 n2 e2] 118)) none:=hg3.trans (ae9 _ _ none);have hb4:Below w2.heap.size w2 (w3.alloc (.cells #[.slice a1 n1 e1,.slice a2 n2 e2] 118)):=h3.alloc h3.size _;refine⟨hg4.cell c4 (by simp),hg4.cell c5 (by simp),by simp[go_sem],by simp[go_sem],(ah R4).kept hg4 (as9 _),(ah R5).kept hg4 (as9 _),(hcs.below hb4).up (by omega)⟩
  refine(ah HS w3 cl hl (.slice a1 n1 e1) (.slice a2 n2 e2) v4 v5 (by omega) (by omega) hSn).mono ?_;rintro e w4 ⟨rfl,h4'⟩;have hb24:Below w2.heap.size w2 w4:=h3.trans ⟨h4'.os,h4'.tape,h4'.output,h4'.size,λj hj=>h4'.block j (by omega)⟩;have y0':=(h4'.cell (p:=⟨w2.heap.size,0,none⟩) hs3).trans y0;have y1':=(h4'.cell (p:=⟨w2.heap.size,1,none⟩) hs3).trans y1;have abv:CS w4 w4.heap.size (.slice a1 n1 e1) (.slice a2 n2 e2) cl hl:=(hcs.below hb24).up hb24.size;clear hSn;have HV2:=aj (ah HV w4 cl hl (.slice a1 n1 e1) (.slice a2 n2 e2) (by omega) (by omega) abv);have hr:=ah HRS;unfold Ef at hr;rw[ah HPN]at hr;simp only at hr;have HR3:=aj hr;clear hr HRS;generalize snd τ.T τ.C cl hl=q1 at HR3 ⊢;generalize Eb s cl hl=q2 at HR3 HV2;clear HV HS abv
  go_wp2_with fail
  refine(ah HV2).mono ?_;rintro e w5 ⟨rfl,h5⟩;have hb5:Below w.heap.size w w5:=(hb2.trans ⟨hb24.os,hb24.tape,hb24.output,hb24.size,λj hj=>hb24.block j (by omega)⟩).trans ⟨h5.os,h5.tape,h5.output,h5.size,λj hj=>h5.block j (by have:=hb24.size;omega)⟩;cases q1
  ·go_wp2_with fail
   go_ret2
   exact⟨by rw[<-ah HR3];simp,hb5⟩
  ·go_wp2_with fail
   go_ret2
   exact⟨by rw[<-ah HR3];simp,hb5⟩
end
section
open Go.RowKit Go.Maps Go.WideMaps
open au (Key put St bI iG)
def hld(m:ByteArray)(ts:List Key)(cs:List (Int×Nat))(ps:List Key)(cl:List Int):Bool×Int:=
 if m.size=ts.length+1+cs.length/\wrt (fi (m.data.toList.take ts.length)) ts.length (hlo m ts.length cs.length)=m.data.toList then(isM (fi (m.data.toList.take ts.length)) ts cs ps cl (hlo m ts.length cs.length),0)else(false,6)
end
section
open au (Key Inv iZ texts rend dw jy Bal inn kT rO iG)
theorem IK{ts:List Key}{cs:List (Int×Nat)}(h:Inv ts)(hc:iZ ts cs){cl:List Int}{hl:List Bool}{f:Nat->Nat}(hcl:∀i j,i<ts.length->j<ts.length->(f i=f j↔cl.getD i 0=cl.getD j 0)){i k:Nat}(hi:i<cs.length)(hk:k<cs.length) :
  BF (texts ts) (ctx ts cs) cl hl i k=true↔(cs[i].1=cs[k].1/\f cs[i].2=f cs[k].2)/\hl.getD i false≠hl.getD k false:=by
 have b:∀x,x<ts.length->Bal ((texts ts).getD x []):=λx hx=>h.bal (x+1) x (by omega) hx;have e:∀j (hj:j<cs.length),(ctx ts cs).getD j []=UInt8.ofNat cs[j].1.toNat::40::((texts ts).getD cs[j].2 []++[41]):=λj hj=>by
  rw[ag8];simp[ctx,hj,dw]
 obtain⟨p1,p2⟩:=hc _ (af4 hi);obtain⟨q1,q2⟩:=hc _ (af4 hk);unfold BF;rw[e i hi,e k hk,kT (b _ p2),kT (b _ q2),ER h cl p2 q2,hcl _ _ p2 q2];have hh:((UInt8.ofNat cs[i].1.toNat::40::((texts ts).getD cs[i].2 []++[41])).headD 0=(UInt8.ofNat cs[k].1.toNat::40::((texts ts).getD cs[k].2 []++[41])).headD 0)↔cs[i].1=cs[k].1:=by
  simp only[List.headD_cons];rcases p1 with p1|p1<;>rcases q1 with q1|q1<;>rw[p1,q1]<;>decide
 simp only[ao4,ak4];rw[hh];constructor
 ·rintro⟨⟨a,b⟩,c⟩;exact⟨⟨a,c⟩,b⟩
 ·rintro⟨⟨a,c⟩,b⟩;exact⟨⟨a,b⟩,c⟩
theorem Gj{ts:List Key}{cs:List (Int×Nat)}(h:Inv ts)(hc:iZ ts cs){cl:List Int}{hl:List Bool}{f:Nat->Nat}(hcl:∀i j,i<ts.length->j<ts.length->(f i=f j↔cl.getD i 0=cl.getD j 0)) :
  snd (texts ts) (ctx ts cs) cl hl=(decide (∀p∈dJ (mkd f ts) ts.length,f p.1=f p.2)&&decide (∀p∈dJ (OO f cs) cs.length,hl.getD p.1 false=hl.getD p.2 false)):=by
 have hA:=uM (mkd f ts) (λi j=>f i=f j) (λ_=>rfl) (λ_ _ e=>e.symm) (λ_ _ _ e1 e2=>e1.trans e2);have hB:=uM (OO f cs) (λi j=>hl.getD i false=hl.getD j false) (λ_=>rfl) (λ_ _ e=>e.symm) (λ_ _ _ e1 e2=>e1.trans e2);rw[aZ]at hA;rw[zW]at hB;have Vb:(ctx ts cs).length=cs.length:=by simp[ctx]
 rw[au2,ao4,ak4,ak4,hA,hB];unfold snd;rw[ao4,ao3,ao3,au.aW,Vb];constructor
 ·rintro⟨s1,s2⟩;refine⟨λi j hi hj e=>?_,λi j hi hj e=>?_⟩
  ·have h1:=ao3.1 (s1 i (aj9.2 hi)) j (aj9.2 hj);have h2:¬yF (texts ts) cl i j=true:=(by simpa using h1);rw[IJ h hcl hi hj]at h2;simp only[mkd,ak7,af2 hi,af2 hj,aq2,ak5,as4]at e;exact ai0 λn=>h2 ⟨e,n⟩
  ·have h1:=ao3.1 (s2 i (aj9.2 hi)) j (aj9.2 hj);have h2:¬BF (texts ts) (ctx ts cs) cl hl i j=true:=(by simpa using h1);rw[IK h hc hcl hi hj]at h2;simp only[OO,ak7,af2 hi,af2 hj,aq2,ak5,as4]at e;exact ai0 λn=>h2 ⟨e,n⟩
 ·rintro⟨s1,s2⟩;refine⟨λi hi=>ao3.2 λj hj=>?_,λi hi=>ao3.2 λj hj=>?_⟩
  ·have hi':=aj9.1 hi;have hj':=aj9.1 hj;have h2:¬yF (texts ts) cl i j=true:=by
    rw[IJ h hcl hi' hj'];rintro⟨e,n⟩;exact n (s1 i j hi' hj' (by simp[mkd,hi',hj',e]))
   simpa using h2
  ·have hi':=aj9.1 hi;have hj':=aj9.1 hj;have h2:¬BF (texts ts) (ctx ts cs) cl hl i j=true:=by
    rw[IK h hc hcl hi' hj'];rintro⟨e,n⟩;exact n (s2 i j hi' hj' (by simp[OO,hi',hj',e]))
   simpa using h2
def ZJ(m:ByteArray)(n:Nat):List Int:=(m.data.toList.take n).map λc=>(c.toNat:Int)-48
theorem UW(m:ByteArray)(n c:Nat)(hs:m.size=n+1+c):∀i j,i<n->j<n->(fi (m.data.toList.take n) i=fi (m.data.toList.take n) j↔(ZJ m n).getD i 0=(ZJ m n).getD j 0):=by
 intro i j hi hj;have hl:(m.data.toList.take n).length=n:=by
  have:m.data.toList.length=m.size:=by simp
  rw[al0];omega
 have hi':i<(m.data.toList.take n).length:=by omega
 have hj':j<(m.data.toList.take n).length:=by omega
 rw[xX hi' hj'];unfold ZJ;rw[ag8,ag8,ak7,ak7,af2 hi',af2 hj'];simp only[aq2,Option.getD_some];constructor
 ·intro e;rw[e]
 ·intro e;exact QU (by omega)
theorem Ua(s m:ByteArray)(ts:List Key)(cs:List (Int×Nat))(ps:List Key)(hR:au.jq (pk s) (s.size+1) 0 0 [] [] []=.ok (s.size,ts,cs,ps,ps.length-1))(h7:ts.length<=7)(hi:Inv ts)(hic:iZ ts cs) :
  Ef s m (texts ts) (ctx ts cs)=hld m ts cs ps (ZJ m ts.length):=by
 have Vb:(ctx ts cs).length=cs.length:=by simp[ctx]
 unfold Ef hld;rw[au.aW,Vb];by_cases hs:m.size=ts.length+1+cs.length
 ·rw[OE m ts.length cs.length (by omega) hs];by_cases hw:wrt (fi (m.data.toList.take ts.length)) ts.length (hlo m ts.length cs.length)=m.data.toList
  ·rw[af9 hw,af9 ⟨hs,hw⟩];simp only;have hcl:=UW m ts.length cs.length hs;have e1:=Gj hi hic (hl:=hlo m ts.length cs.length) hcl;have e2:=FZ s (ZJ m ts.length) (hlo m ts.length cs.length) ts cs ps _ hR;unfold ZJ at e1 e2;rw[e1,e2];rfl
  ·rw[af6 hw,af6 (λh=>hw h.2)]
 ·have hp:au.parse ts.length cs.length m.data.toList=none:=by
   unfold au.parse;rw[af9 (Or.inl (by simpa using hs))]
  rw[hp,af6 (λh=>hs h.1)]
end
open Go.RowKit
open au (St put Key)
def uV(s m:ByteArray):Bool×Int:=if s.size<=100/\(chk s).1=0 then Ef s m (gQ s).T (gQ s).C else(false,(chk s).1)
theorem Bo{s:ByteArray}(h:¬(s.size<=100/\(chk s).1=0)):(chk s).1≠0:=by
 intro h0;refine h ⟨?_,h0⟩;unfold chk at h0;by_cases h1:100<s.size
 ·rw[af9 h1]at h0;simp at h0
 ·omega
theorem LU(w:World)(s m:ByteArray)(hm:s.size<=maxLen)(hmm:m.size<=maxLen) :
  Calls prog 39 #[.string s,.string m] w λe w'=>e=.returned (.tuple #[.bool (uV s m).1,.int .i64 (uV s m).2])/\Below w.heap.size w w':=by
 unfold uV;by_cases h:s.size<=100/\(chk s).1=0
 ·rw[af9 h];obtain⟨ts,cs,ps,h1,h2,h3,h4,h5,h6,h7,h8,h9,h10,_,h12⟩:=l9 s h.1 h.2;have hT:(gQ s).T=au.texts ts:=by rw[h6]
  have hC:(gQ s).C=ctx ts cs:=by rw[h6]
  exact Qz w s m h.1 hmm (gQ s) (aj rfl) (by rw[h6]) (by rw[h6];simp) (by rw[hT,au.aW];exact h2) (by rw[hC,show(ctx ts cs).length=cs.length by simp[ctx]];exact h3) (by rw[hT,hC];exact AQ h4 h5 h7 h8)
 ·rw[af6 h];have g:=LQ w s m hm (by rw[uJ];exact Bo h);rw[uJ]at g;exact g
end Go.Proofs.YthcppbmkacbbiaaGreat
