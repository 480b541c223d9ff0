import Derived.Test.YthcppbmkacbbiaaGreatXAS
import Derived.Test.YthcppbmkacbbiaaGreatXAU
set_option linter.unusedSimpArgs false
set_option maxHeartbeats 4000000
set_option maxRecDepth 100000
namespace Go.Proofs.YthcppbmkacbbiaaGreat
open Go.Proofs.Tryz
namespace Ast
open aB
def mkK(σ:Nat->Nat)(k:Key):Key:=(k.1,if k.1=102\/k.1=103 then σ k.2.1 else k.2.1,if k.1=103 then σ k.2.2 else k.2.2)
def Arg(n:Nat)(k:Key):Prop:=(k.1=102\/k.1=103->k.2.1<n)/\(k.1=103->k.2.2<n)
theorem mk_congr{σ τ:Nat->Nat}{n:Nat}(h:∀i,i<n->σ i=τ i){k:Key}(hk:Arg n k):mkK σ k=mkK τ k:=by
 unfold mkK
 congr 2
 ·by_cases e:k.1=102\/k.1=103
  ·rw[ad3 e,ad3 e,h _ (hk.1 e)]
  ·rw[ac2 e,ac2 e]
 ·by_cases e:k.1=103
  ·rw[ad3 e,ad3 e,h _ (hk.2 e)]
  ·rw[ac2 e,ac2 e]
theorem mk_inj{σ:Nat->Nat}{n:Nat}(h:∀i j,i<n->j<n->σ i=σ j->i=j){k l:Key}(hk:Arg n k)(hl:Arg n l)(e:mkK σ k=mkK σ l):k=l:=by
 obtain⟨a,x,y⟩:=k;obtain⟨b,u,v⟩:=l;unfold mkK at e;simp only[an2]at e;obtain⟨e1,e2,e3⟩:=e;subst e1;unfold Arg at hk hl;simp only at hk hl;have h1:x=u:=by
  by_cases q:a=102\/a=103
  ·rw[ad3 q,ad3 q]at e2;exact h _ _ (hk.1 q) (hl.1 q) e2
  ·rw[ac2 q,ac2 q]at e2;exact e2
 have h2:y=v:=by
  by_cases q:a=103
  ·rw[ad3 q,ad3 q]at e3;exact h _ _ (hk.2 q) (hl.2 q) e3
  ·rw[ac2 q,ac2 q]at e3;exact e3
 rw[h1,h2]
structure Q9(σ:Nat->Nat)(ts ts':List Key):Prop where
 at_:∀i (h:i<ts.length),∃h':σ i<ts'.length,ts'[σ i]=mkK σ ts[i]
 inj:∀i j,i<ts.length->j<ts.length->σ i=σ j->i=j
 arg:∀i (h:i<ts.length),Arg ts.length ts[i]
 nd:ts'.Nodup
theorem FH{n m:Nat}{k:Key}(h:Arg n k)(hm:n<=m):Arg m k:=⟨λq=>ac7 (h.1 q) hm,λq=>ac7 (h.2 q) hm⟩
theorem idx_eq{α:Type}[BEq α][LawfulBEq α]{l:List α}(h:l.Nodup){i:Nat}(hi:i<l.length){k:α}(e:l[i]=k):l.idxOf k=i:=by
 have hm:k∈l:=e▸ab5 hi;have h1:l.idxOf k<l.length:=ae7 hm;have h2:l[l.idxOf k]=l[i]:=by rw[af5 h1,e]
 exact lU h h1 hi h2
theorem BD{α:Type}[BEq α][LawfulBEq α]{l:List α}(h:l.Nodup)(k:α):(put l k).Nodup:=lN k h
theorem oP{α:Type}[BEq α][LawfulBEq α]{l:List α}{k:α}(h:k∈l):put l k=l:=by
 unfold aB.put;rw[ad3 (by simpa using h)]
theorem pV{α:Type}[BEq α][LawfulBEq α]{l:List α}{k:α}(h:k∉l):put l k=l++[k]:=by
 unfold aB.put;rw[ac2 (by simpa using h)]
theorem pX{α:Type}[BEq α][LawfulBEq α](l:List α)(k:α):∃h:l.idxOf k<(put l k).length,(put l k)[l.idxOf k]=k:=by
 by_cases hm:k∈l
 ·have h:=ae7 hm;rw[oP hm];exact⟨h,af5 h⟩
 ·have e:=ag0 hm;rw[pV hm,e];exact⟨by simp,by simp⟩
theorem pW{α:Type}[BEq α][LawfulBEq α](l:List α)(k:α){i:Nat}(h:i<l.length):∃h':i<(put l k).length,(put l k)[i]=l[i]:=by
 by_cases hm:k∈l
 ·rw[oP hm];exact⟨h,rfl⟩
 ·rw[pV hm];exact⟨by simp;omega,ae2 h⟩
theorem CP{σ:Nat->Nat}{ts ts':List Key}(h:Q9 σ ts ts'){k:Key}(hk:Arg ts.length k) :
  ∃σ',(∀i,i<ts.length->σ' i=σ i)/\Q9 σ' (put ts k) (put ts' (mkK σ k))/\ts.idxOf k<(put ts k).length/\σ' (ts.idxOf k)=ts'.idxOf (mkK σ k):=by
 by_cases hm:k∈ts
 ·have h1:=ae7 hm;obtain⟨h2,e2⟩:=h.at_ _ h1;rw[af5 h1]at e2;have hm':mkK σ k∈ts':=e2▸ab5 h2;rw[oP hm,oP hm'];exact⟨σ,λ_ _=>rfl,h,h1,(idx_eq h.nd h2 e2).symm⟩
 ·have e1:=ag0 hm;have hl:(aB.put ts k).length=ts.length+1:=by rw[pV hm];simp
  obtain⟨τ,hτ⟩:∃τ:Nat->Nat,τ=λi=>if i<ts.length then σ i else ts'.idxOf (mkK σ k):=⟨_,rfl⟩
  have t1:∀i,i<ts.length->τ i=σ i:=λi hi=>by rw[hτ];simp[hi]
  have t2:τ ts.length=ts'.idxOf (mkK σ k):=by rw[hτ];simp
  have hmk:∀x,Arg ts.length x->mkK τ x=mkK σ x:=λx hx=>mk_congr t1 hx;refine⟨τ,t1,⟨λi hi=>?_,λi j hi hj e=>?_,λi hi=>?_,BD h.nd _⟩,by rw[e1,hl];omega,by rw[e1];exact t2⟩
  ·by_cases q:i<ts.length
   ·obtain⟨a1,a2⟩:=h.at_ i q;obtain⟨b1,b2⟩:=pW ts' (mkK σ k) a1;have c:(aB.put ts k)[i]=ts[i]:=(pW ts k q).2;rw[t1 i q,c,hmk _ (h.arg i q)];exact⟨b1,b2.trans a2⟩
   ·have q':i=ts.length:=(by omega);subst q';have c:(aB.put ts k)[ts.length]=k:=by
     have:=(pX ts k).2;simp only[e1]at this;exact this
    rw[t2,c,hmk _ hk];exact pX ts' (mkK σ k)
  ·have key:∀i,i<ts.length->τ i=τ ts.length->False:=λi hi e=>by
    rw[t1 i hi,t2]at e;obtain⟨a1,a2⟩:=h.at_ i hi;have hx:ts'.idxOf (mkK σ k)<ts'.length:=(by rw[<-e];exact a1);have hy:ts'[ts'.idxOf (mkK σ k)]=mkK σ k:=af5 hx;have hz:ts'[σ i]=mkK σ k:=by
     rw[<-hy]
     congr 1
    exact hm (mk_inj h.inj (h.arg i hi) hk (a2.symm.trans hz)▸ab5 hi)
   by_cases q1:i<ts.length
   ·by_cases q2:j<ts.length
    ·rw[t1 i q1,t1 j q2]at e;exact h.inj i j q1 q2 e
    ·have:j=ts.length:=(by omega);subst this;exact(key i q1 e).elim
   ·have q1':i=ts.length:=(by omega);subst q1';by_cases q2:j<ts.length
    ·exact(key j q2 e.symm).elim
    ·omega
  ·rw[hl];by_cases q:i<ts.length
   ·have c:(aB.put ts k)[i]=ts[i]:=(pW ts k q).2;rw[c];exact FH (h.arg i q) (by omega)
   ·have q':i=ts.length:=(by omega);subst q';have c:(aB.put ts k)[ts.length]=k:=by
     have:=(pX ts k).2;simp only[e1]at this;exact this
    rw[c];exact FH hk (by omega)
structure Ac(σ ρ:Nat->Nat)(n:Nat)(cs cs':List (Int×Nat)):Prop where
 at_:∀i (h:i<cs.length),∃h':ρ i<cs'.length,cs'[ρ i]=(cs[i].1,σ cs[i].2)
 arg:∀i (h:i<cs.length),cs[i].2<n
 nd:cs'.Nodup
theorem Fa{σ τ ρ:Nat->Nat}{n m:Nat}{cs cs':List (Int×Nat)}(h:Ac σ ρ n cs cs')(e:∀i,i<n->τ i=σ i)(hm:n<=m):Ac τ ρ m cs cs':=
 ⟨λi hi=>by rw[e _ (h.arg i hi)];exact h.at_ i hi,λi hi=>ac7 (h.arg i hi) hm,h.nd⟩
theorem Qc{σ ρ:Nat->Nat}{n:Nat}{cs cs':List (Int×Nat)}(h:Ac σ ρ n cs cs'){k:Int×Nat}(hk:k.2<n) :
  ∃ρ',(∀i,i<cs.length->ρ' i=ρ i)/\Ac σ ρ' n (put cs k) (put cs' (k.1,σ k.2))/\cs.idxOf k<(put cs k).length/\ρ' (cs.idxOf k)=cs'.idxOf (k.1,σ k.2):=by
 by_cases hm:k∈cs
 ·have h1:=ae7 hm;obtain⟨h2,e2⟩:=h.at_ _ h1;rw[af5 h1]at e2;have hm':(k.1,σ k.2)∈cs':=e2▸ab5 h2;rw[oP hm,oP hm'];exact⟨ρ,λ_ _=>rfl,h,h1,(idx_eq h.nd h2 e2).symm⟩
 ·have e1:=ag0 hm;have hl:(aB.put cs k).length=cs.length+1:=by rw[pV hm];simp
  obtain⟨τ,hτ⟩:∃τ:Nat->Nat,τ=λi=>if i<cs.length then ρ i else cs'.idxOf (k.1,σ k.2):=⟨_,rfl⟩
  have t1:∀i,i<cs.length->τ i=ρ i:=λi hi=>by rw[hτ];simp[hi]
  have t2:τ cs.length=cs'.idxOf (k.1,σ k.2):=by rw[hτ];simp
  have UG:(aB.put cs k)[cs.length]'(by omega)=k:=by
   have:=(pX cs k).2;simp only[e1]at this;exact this
  refine⟨τ,t1,⟨λi hi=>?_,λi hi=>?_,BD h.nd _⟩,by rw[e1,hl];omega,by rw[e1];exact t2⟩
  ·by_cases q:i<cs.length
   ·obtain⟨a1,a2⟩:=h.at_ i q;obtain⟨b1,b2⟩:=pW cs' (k.1,σ k.2) a1;have c:(aB.put cs k)[i]=cs[i]:=(pW cs k q).2;rw[t1 i q,c];exact⟨b1,b2.trans a2⟩
   ·have q':i=cs.length:=(by omega);subst q';rw[t2,UG];exact pX cs' (k.1,σ k.2)
  ·by_cases q:i<cs.length
   ·have c:(aB.put cs k)[i]=cs[i]:=(pW cs k q).2;rw[c];exact h.arg i q
   ·have q':i=cs.length:=(by omega);subst q';rw[UG];exact hk
def Bd(ts:List Key):Prop:=(∀i (h:i<ts.length),dM i ts[i])/\ts.Nodup
theorem yQ{ts:List Key}(h:Bd ts){k:Key}(hk:dM ts.length k):Bd (put ts k)/\ts.idxOf k<(put ts k).length:=by
 refine⟨⟨λi hi=>?_,BD h.2 k⟩,(pX ts k).1⟩;by_cases hm:k∈ts
 ·have e:=oP hm;have hi':i<ts.length:=by rw[e]at hi;exact hi
  rw[List.getElem_of_eq e];exact h.1 i hi'
 ·have e:=pV hm;rw[List.getElem_of_eq e];by_cases q:i<ts.length
  ·rw[ae2 q];exact h.1 i q
  ·have q':i=ts.length:=(by rw[e]at hi;simp at hi;omega);subst q';rw[ag4 (ab3 _)];simpa using hk
def Bf(n:Nat)(cs:List (Int×Nat)):Prop:=(∀i (h:i<cs.length),cs[i].2<n)/\cs.Nodup
theorem MC{n:Nat}{cs:List (Int×Nat)}(h:Bf n cs){k:Int×Nat}(hk:k.2<n):Bf n (put cs k):=by
 refine⟨λi hi=>?_,BD h.2 k⟩;by_cases hm:k∈cs
 ·have e:=oP hm;have hi':i<cs.length:=by rw[e]at hi;exact hi
  rw[List.getElem_of_eq e];exact h.1 i hi'
 ·have e:=pV hm;rw[List.getElem_of_eq e];by_cases q:i<cs.length
  ·rw[ae2 q];exact h.1 i q
  ·have q':i=cs.length:=(by rw[e]at hi;simp at hi;omega);subst q';rw[ag4 (ab3 _)];simpa using hk
theorem yP{n m:Nat}{cs:List (Int×Nat)}(h:Bf n cs)(hm:n<=m):Bf m cs:=⟨λi hi=>ac7 (h.1 i hi) hm,h.2⟩
def At(pk:Nat->Int)(a:Nat)(l:List UInt8):Prop:=∀i (h:i<l.length),pk (a+i)=(l[i].toNat:Int)
theorem At.left{pk:Nat->Int}{a:Nat}{l m:List UInt8}(h:At pk a (l++m)):At pk a l:=λi hi=>by
 have:=h i (by simp;omega);rw[ae2 hi]at this;exact this
theorem At.right{pk:Nat->Int}{a:Nat}{l m:List UInt8}(h:At pk a (l++m)):At pk (a+l.length) m:=λi hi=>by
 have:=h (l.length+i) (by simp;omega);rw[ag4 (by omega)]at this;simpa[Nat.add_assoc]using this
theorem At.head{pk:Nat->Int}{a:Nat}{c:UInt8}{m:List UInt8}(h:At pk a (c::m)):pk a=(c.toNat:Int):=h 0 (by simp)
theorem At.tail{pk:Nat->Int}{a:Nat}{c:UInt8}{m:List UInt8}(h:At pk a (c::m)):At pk (a+1) m:=λi hi=>by
 have:=h (i+1) (by simp;omega);simpa[Nat.add_assoc,Nat.add_comm 1]using this
theorem At.nil(pk:Nat->Int)(a:Nat):At pk a []:=λi h=>by simp at h
theorem At.cons{pk:Nat->Int}{a:Nat}{c:UInt8}{m:List UInt8}(h:pk a=(c.toNat:Int))(g:At pk (a+1) m):At pk a (c::m):=λi hi=>by
 cases i with
 |zero=>exact h
 |succ i=>
  have:=g i (by simpa using hi);simpa[Nat.add_assoc,Nat.add_comm 1]using this
theorem At.app{pk:Nat->Int}{a:Nat}{l m:List UInt8}(h:At pk a l)(g:At pk (a+l.length) m):At pk a (l++m):=λi hi=>by
 by_cases hl:i<l.length
 ·rw[ae2 hl];exact h i hl
 ·have:=g (i-l.length) (by simp at hi;omega);rw[ag4 (by omega),<-this]
  congr 1;omega
theorem cO{α:Type}[BEq α][LawfulBEq α](l:List α)(k:α):l <+: put l k:=by
 unfold aB.put;split
 ·exact ah5 _
 ·exact ak8 _ _
theorem put_mem{α:Type}[BEq α][LawfulBEq α](l:List α)(k:α):k∈put l k:=by
 unfold aB.put;by_cases h:k∈l
 ·rw[ad3 (by simpa using h)];exact h
 ·rw[ac2 (by simpa using h)];simp
theorem gu{α:Type}[BEq α][LawfulBEq α]{l m:List α}{k:α}(h:l <+: m)(hk:k∈l):m.idxOf k=l.idxOf k:=by
 obtain⟨r,rfl⟩:=h;rw[ai1,ad3 hk]
theorem wV{α:Type}[BEq α][LawfulBEq α](l:List α)(k:α):(put l k).idxOf k=l.idxOf k:=by
 by_cases h:k∈l
 ·exact gu (cO l k) h
 ·unfold aB.put;rw[ac2 (by simpa using h),ai1,ac2 h,ag0 h];simp
theorem pY{α:Type}[BEq α][LawfulBEq α]{l m:List α}{k:α}(h:put l k <+: m):put m k=m/\m.idxOf k=l.idxOf k:=by
 have hm:k∈m:=h.subset (put_mem l k);refine⟨by unfold aB.put;rw[ad3 (by simpa using hm)],?_⟩;rw[gu h (put_mem l k),wV]
structure zY(txt:List UInt8)(dep:Nat)(run:List Key->List Key×Nat):Prop where
 fst:∃c r,txt=c::r/\97<=c.toNat/\c.toNat<=103
 reads:∀(pk:Nat->Int) (n a d:Nat) (ts:List Key),At pk a txt->txt.length<=n->d<=8->
  (d+dep<=8->dO pk n a d ts=.ok (a+txt.length,(run ts).1,(run ts).2))/\(¬d+dep<=8->∃p,dO pk n a d ts=.error (3,p))
 nS:∀ts ts',(run ts).1 <+: ts'->run ts'=(ts',(run ts).2)
 grow:∀ts,ts <+: (run ts).1
 good:∀ts,Bd ts->Bd (run ts).1/\(run ts).2<(run ts).1.length
 nat:∀ts ts' σ,Q9 σ ts ts'->∃σ',(∀i,i<ts.length->σ' i=σ i)/\Q9 σ' (run ts).1 (run ts').1/\(run ts).2<(run ts).1.length/\σ' (run ts).2=(run ts').2
theorem Xc{c:UInt8}(h1:97<=c.toNat)(h2:c.toNat<=101):zY [c] 0 (λts=>(put ts ((c.toNat:Int),0,0),ts.idxOf ((c.toNat:Int),0,0))) where
 fst:=⟨c,[],rfl,h1,by omega⟩
 reads:=λpk n a d ts h hn hd=>by
  refine⟨λ_=>?_,λh=>absurd hd h⟩;cases n with
  |zero=>simp at hn
  |succ n=>
   have hp:=h.head;unfold dO;rw[hp,ad3 (by simp[isName];omega)];rfl
 nS:=λts ts' h=>by
  obtain⟨e1,e2⟩:=pY h;simp only;rw[e1,e2]
 grow:=λts=>cO _ _
 good:=λts h=>yQ h (Or.inl ⟨by show(97:Int)<=(c.toNat:Int);omega,by show(c.toNat:Int)<=101;omega,rfl,rfl⟩)
 nat:=λts ts' σ h=>by
  have n1:((c.toNat:Int),0,0).1≠(102:Int):=by show(c.toNat:Int)≠102;omega
  have n2:((c.toNat:Int),0,0).1≠(103:Int):=by show(c.toNat:Int)≠103;omega
  have hk:Arg ts.length ((c.toNat:Int),0,0):=⟨λq=>q.elim (λq=>absurd q n1) (λq=>absurd q n2),λq=>absurd q n2⟩;have e:mkK σ ((c.toNat:Int),0,0)=((c.toNat:Int),0,0):=by
   unfold mkK;rw[ac2 (λq=>q.elim (λq=>n1 q) (λq=>n2 q)),ac2 n2]
  have g:=CP h hk;rw[e]at g;exact g
theorem Zq{t:List UInt8}{dep:Nat}{run:List Key->List Key×Nat}(h:zY t dep run):zY (102::40::(t++[41])) (dep+1) (λts=>(put (run ts).1 (102,(run ts).2,0),(run ts).1.idxOf (102,(run ts).2,0))) where
 fst:=⟨102,_,rfl,by decide,by decide⟩
 reads:=λpk n a d ts hA hn hd=>by
  cases n with
  |zero=>simp at hn
  |succ n=>
   have hp:=hA.head;have hp1:=hA.tail.head;have hA2:=hA.tail.tail;have hp2:=hA2.right.head;have hr:=h.reads pk n (a+1+1) (d+1) ts hA2.left (by simp at hn;omega);have e0:pk a=102:=hp;have e1:pk (a+1)=40:=hp1;have e2:pk (a+1+1+t.length)=41:=hp2;unfold dO;rw[ac2 (by rw[e0];decide),ad3 e0];unfold arg1;rw[ad3 e1];constructor
   ·intro h8;rw[ac2 (by omega),(hr (by omega)).1 (by omega)];simp only[e2,ah9]
    show Except.ok _=_
    congr 2
    simp;omega
   ·intro h8;by_cases hd8:d=8
    ·rw[ad3 hd8];exact⟨_,rfl⟩
    ·rw[ac2 hd8];obtain⟨p,hp⟩:=(hr (by omega)).2 (by omega);rw[hp];exact⟨p,rfl⟩
 nS:=λts ts' hg=>by
  have h1:=h.nS ts ts' ((cO _ _).trans hg);obtain⟨e1,e2⟩:=pY hg;simp only;rw[h1];simp only;rw[e1,e2]
 grow:=λts=>(h.grow ts).trans (cO _ _)
 good:=λts hG=>by
  obtain⟨a,b⟩:=h.good ts hG;exact yQ a (Or.inr (Or.inl ⟨rfl,b,rfl⟩))
 nat:=λts ts' σ hE=>by
  obtain⟨σ1,e1,m1,l1,i1⟩:=h.nat ts ts' σ hE;have g:=CP m1 (k:=(102,(run ts).2,0)) ⟨λ_=>l1,λq=>absurd q (by show ¬(102:Int)=103;decide)⟩;have e:mkK σ1 (102,(run ts).2,0)=(102,(run ts').2,0):=by
   unfold mkK;simp[i1]
  rw[e]at g;obtain⟨σ2,e2,m2,l2,i2⟩:=g;exact⟨σ2,λi hi=>(e2 i (ac7 hi (h.grow ts).length_le)).trans (e1 i hi),m2,l2,i2⟩
theorem Zp{t u:List UInt8}{d1 d2:Nat}{r1 r2:List Key->List Key×Nat}(h:zY t d1 r1)(g:zY u d2 r2) :
  zY (103::40::(t++44::(u++[41]))) (max d1 d2+1) (λts=>(put (r2 (r1 ts).1).1 (103,(r1 ts).2,(r2 (r1 ts).1).2),(r2 (r1 ts).1).1.idxOf (103,(r1 ts).2,(r2 (r1 ts).1).2))) where
 fst:=⟨103,_,rfl,by decide,by decide⟩
 reads:=λpk n a d ts hA hn hd=>by
  cases n with
  |zero=>simp at hn
  |succ n=>
   have hA2:=hA.tail.tail;have hA3:=hA2.right.tail;have e0:pk a=103:=hA.head;have e1:pk (a+1)=40:=hA.tail.head;have e2:pk (a+1+1+t.length)=44:=hA2.right.head;have e3:pk (a+1+1+t.length+1+u.length)=41:=hA3.right.head;have hr:=h.reads pk n (a+1+1) (d+1) ts hA2.left (by simp at hn;omega);have gr:=g.reads pk n (a+1+1+t.length+1) (d+1) (r1 ts).1 hA3.left (by simp at hn;omega);unfold dO;rw[ac2 (by rw[e0];decide),ac2 (by rw[e0];decide),ad3 e0];unfold arg2;rw[ad3 e1];by_cases hd8:d=8
   ·rw[ad3 hd8];exact⟨λh=>by omega,λ_=>⟨_,rfl⟩⟩
   ·rw[ac2 hd8];by_cases q1:d+1+d1<=8
    ·rw[(hr (by omega)).1 q1];simp only[e2,ah9];by_cases q2:d+1+d2<=8
     ·rw[(gr (by omega)).1 q2];simp only[e3,ah9];refine⟨λ_=>?_,λh=>by omega⟩
      show Except.ok _=_
      congr 2
      simp;omega
     ·obtain⟨p,hp⟩:=(gr (by omega)).2 q2;rw[hp];exact⟨λh=>by omega,λ_=>⟨p,rfl⟩⟩
    ·obtain⟨p,hp⟩:=(hr (by omega)).2 q1;rw[hp];exact⟨λh=>by omega,λ_=>⟨p,rfl⟩⟩
 nS:=λts ts' hg=>by
  have p2:(r2 (r1 ts).1).1 <+: ts':=(cO _ _).trans hg;have h1:=h.nS ts ts' ((g.grow _).trans p2);have h2:=g.nS (r1 ts).1 ts' p2;obtain⟨e1,e2⟩:=pY hg;simp only;rw[h1];simp only;rw[h2];simp only;rw[e1,e2]
 grow:=λts=>((h.grow ts).trans (g.grow _)).trans (cO _ _)
 good:=λts hG=>by
  obtain⟨a,b⟩:=h.good ts hG;obtain⟨a2,b2⟩:=g.good _ a;exact yQ a2 (Or.inr (Or.inr ⟨rfl,ac7 b (g.grow _).length_le,b2⟩))
 nat:=λts ts' σ hE=>by
  obtain⟨σ1,e1,m1,l1,i1⟩:=h.nat ts ts' σ hE;obtain⟨σ2,e2,m2,l2,i2⟩:=g.nat _ _ σ1 m1;have hg:=(g.grow (r1 ts).1).length_le;have k1:σ2 (r1 ts).2=(r1 ts').2:=(e2 _ l1).trans i1;have q:=CP m2 (k:=(103,(r1 ts).2,(r2 (r1 ts).1).2)) ⟨λ_=>ac7 l1 hg,λ_=>l2⟩;have e:mkK σ2 (103,(r1 ts).2,(r2 (r1 ts).1).2)=(103,(r1 ts').2,(r2 (r1 ts').1).2):=by
   unfold mkK;simp[k1,i2]
  rw[e]at q;obtain⟨σ3,e3,m3,l3,i3⟩:=q;exact⟨σ3,λi hi=>(e3 i (ac7 hi ((h.grow ts).trans (g.grow _)).length_le)).trans ((e2 i (ac7 hi (h.grow ts).length_le)).trans (e1 i hi)),m3,l3,i3⟩
theorem Gf{pk:Nat->Int}:∀(n a d:Nat) (ts:List Key) (a1:Nat) (aF:List Key) (m:Nat),dO pk n a d ts=.ok (a1,aF,m)->
  ∃txt dep run,zY txt dep run/\At pk a txt/\a1=a+txt.length:=by
 intro n
 induction n with
 |zero=>intro a d ts a1 aF m h;cases h
 |succ n ih=>
  intro a d ts a1 aF m h;unfold dO at h;by_cases hn:isName (pk a)=true
  ·rw[ad3 hn]at h;have hn':97<=pk a/\pk a<=101:=(by simpa[isName]using hn);obtain⟨c,hc⟩:∃c:UInt8,pk a=(c.toNat:Int):=⟨UInt8.ofNat (pk a).toNat,by simp;omega⟩;injection h with h
   injection h with h1 _
   exact⟨[c],0,_,Xc (by omega) (by omega),(At.nil pk _).cons hc,by simpa using h1.symm⟩
  ·rw[ac2 hn]at h;by_cases h102:pk a=102
   ·rw[ad3 h102]at h;unfold arg1 at h;by_cases h40:pk (a+1)=40
    ·rw[ad3 h40]at h;by_cases h8:d=8
     ·rw[ad3 h8]at h;cases h
     ·rw[ac2 h8]at h;rcases hr:dO pk n (a+1+1) (d+1) ts with e|⟨b,ts2,k⟩
      ·rw[hr]at h;cases h
      ·rw[hr]at h;simp only at h;by_cases h41:pk b=41
       ·rw[ad3 h41]at h;obtain⟨txt,dep,run,q1,q2,q3⟩:=ih _ _ _ _ _ _ hr;injection h with h
        injection h with h1 _
        subst q3;refine⟨_,_,_,Zq q1,At.cons h102 (At.cons h40 (q2.app ((At.nil pk _).cons h41))),?_⟩;rw[<-h1];simp;omega
       ·rw[ac2 h41]at h;cases h
    ·rw[ac2 h40]at h;cases h
   ·rw[ac2 h102]at h;by_cases h103:pk a=103
    ·rw[ad3 h103]at h;unfold arg2 at h;by_cases h40:pk (a+1)=40
     ·rw[ad3 h40]at h;by_cases h8:d=8
      ·rw[ad3 h8]at h;cases h
      ·rw[ac2 h8]at h;rcases hr:dO pk n (a+1+1) (d+1) ts with e|⟨b,ts2,k⟩
       ·rw[hr]at h;cases h
       ·rw[hr]at h;simp only at h;by_cases h44:pk b=44
        ·rw[ad3 h44]at h;rcases hr2:dO pk n (b+1) (d+1) ts2 with e|⟨b2,ts3,k2⟩
         ·rw[hr2]at h;cases h
         ·rw[hr2]at h;simp only at h;by_cases h41:pk b2=41
          ·rw[ad3 h41]at h;obtain⟨txt,dep,run,q1,q2,q3⟩:=ih _ _ _ _ _ _ hr;obtain⟨WZ,Y1,Xd,p1,p2,p3⟩:=ih _ _ _ _ _ _ hr2;injection h with h
           injection h with h1 _
           subst q3;subst p3;refine⟨_,_,_,Zp q1 p1,At.cons h103 (At.cons h40 (q2.app (At.cons h44 (p2.app ((At.nil pk _).cons h41))))),?_⟩;rw[<-h1];simp;omega
          ·rw[ac2 h41]at h;cases h
        ·rw[ac2 h44]at h;cases h
     ·rw[ac2 h40]at h;cases h
    ·rw[ac2 h103]at h;cases h
structure mF(txt:List UInt8)(dep:Nat)(run:List Key->List (Int×Nat)->List Key×List (Int×Nat))(val:List Int->List Bool->List Key->List (Int×Nat)->Bool):Prop where
 pos:0<txt.length
 reads:∀(pk:Nat->Int) (N n a d:Nat) (ts:List Key) (cs:List (Int×Nat)) (ps:List Key),(∀a,pk a≠0->a<N)->a<=N->At pk a txt->txt.length<=n->d<=8->aO ts.length cs.length ps->
  (d+dep<=8->∃ps1 m,iL pk n a d ts cs ps=.ok (a+txt.length,(run ts cs).1,(run ts cs).2,ps1,m)/\∀cl hl,(dR cl hl ps1).getD m false=val cl hl ts cs)/\(¬d+dep<=8->∃p,iL pk n a d ts cs ps=.error (3,p))
 nS:∀ts cs ts' cs',(run ts cs).1 <+: ts'->(run ts cs).2 <+: cs'->run ts' cs'=(ts',cs')/\∀cl hl,val cl hl ts' cs'=val cl hl ts cs
 grow:∀ts cs,ts <+: (run ts cs).1/\cs <+: (run ts cs).2
 good:∀ts cs,Bd ts->Bf ts.length cs->Bd (run ts cs).1/\Bf (run ts cs).1.length (run ts cs).2
 nat:∀ts cs ts' cs' σ ρ,Q9 σ ts ts'->Ac σ ρ ts.length cs cs'->∃σ' ρ',(∀i,i<ts.length->σ' i=σ i)/\(∀i,i<cs.length->ρ' i=ρ i)/\Q9 σ' (run ts cs).1 (run ts' cs').1/\Ac σ' ρ' (run ts cs).1.length (run ts cs).2 (run ts' cs').2/\
  ∀cl hl cl' hl',(∀i j,i<(run ts cs).1.length->j<(run ts cs).1.length->(cl.getD i 0=cl.getD j 0↔cl'.getD (σ' i) 0=cl'.getD (σ' j) 0))->(∀i,i<(run ts cs).2.length->hl.getD i false=hl'.getD (ρ' i) false)->val cl hl ts cs=val cl' hl' ts' cs'
theorem CB{a1 a':Nat}{aF:List Key}{cs1:List (Int×Nat)}{ps1:List Key}{q:Key}{val:List Int->List Bool->Bool}(h:aO aF.length cs1.length ps1)(hq:dF aF.length cs1.length ps1.length q)(ha:a1=a')(hv:∀cl hl,lD cl hl (dR cl hl ps1) q=val cl hl) :
  ∃ps2 m,uO (.ok (a1,aF,cs1,ps1,q))=.ok (a',aF,cs1,ps2,m)/\∀cl hl,(dR cl hl ps2).getD m false=val cl hl:=
 ⟨put ps1 q,ps1.idxOf q,by subst ha;rfl,λcl hl=>by rw[RJ h hq];exact hv cl hl⟩
theorem YV{t u:List UInt8}{d1 d2:Nat}{r1 r2:List Key->List Key×Nat}(h:zY t d1 r1)(g:zY u d2 r2) :
  mF (t++61::u) (max d1 d2) (λts cs=>((r2 (r1 ts).1).1,cs)) (λcl _ ts _=>decide (cl.getD (r1 ts).2 0=cl.getD (r2 (r1 ts).1).2 0)) where
 pos:=by rw[ae0,ab9];omega
 reads:=λpk N n a d ts cs ps hpk ha hA hn hd hi=>by
  cases n with
  |zero=>simp at hn
  |succ n=>
   obtain⟨c,r,hc,c1,c2⟩:=h.fst;have e0:pk a=(c.toNat:Int):=(by have:=hA.left;rw[hc]at this;exact this.head);have e1:pk (a+t.length)=61:=hA.right.head;have hr:=h.reads pk (n+1) a d ts hA.left (by simp at hn;omega) hd;have gr:=g.reads pk (n+1) (a+t.length+1) d (r1 ts).1 hA.right.tail (by simp at hn;omega) hd;have hok:=bQ hpk (n+1) a d ts ha;unfold iL;rw[ac2 (by rw[e0];omega),ac2 (by rw[e0];omega),ac2 (by rw[e0];omega)];unfold BA;by_cases q1:d+d1<=8
   ·rw[hr.1 q1]at hok ⊢;obtain⟨p1,p2,p3,p4,p5⟩:=hok;simp only[e1,ah9];have hlt:=hpk (a+t.length) (by rw[e1];decide);have hok2:=bQ hpk (n+1) (a+t.length+1) d (r1 ts).1 (by omega);by_cases q2:d+d2<=8
    ·rw[gr.1 q2]at hok2 ⊢;obtain⟨k1,k2,k3,k4,k5⟩:=hok2;exact⟨λ_=>CB (hi.more (by omega) (ab3 _)) (Or.inr (Or.inr (Or.inr ⟨rfl,by show(r1 ts).2<(r2 (r1 ts).1).1.length;omega,k5⟩))) (by simp;omega) (λcl hl=>by simp[lD]),λh=>by omega⟩
    ·obtain⟨p,hp⟩:=gr.2 q2;rw[hp];exact⟨λh=>by omega,λ_=>⟨p,rfl⟩⟩
   ·obtain⟨p,hp⟩:=hr.2 q1;rw[hp];exact⟨λh=>by omega,λ_=>⟨p,rfl⟩⟩
 nS:=λts cs ts' cs' h1 h2=>by
  have s1:=h.nS ts ts' ((g.grow _).trans h1);have s2:=g.nS (r1 ts).1 ts' h1;refine⟨?_,λcl hl=>?_⟩
  ·(try simp only);rw[s1];(try simp only);rw[s2]
  ·(try simp only);rw[s1];(try simp only);rw[s2]
 grow:=λts cs=>⟨(h.grow ts).trans (g.grow _),ah5 _⟩
 good:=λts cs hT hC=>⟨(g.good _ (h.good ts hT).1).1,yP hC ((h.grow ts).trans (g.grow _)).length_le⟩
 nat:=λts cs ts' cs' σ ρ hE hC=>by
  obtain⟨σ1,e1,m1,l1,i1⟩:=h.nat ts ts' σ hE;obtain⟨σ2,e2,m2,l2,i2⟩:=g.nat _ _ σ1 m1;have hg:=(g.grow (r1 ts).1).length_le;have k1:σ2 (r1 ts).2=(r1 ts').2:=(e2 _ l1).trans i1;have ee:∀i,i<ts.length->σ2 i=σ i:=λi hi=>(e2 i (ac7 hi (h.grow ts).length_le)).trans (e1 i hi);refine⟨σ2,ρ,ee,λ_ _=>rfl,m2,Fa hC ee ((h.grow ts).trans (g.grow _)).length_le,λcl hl cl' hl' q1 q2=>?_⟩;have q:=q1 _ _ (ac7 l1 hg) l2;rw[k1,i2]at q;exact decide_eq_decide.2 q
theorem YW{c:UInt8}(hc:c.toNat=80\/c.toNat=81){t:List UInt8}{dep:Nat}{r:List Key->List Key×Nat}(h:zY t dep r) :
  mF (c::40::(t++[41])) (dep+1) (λts cs=>((r ts).1,put cs ((c.toNat:Int),(r ts).2))) (λ_ hl ts cs=>hl.getD (cs.idxOf ((c.toNat:Int),(r ts).2)) false) where
 pos:=by simp
 reads:=λpk N n a d ts cs ps hpk ha hA hn hd hi=>by
  cases n with
  |zero=>simp at hn
  |succ n=>
   have hA2:=hA.tail.tail;have e0:pk a=(c.toNat:Int):=hA.head;have e1:pk (a+1)=40:=hA.tail.head;have e2:pk (a+1+1+t.length)=41:=hA2.right.head;have hr:=h.reads pk (n+1) (a+1+1) (d+1) ts hA2.left (by simp at hn;omega);have l0:=hpk a (by omega);have l1:=hpk (a+1) (by omega);have hok:=bQ hpk (n+1) (a+1+1) (d+1) ts (by omega);unfold iL;rw[ac2 (by omega),ac2 (by omega),ad3 (by omega)];unfold RD arg1;rw[ad3 e1];by_cases hd8:d=8
   ·rw[ad3 hd8];exact⟨λh=>by omega,λ_=>⟨_,rfl⟩⟩
   ·rw[ac2 hd8];by_cases q1:d+1+dep<=8
    ·rw[(hr (by omega)).1 q1]at hok ⊢;obtain⟨p1,p2,p3,p4,p5⟩:=hok;simp only[e2,ah9,e0];have q:=fM cs ((c.toNat:Int),(r ts).2);refine⟨λ_=>CB (hi.more p3 q.1) (Or.inr (Or.inr (Or.inl ⟨by show((c.toNat:Int)=80\/(c.toNat:Int)=81);omega,ji _ _,rfl⟩))) (by simp;omega) (λcl hl=>?_),λh=>by omega⟩;unfold lD;rw[ac2 (by show(c.toNat:Int)≠61;omega),ad3 (by show((c.toNat:Int)=80\/(c.toNat:Int)=81);omega)]
    ·obtain⟨p,hp⟩:=(hr (by omega)).2 q1;rw[hp];exact⟨λh=>by omega,λ_=>⟨p,rfl⟩⟩
 nS:=λts cs ts' cs' h1 h2=>by
  have s1:=h.nS ts ts' h1;obtain⟨e1,e2⟩:=pY h2;refine⟨?_,λcl hl=>?_⟩
  ·(try simp only);rw[s1];(try simp only);rw[e1]
  ·(try simp only);rw[s1];(try simp only);rw[e2]
 grow:=λts cs=>⟨h.grow ts,cO _ _⟩
 good:=λts cs hT hC=>⟨(h.good ts hT).1,MC (yP hC (h.grow ts).length_le) (h.good ts hT).2⟩
 nat:=λts cs ts' cs' σ ρ hE hC=>by
  obtain⟨σ1,e1,m1,l1,i1⟩:=h.nat ts ts' σ hE;have hC1:=Fa hC e1 (h.grow ts).length_le;obtain⟨ρ1,f1,n1,k1,j1⟩:=Qc hC1 (k:=((c.toNat:Int),(r ts).2)) l1;rw[i1]at n1 j1;refine⟨σ1,ρ1,e1,f1,m1,n1,λcl hl cl' hl' q1 q2=>?_⟩;have q:=q2 _ k1;rw[j1]at q;exact q
theorem YU{t:List UInt8}{dep:Nat}{run:List Key->List (Int×Nat)->List Key×List (Int×Nat)}{val:List Int->List Bool->List Key->List (Int×Nat)->Bool}(h:mF t dep run val) :
  mF (33::t) dep run (λcl hl ts cs=>!(val cl hl ts cs)) where
 pos:=by simp
 reads:=λpk N n a d ts cs ps hpk ha hA hn hd hi=>by
  cases n with
  |zero=>simp at hn
  |succ n=>
   have e0:pk a=33:=hA.head;have l0:=hpk a (by omega);have hr:=h.reads pk N n (a+1) d ts cs ps hpk (by omega) hA.tail (by simp at hn;omega) hd hi;have hf:=kN hpk n (a+1) d ts cs ps (by omega) hi;unfold iL;rw[ad3 e0];refine⟨λh8=>?_,λh8=>?_⟩
   ·obtain⟨ps1,m,hp,hv⟩:=hr.1 h8;rw[hp]at hf ⊢;obtain⟨f1,f2,f3,f4,f5⟩:=hf;refine CB f1 (Or.inl ⟨rfl,f2,rfl⟩) (by simp;omega) (λcl hl=>?_);unfold lD;rw[ac2 (by show(33:Int)≠61;decide),ac2 (by show ¬((33:Int)=80\/(33:Int)=81);decide),ad3 rfl]
    show(!(dR cl hl ps1).getD m false)=_
    rw[hv]
   ·obtain⟨p,hp⟩:=hr.2 h8;rw[hp];exact⟨p,rfl⟩
 nS:=λts cs ts' cs' h1 h2=>by
  obtain⟨s1,s2⟩:=h.nS ts cs ts' cs' h1 h2;exact⟨s1,λcl hl=>by(try simp only);rw[s2]⟩
 grow:=h.grow
 good:=h.good
 nat:=λts cs ts' cs' σ ρ hE hC=>by
  obtain⟨σ1,ρ1,e1,f1,m1,n1,v⟩:=h.nat ts cs ts' cs' σ ρ hE hC;exact⟨σ1,ρ1,e1,f1,m1,n1,λcl hl cl' hl' q1 q2=>by show(!_)=(!_);rw[v cl hl cl' hl' q1 q2]⟩
theorem P7{c:UInt8}(hc:au (c.toNat:Int)=true){t u:List UInt8}{d1 d2:Nat}{r1 r2:List Key->List (Int×Nat)->List Key×List (Int×Nat)}{v1 v2:List Int->List Bool->List Key->List (Int×Nat)->Bool}(h:mF t d1 r1 v1)(g:mF u d2 r2 v2) :
  mF (40::(t++c::(u++[41]))) (max d1 d2+1) (λts cs=>r2 (r1 ts cs).1 (r1 ts cs).2) (λcl hl ts cs=>jn (c.toNat:Int) (v1 cl hl ts cs) (v2 cl hl (r1 ts cs).1 (r1 ts cs).2)) where
 pos:=by simp
 reads:=λpk N n a d ts cs ps hpk ha hA hn hd hi=>by
  cases n with
  |zero=>simp at hn
  |succ n=>
   have hA2:=hA.tail;have hA3:=hA2.right.tail;have e0:pk a=40:=hA.head;have e1:pk (a+1+t.length)=(c.toNat:Int):=hA2.right.head;have e2:pk (a+1+t.length+1+u.length)=41:=hA3.right.head;have l0:=hpk a (by omega);have hc0:(c.toNat:Int)≠0:=λe=>by rw[e]at hc;simp[au]at hc
   have l1:=hpk (a+1+t.length) (by rw[e1];exact hc0);have hr:=h.reads pk N n (a+1) (d+1) ts cs ps hpk (by omega) hA2.left (by simp at hn;omega);have hf:=kN hpk n (a+1) (d+1) ts cs ps (by omega) hi;unfold iL;rw[ac2 (by omega),ad3 e0];unfold Kr;by_cases hd8:d=8
   ·rw[ad3 hd8];exact⟨λh=>by omega,λ_=>⟨_,rfl⟩⟩
   ·rw[ac2 hd8];by_cases q1:d+1+d1<=8
    ·obtain⟨ps1,m1,hp,hv⟩:=(hr (by omega) hi).1 q1;rw[hp]at hf ⊢;obtain⟨f1,f2,f3,f4,f5⟩:=hf;simp only[e1,hc,ah9];have gr:=g.reads pk N n (a+1+t.length+1) (d+1) (r1 ts cs).1 (r1 ts cs).2 ps1 hpk (by omega) hA3.left (by simp at hn;omega) (by omega) f1;have gf:=kN hpk n (a+1+t.length+1) (d+1) (r1 ts cs).1 (r1 ts cs).2 ps1 (by omega) f1;by_cases q2:d+1+d2<=8
     ·obtain⟨ps2,m2,gp,gv⟩:=gr.1 q2;rw[gp]at gf ⊢;obtain⟨g1,g2,g3,g4,g5⟩:=gf;simp only[e2,ah9];have hle:=g5.length_le;refine⟨λ_=>CB g1 (Or.inr (Or.inl ⟨hc,by show m1<ps2.length;omega,g2⟩)) (by simp;omega) (λcl hl=>?_),λh=>by omega⟩
      ·have e3:(dR cl hl ps2).getD m1 false=(dR cl hl ps1).getD m1 false:=kL (mV g5) (by rw[fK];exact f2);have n1:(c.toNat:Int)≠61:=λe=>by rw[e]at hc;simp[au]at hc
       have n2:¬((c.toNat:Int)=80\/(c.toNat:Int)=81):=λe=>by rcases e with e|e<;>(rw[e]at hc;simp[au]at hc)
       have n3:(c.toNat:Int)≠33:=λe=>by rw[e]at hc;simp[au]at hc
       unfold lD;rw[ac2 n1,ac2 n2,ac2 n3];simp only;rw[e3,hv,gv]
     ·obtain⟨p,hp⟩:=gr.2 q2;rw[hp];exact⟨λh=>by omega,λ_=>⟨p,rfl⟩⟩
    ·obtain⟨p,hp⟩:=(hr (by omega) hi).2 q1;rw[hp];exact⟨λh=>by omega,λ_=>⟨p,rfl⟩⟩
 nS:=λts cs ts' cs' h1 h2=>by
  obtain⟨w1,w2⟩:=g.grow (r1 ts cs).1 (r1 ts cs).2;obtain⟨s1,s2⟩:=h.nS ts cs ts' cs' (w1.trans h1) (w2.trans h2);obtain⟨s3,s4⟩:=g.nS (r1 ts cs).1 (r1 ts cs).2 ts' cs' h1 h2;refine⟨?_,λcl hl=>?_⟩
  ·(try simp only);rw[s1];exact s3
  ·(try simp only);rw[s2,s1];(try simp only);rw[s4]
 grow:=λts cs=>⟨(h.grow ts cs).1.trans (g.grow _ _).1,(h.grow ts cs).2.trans (g.grow _ _).2⟩
 good:=λts cs hT hC=>by
  obtain⟨a,b⟩:=h.good ts cs hT hC;exact g.good _ _ a b
 nat:=λts cs ts' cs' σ ρ hE hC=>by
  obtain⟨σ1,ρ1,e1,f1,m1,n1,w1⟩:=h.nat ts cs ts' cs' σ ρ hE hC;obtain⟨σ2,ρ2,e2,f2,m2,n2,w2⟩:=g.nat _ _ _ _ σ1 ρ1 m1 n1;have g1:=(h.grow ts cs).1.length_le;have g2:=(h.grow ts cs).2.length_le;have g3:=(g.grow (r1 ts cs).1 (r1 ts cs).2).1.length_le;have g4:=(g.grow (r1 ts cs).1 (r1 ts cs).2).2.length_le;refine⟨σ2,ρ2,λi hi=>(e2 i (by omega)).trans (e1 i hi),λi hi=>(f2 i (by omega)).trans (f1 i hi),m2,n2,λcl hl cl' hl' q1 q2=>?_⟩
  show jn _ _ _=jn _ _ _
  rw[w2 cl hl cl' hl' q1 q2,w1 cl hl cl' hl' (λi j hi hj=>?_) (λi hi=>?_)]
  ·rw[<-e2 i hi,<-e2 j hj];exact q1 i j (by omega) (by omega)
  ·rw[<-f2 i hi];exact q2 i (by omega)
theorem UZ{pk:Nat->Int}(hb:∀a,0<=pk a/\pk a<=255):∀(n a d:Nat) (ts:List Key) (cs:List (Int×Nat)) (a1:Nat) (aF:List Key) (cs1:List (Int×Nat)),Bz pk n a d ts cs=.ok (a1,aF,cs1)->
  ∃txt dep run val,mF txt dep run val/\At pk a txt/\a1=a+txt.length:=by
 have byte:∀a,∃c:UInt8,pk a=(c.toNat:Int):=λa=>⟨UInt8.ofNat (pk a).toNat,by have:=hb a;simp;omega⟩;intro n
 induction n with
 |zero=>intro a d ts cs a1 aF cs1 h;cases h
 |succ n ih=>
  intro a d ts cs a1 aF cs1 h;unfold Bz at h;by_cases h33:pk a=33
  ·rw[ad3 h33]at h;obtain⟨txt,dep,run,val,q1,q2,q3⟩:=ih _ _ _ _ _ _ _ h;exact⟨_,_,_,_,YU q1,At.cons h33 q2,by rw[q3];simp;omega⟩
  ·rw[ac2 h33]at h;by_cases h40:pk a=40
   ·rw[ad3 h40]at h;by_cases h8:d=8
    ·rw[ad3 h8]at h;cases h
    ·rw[ac2 h8]at h;rcases hr:Bz pk n (a+1) (d+1) ts cs with e|⟨b,ts2,cs2⟩
     ·rw[hr]at h;cases h
     ·rw[hr]at h;simp only at h;by_cases hj:au (pk b)=true
      ·rw[ad3 hj]at h;rcases hr2:Bz pk n (b+1) (d+1) ts2 cs2 with e|⟨b2,ts3,cs3⟩
       ·rw[hr2]at h;cases h
       ·rw[hr2]at h;simp only at h;by_cases h41:pk b2=41
        ·rw[ad3 h41]at h;obtain⟨txt,dep,run,val,q1,q2,q3⟩:=ih _ _ _ _ _ _ _ hr;obtain⟨WZ,Y1,Xd,abA,p1,p2,p3⟩:=ih _ _ _ _ _ _ _ hr2;obtain⟨c,hc⟩:=byte b;injection h with h
         injection h with h1 _
         subst q3;subst p3;rw[hc]at hj;refine⟨_,_,_,_,P7 hj q1 p1,At.cons h40 (q2.app (At.cons hc (p2.app ((At.nil pk _).cons h41)))),?_⟩;rw[<-h1];simp;omega
        ·rw[ac2 h41]at h;cases h
      ·rw[ac2 hj]at h;cases h
   ·rw[ac2 h40]at h;by_cases h8:pk a=80\/pk a=81
    ·rw[ad3 h8]at h;obtain⟨c,hc⟩:=byte a;unfold arg1 at h;by_cases g40:pk (a+1)=40
     ·rw[ad3 g40]at h;by_cases d8:d=8
      ·rw[ad3 d8]at h;cases h
      ·rw[ac2 d8]at h;rcases hr:dO pk (n+1) (a+1+1) (d+1) ts with e|⟨b,ts2,k⟩
       ·rw[hr]at h;cases h
       ·rw[hr]at h;simp only at h;by_cases h41:pk b=41
        ·rw[ad3 h41]at h;obtain⟨txt,dep,run,q1,q2,q3⟩:=Gf _ _ _ _ _ _ _ hr;injection h with h
         injection h with h1 _
         subst q3;refine⟨_,_,_,_,YW (by omega) q1,At.cons hc (At.cons g40 (q2.app ((At.nil pk _).cons h41))),?_⟩;rw[<-h1];simp;omega
        ·rw[ac2 h41]at h;cases h
     ·rw[ac2 g40]at h;cases h
    ·rw[ac2 h8]at h;unfold Gg at h;rcases hr:dO pk (n+1) a d ts with e|⟨b,ts2,k⟩
     ·rw[hr]at h;cases h
     ·rw[hr]at h;simp only at h;by_cases h61:pk b=61
      ·rw[ad3 h61]at h;rcases hr2:dO pk (n+1) (b+1) d ts2 with e|⟨b2,ts3,k2⟩
       ·rw[hr2]at h;cases h
       ·rw[hr2]at h;obtain⟨txt,dep,run,q1,q2,q3⟩:=Gf _ _ _ _ _ _ _ hr;obtain⟨WZ,Y1,Xd,p1,p2,p3⟩:=Gf _ _ _ _ _ _ _ hr2;injection h with h
        injection h with h1 _
        subst q3;subst p3;refine⟨_,_,_,_,YV q1 p1,q2.app (At.cons h61 p2),?_⟩;rw[<-h1];simp;omega
      ·rw[ac2 h61]at h;cases h
end Ast
section
open Go.RowKit Go.Maps Go.WideMaps
open Sat (View Rule je bG)
theorem bF.slice{w:World}{rv:Value}{ak:List Rule}(h:bF w rv ak):∃p cap,rv=.slice p ak.length cap:=by
 obtain⟨vs,⟨_,h2⟩,_⟩:=h;rcases h2 with⟨rfl,e⟩|⟨g,cap,cur,rfl,_⟩
 ·rw[e];exact⟨_,_,rfl⟩
 ·exact⟨_,_,rfl⟩
theorem bF.at{w:World}{p:Option Addr}{cap:Nat}{ak:List Rule}(h:bF w (.slice p ak.length cap) ak){k:Nat}(hk:k<ak.length):∃g v,p=some ⟨g,0,none⟩/\w.cell? ⟨g,k,none⟩=some v/\aP w v ak[k]/\ak.length<=cap/\cap<=maxLen:=by
 obtain⟨vs,hr,h3⟩:=h;obtain⟨v,q1,q2⟩:=h3 k hk;obtain⟨h1,h2⟩:=hr;rcases h2 with⟨e,e2⟩|⟨g,cap2,cur,e,_,q3,q4,q5,q6,q7⟩
 ·omega
 ·cases e;refine⟨g,v,rfl,?_,q2,q4,q5⟩;rw[cell_of q3];rw[<-q7,ak9]at q1;split at q1
  ·simpa using q1
  ·cases q1
def foE(w:World)(τ:List Tr)(ak:List Rule)(e:Ending):Prop:=
 (e=.returned (.slice none 0 0)/\Sat.Done ak (bel τ))\/∃v r,e=.returned v/\aP w v r/\r∈ak/\∀u∈r,Sat.wrong (bel τ) u
theorem Ia(w:World)(b U:Nat)(rv ov:Value)(tp:List UInt8)(m:Nat)(τ:List Tr)(ak:List Rule)(h:FI w b U rv ov tp m τ ak)(hR:RG U ak)(hU:U<=500)(hn:ak.length<2 ^ 60) :
  Calls prog 133 #[.pointer (some ⟨b,0,none⟩)] w λe w'=>∃τ',foE w' τ' ak e/\FI w' b U rv ov tp m τ' ak/\w.grownBy w' (some m)/\Ext τ τ':=by
 obtain⟨rp,rc,rfl⟩:=h.rows.slice;have H:=aj h;clear h
 go_enter func133,ntmps133
 go_wp2_with fail
 go_loopw [3] (λbf wr=>∃(n:Nat) (σ:List Tr),bf=.int .i64 ((n:Int)-1)/\n<=σ.length+1/\FI wr b U (.slice rp ak.length rc) ov tp m σ ak/\w.grownBy wr (some m)/\(n=σ.length+1->Sat.Done ak (bel σ))/\Ext τ σ) (λbf _=>U+2-(intOf bf+1).toNat)
 case atStart=>exact⟨0,τ,rfl,af4 _,ah H,af9 _ _,λe=>by omega,Ext.refl _⟩
 case round=>
  obtain⟨n,σ,rfl,hns,hfi,hgw,hdn,hex⟩:=hrel;have HEX:=aj hex;clear hex;have hσ:=hfi.len;obtain⟨c0,c1,c2,c3,c4⟩:=hfi.ug.cells;have hlen:=hfi.bs.len 3;by_cases hlt:n<σ.length+1
  ·have hbd:(n:Int)-1<(σ.length:Int):=(by omega);have HFI:=aj hfi;have HGW:=aj hgw;clear hfi hgw hdn
   go_wp2_with fail
   go_loopw [25] (λi wq=>∃(k:Nat) (ρ:List Tr),i=.int .i64 k/\k<=ak.length/\FI wq b U (.slice rp ak.length rc) ov tp m ρ ak/\w.grownBy wq (some m)/\σ.length<=ρ.length/\(ρ.length=σ.length->∀j (hj:j<ak.length),j<k->still ρ ak[j])/\Ext τ ρ) (λi _=>ak.length-(intOf i).toNat)
   case atStart=>exact⟨0,σ,rfl,af4 _,ah HFI,ah HGW,ab3 _,λ_ j hj h=>by omega,ah HEX⟩
   case round=>
    obtain⟨k,ρ,rfl,hk,hfi,hgw,hle,hst,hey⟩:=hrel;have HEY:=aj hey;clear hey;have hρ:=hfi.len;by_cases hkl:k<ak.length
    ·have hbk:(k:Int)<(ak.length:Int):=(by omega);obtain⟨g,v,rfl,hcv,hrv,hc1,hc2⟩:=hfi.rows.at hkl;have hmem:ak[k]∈ak:=ab5 hkl;have hop:=open_any wr b U _ ov tp m ρ hfi.ug hfi.bs v ak[k] hrv (hR.ne _ hmem) (hR.len _ hmem) (λu hu=>by have:=hR.lt _ hmem u hu;omega);have hnx:Hid (still ρ ak[k]->ρ.length=σ.length->∀j (hj:j<ak.length),j<k+1->still ρ ak[j]):=λhs hl j hj hjk=>by
      by_cases e:j=k
      ·subst e;exact hs
      ·exact hst hl j hj (by omega)
     have HFI:=aj hfi;have HGW:=aj hgw;have HRV:=aj hrv;have IL:=aj hmem;have hlr:=hR.lt _ hmem;have XQ:=aj hlr;have hnr:=aj (hR.ne _ hmem);have hcnt:((ak[k].filter (unk ρ)).length:Int)<1001:=by
      have h1:=List.length_filter_le (unk ρ) ak[k];have h2:=hR.len _ hmem;omega
     have HST:=aj hst;clear hfi hgw hrv hst hlr hmem;have SK:Hid ((ak[k].filter (unk ρ)).length=1->ak[k].any (Eb ρ)=false->∀W,wr.grownBy W none->Calls prog 176 #[.pointer (some ⟨b,0,none⟩),.agg #[.int .i64 (dN ρ ak[k]).1,.bool (dN ρ ak[k]).2],v] W λe w'=>(∃v,e=.returned v)/\FI w' b U (.slice (some ⟨g,0,none⟩) ak.length rc) ov tp m (ρ++[((dN ρ ak[k]).1,(dN ρ ak[k]).2,v,ak[k])]) ak/\W.grownBy w' (some m)):=λh1 h2 W hW=>by
      obtain⟨s1,s2,s3⟩:=FZ h2 h1;have hf:=(ah HFI).grown hW;have hxl:=ah XQ _ s1;have hq:(dN ρ ak[k]).1∉ρ.map (·.1):=zu.1 s2;refine(wB W b U _ ov tp m ρ ((dN ρ ak[k]).1,(dN ρ ak[k]).2,v,ak[k]) hf.ug hf.bs (by omega) (by simp only;omega) hq ((ah HRV).but (But.aA hW) (λk e=>by cases e))).mono ?_;rintro e w2 ⟨e1,e2,e3⟩;refine⟨e1,hf.more e3 e2 ?_ hxl,e3⟩;rw[FB (q:=((dN ρ ak[k]).1,(dN ρ ak[k]).2,v,ak[k])) hq];exact hf.inv.follow (ah IL) s1 s2 s3
     have HBR:Hid ((ak[k].filter (unk ρ)).length=0->ak[k].any (Eb ρ)=false->∀u∈ak[k],Sat.wrong (bel ρ) u):=λh1 h2=>Iz h2 h1;have hns:Hid (2<=(ak[k].filter (unk ρ)).length->still ρ ak[k]):=λh=>Or.inr h;generalize ak[k]=r at hop hcnt hnx HRV IL XQ hnr SK HBR hns;unfold opE at hop;generalize (r.filter (unk ρ)).length=cu at hop hcnt SK HBR hns;generalize dN ρ r=lu at hop SK;obtain⟨lx,li⟩:=lu
     go_wp2_with fail
     refine hop.mono ?_;rintro e w1 ⟨he,hb1⟩;have hg1:=bJ hb1;have HG1:=aj hg1;clear hb1 hg1 hop;rcases he with⟨ha,u,rfl⟩|⟨ha,rfl⟩
     ·have hs:=ah hnx (Or.inl ha);have HS:=aj hs;clear hs
      go_wp2_with fail
      refine⟨⟨k+1,ρ,by go_num,hkl,(ah HFI).grown ((ah HG1).trans (ab2 _ _ none)),(ah HGW).andThen ((ah HG1).trans (ab2 _ _ none)) (λj e=>by cases e),hle,ah HS,ah HEY⟩,by simp[intOf];omega⟩
     ·by_cases z0:cu=0
      ·subst z0;have hw:=ah HBR rfl ha;have HW:=aj hw;clear hw;have hgA:wr.grownBy (w1.alloc (.cells #[.int .i64 lx,.bool li] 214)) none:=(ah HG1).trans (ab2 _ _ none);have LJ:=(ah HRV).but (But.aA hgA) (λk e=>by cases e);have Pg:=(ah HFI).grown hgA;have Yd:=(ah HGW).andThen hgA (λj e=>by cases e);have Q1:=aj LJ;have Q2:=aj Pg;have Q3:=aj Yd;clear LJ Pg Yd hgA
       go_wp2_with fail
       exact ae3 (v:=v) (by simp[results,results133,go_sem]) rfl ⟨ρ,Or.inr ⟨v,r,rfl,ah Q1,ah IL,ah HW⟩,ah Q2,ah Q3,ah HEY⟩
      ·by_cases z1:cu=1
       ·subst z1;have hbl:=ah SK rfl ha;have HBL:=aj hbl;clear hbl z0
        go_wp2_with fail
        have hgA:wr.grownBy (w1.alloc (.cells #[.int .i64 lx,.bool li] 214)) none:=(ah HG1).trans (ab2 _ _ none);refine(ah HBL _ hgA).mono ?_;rintro e w2 ⟨⟨v2,rfl⟩,Pg,hg2⟩;have Q2:=aj Pg;have Q3:=aj (((ah HGW).andThen hgA (λj e=>by cases e)).andThen hg2 (λj e=>by cases e;exact Or.inr rfl));clear Pg hg2 hgA
        go_wp2_with fail
        refine⟨⟨k+1,_,by go_num,hkl,ah Q2,ah Q3,by rw[ae0];omega,λe=>by rw[ae0,am3]at e;omega,(ah HEY).snoc (ah hnr)⟩,by simp[intOf];omega⟩
       ·have hs:=ah hnx (ah hns (by omega));have HS:=aj hs;clear hs;have z0':(cu:Int)≠0:=(by omega);have z1':(cu:Int)≠1:=by omega
        go_wp2_with fail
        refine⟨⟨k+1,ρ,by go_num,hkl,(ah HFI).grown ((ah HG1).trans (ab2 _ _ none)),(ah HGW).andThen ((ah HG1).trans (ab2 _ _ none)) (λj e=>by cases e),hle,ah HS,ah HEY⟩,by simp[intOf];omega⟩
    ·have hkk:k=ak.length:=(by omega);have hbk:¬(k:Int)<(ak.length:Int):=(by omega);have HFI:=aj hfi;have HGW:=aj hgw;have hdn:Hid (σ.length+1=ρ.length+1->Sat.Done ak (bel ρ)):=λe=>TJ hR.nodup (λi hi=>hst (by omega) i hi (by omega));clear hfi hgw hst hkk
     go_wp2_with fail
     refine⟨⟨σ.length+1,ρ,by go_num,by omega,ah HFI,ah HGW,ah hdn,ah HEY⟩,?_⟩;simp only[intOf];omega
  ·have hbd:¬(n:Int)-1<(σ.length:Int):=(by omega);have hd:=hdn (by omega);have HFI:=aj hfi;have HGW:=aj hgw;have HD:=aj hd;clear hfi hgw hdn hd
   go_wp2_with fail
   exact ae3 (v:=.slice none 0 0) (by simp[results,results133,go_sem]) rfl ⟨σ,Or.inl ⟨rfl,ah HD⟩,ah HFI,ah HGW,ah HEX⟩
end
open Go.RowKit Go.Maps Go.WideMaps
open aB (Key put)
def gB(w:World)(b:Nat)(f:Key->Key)(dom:Key->Prop)(c:Nat):Prop:=
 ∃(D:DataW Value) (nn:Nat),nn<=c/\w.ownsMap prog 93 uz b nn D/\
  ∀k l,dom k->keyOf prog 93 (aQ k)=some l->Maps.has D l=decide (f k≠k)/\(f k≠k->∀z,D.atKey l z=.held (aQ (f k)))
theorem gB.lt{w:World}{b c:Nat}{f:Key->Key}{dom:Key->Prop}(h:gB w b f dom c):b<w.heap.size:=by
 obtain⟨D,nn,_,h1,_⟩:=h;exact h1.lt
theorem gB.kept{w w':World}{b c:Nat}{f:Key->Key}{dom:Key->Prop}(h:gB w b f dom c)(hb:w'.heap[b]?=w.heap[b]?):gB w' b f dom c:=by
 obtain⟨D,nn,h0,⟨es,clock,h1,h2⟩,h3⟩:=h;exact⟨D,nn,h0,⟨es,clock,hb.trans h1,h2⟩,h3⟩
theorem gB.congr{w:World}{b c:Nat}{f g:Key->Key}{dom:Key->Prop}(h:gB w b f dom c)(e:∀k,dom k->f k=g k):gB w b g dom c:=by
 obtain⟨D,nn,h0,h1,h2⟩:=h;exact⟨D,nn,h0,h1,λk l hk hl=>by rw[<-e k hk];exact h2 k l hk hl⟩
theorem gB.made(w:World)(dom:Key->Prop):gB (w.alloc (.map #[] 0)) w.heap.size id dom 0:=
 ⟨.map [],0,ab3 _,World.ownsMap_made w _ _ _,λk l _ _=>⟨by simp[Maps.has],λh=>absurd rfl h⟩⟩
theorem WV(w:World):(zeroValue 93).run prog w=.ok (aQ (0,0,0)) w:=by kernel_rfl
theorem gB.look{w:World}{b c:Nat}{f:Key->Key}{dom:Key->Prop}(h:gB w b f dom c){k:Key}(hk:dom k)(h1:0<=k.1/\k.1<=255)(h2:k.2.1<=1000)(h3:k.2.2<=1000) :
  ∃v:Key,(Instr.lookup 208 (.map (some b)) (aQ k) true).run prog w=.ok (.tuple #[aQ v,.bool (decide (f k≠k))]) w/\(f k≠k->v=f k):=by
 obtain⟨l,hkey⟩:=Lc k h1 h2 h3;obtain⟨D,nn,h0,hown,hall⟩:=h;obtain⟨q1,q2⟩:=hall k l hk hkey;obtain⟨v,ps,hrun,hv⟩:=hown.look_ok nV underlying208 (WV w) (zd:=.held (aQ (0,0,0))) (zp:=[]) rfl hkey;by_cases e:f k=k
 ·have hh:Maps.has D l=false:=by rw[q1];simp[e]
  obtain⟨es,e1,e2,_⟩:=hown.entries nV;subst e1;have h2:(es.find? λp=>p.1.sameKey l)=none:=by
   rw[ao9];intro p hp1 hp2;have:Maps.has (.map es) l=true:=ak7.2 ⟨p,hp1,hp2⟩;rw[hh]at this;cases this
  simp only[DataW.atKey]at hv;rw[h2]at hv;cases hv;refine⟨(0,0,0),?_,λh=>absurd e h⟩;rw[hrun,hh];simp[e]
 ·rw[q2 e]at hv;cases hv;refine⟨f k,?_,λ_=>rfl⟩;rw[hrun,q1]
def vP(k:Key):Array Value:=#[.int .u8 k.1,.int .i64 k.2.1,.int .i64 k.2.2]
theorem BI(w:World)(b c:Nat)(f:Key->Key)(dom:Key->Prop)(k:Key)(hM:gB w b f dom c)(hk:dom k)(hfk:dom (f k))(hff:f (f k)=f k)
 (hb:(0<=k.1/\k.1<=255)/\k.2.1<=1000/\k.2.2<=1000)(hbf:(0<=(f k).1/\(f k).1<=255)/\(f k).2.1<=1000/\(f k).2.2<=1000) :
  Calls prog 198 #[.map (some b),aQ k] w λe w'=>e=.returned (aQ (f k))/\w.grownBy w' none:=by
 have hlt:=hM.lt;have hrun:Hid (∀W:World,W.heap[b]?=w.heap[b]?->∃v:Key,(Instr.lookup 208 (.map (some b)) (aQ k) true).run prog W=.ok (.tuple #[aQ v,.bool (decide (f k≠k))]) W/\(f k≠k->v=f k)):=λW hW=>(hM.kept hW).look hk hb.1 hb.2.1 hb.2.2;have hrun2:Hid (∀W:World,W.heap[b]?=w.heap[b]?->∃v:Key,(Instr.lookup 208 (.map (some b)) (aQ (f k)) true).run prog W=.ok (.tuple #[aQ v,.bool (decide (f (f k)≠f k))]) W/\(f (f k)≠f k->v=f (f k))):=λW hW=>(hM.kept hW).look hfk hbf.1 hbf.2.1 hbf.2.2;clear hM hk hfk;have h1:((w.alloc (.cells (vP k) 93)).alloc (.cells #[.int .u8 0,.int .i64 0,.int .i64 0] 93)).heap[b]?=w.heap[b]?:=by
  rw[ac1 _ _ _ (by simp;omega),ac1 _ _ _ hlt]
 obtain⟨v,hr,hv⟩:=ah hrun _ h1;by_cases e:f k=k
 ·have hd:decide (f k≠k)=false:=by simp[e]
  rw[hd]at hr;rw[e];clear hd hv hrun hrun2 h1 hff hbf;obtain⟨kc,kx,ky⟩:=k;obtain⟨vc,vx,vy⟩:=v;simp only[aQ,vP]at hr ⊢
  go_enter func198,ntmps198
  go_wp2_with fail
  refine wp_loop_rounds 1 ?_;rw[al6]
  go_wp2_with fail
  refine ae3 (v:=.agg #[.int .u8 kc,.int .i64 kx,.int .i64 ky]) (by simp[results,results198,go_sem]) rfl ⟨rfl,?_⟩;exact((ab2 _ _ none).trans (ab2 _ _ none)).trans (ab2 _ _ none)
 ·have hd:decide (f k≠k)=true:=by simp[e]
  rw[hd]at hr;obtain rfl:=hv e;have hd2:decide (f (f k)≠f k)=false:=by simp[hff]
  rw[hd2]at hrun2;clear hd hd2 hv hrun h1 hff e;generalize f k=k2 at hr hrun2 hbf;obtain⟨kc,kx,ky⟩:=k;obtain⟨vc,vx,vy⟩:=k2;simp only[aQ,vP]at hr hrun2 ⊢
  go_enter func198,ntmps198
  go_wp2_with fail
  refine wp_loop_rounds 2 ?_;rw[al6]
  go_wp2_with fail
  obtain⟨v3,hr3,_⟩:=ah hrun2 (((w.alloc (.cells #[.int .u8 vc,.int .i64 vx,.int .i64 vy] 93)).alloc (.cells #[.int .u8 0,.int .i64 0,.int .i64 0] 93)).alloc (.cells #[.int .u8 vc,.int .i64 vx,.int .i64 vy] 93)) (by
   rw[ac1 _ _ _ (by simp;omega),ac1 _ _ _ (by simp;omega),ac1 _ _ _ hlt])
  obtain⟨zc,zx,zy⟩:=v3;simp only at hr3;rw[al6]
  go_wp2_with fail
  refine ae3 (v:=.agg #[.int .u8 vc,.int .i64 vx,.int .i64 vy]) (by simp[results,results198,go_sem]) rfl ⟨rfl,?_⟩;exact(((ab2 _ _ none).trans (ab2 _ _ none)).trans (ab2 _ _ none)).trans (ab2 _ _ none)
end Go.Proofs.YthcppbmkacbbiaaGreat
