import Derived.Test.YthcppbmkacbbiaaGreatYAR
import Derived.Test.YthcppbmkacbbiaaGreatYAS
set_option linter.unusedSimpArgs false
set_option maxHeartbeats 4000000
set_option maxRecDepth 100000
namespace Go.Proofs.YthcppbmkacbbiaaGreat
open Go.Proofs.Tryz
namespace Ast
open aB
def mkK(σ:Nat->Nat)(k:Key):Key:=(k.1,if k.1=102\/k.1=103 then σ k.2.1 else k.2.1,if k.1=103 then σ k.2.2 else k.2.2)
def Arg(n:Nat)(k:Key):Prop:=(k.1=102\/k.1=103->k.2.1<n)/\(k.1=103->k.2.2<n)
theorem mk_congr{σ τ:Nat->Nat}{n:Nat}(h:∀i,i<n->σ i=τ i){k:Key}(hk:Arg n k):mkK σ k=mkK τ k:=by
 unfold mkK
 congr 2
 ·by_cases e:k.1=102\/k.1=103
  ·rw[ae2 e,ae2 e,h _ (hk.1 e)]
  ·rw[ad6 e,ad6 e]
 ·by_cases e:k.1=103
  ·rw[ae2 e,ae2 e,h _ (hk.2 e)]
  ·rw[ad6 e,ad6 e]
theorem mk_inj{σ:Nat->Nat}{n:Nat}(h:∀i j,i<n->j<n->σ i=σ j->i=j){k l:Key}(hk:Arg n k)(hl:Arg n l)(e:mkK σ k=mkK σ l):k=l:=by
 obtain⟨a,x,y⟩:=k;obtain⟨b,u,v⟩:=l;unfold mkK at e;simp only[ao9]at e;obtain⟨e1,e2,e3⟩:=e;subst e1;unfold Arg at hk hl;simp only at hk hl;have h1:x=u:=by
  by_cases q:a=102\/a=103
  ·rw[ae2 q,ae2 q]at e2;exact h _ _ (hk.1 q) (hl.1 q) e2
  ·rw[ad6 q,ad6 q]at e2;exact e2
 have h2:y=v:=by
  by_cases q:a=103
  ·rw[ae2 q,ae2 q]at e3;exact h _ _ (hk.2 q) (hl.2 q) e3
  ·rw[ad6 q,ad6 q]at e3;exact e3
 rw[h1,h2]
structure Xu(σ:Nat->Nat)(ts ts':List Key):Prop where
 at_:∀i (h:i<ts.length),∃h':σ i<ts'.length,ts'[σ i]=mkK σ ts[i]
 inj:∀i j,i<ts.length->j<ts.length->σ i=σ j->i=j
 arg:∀i (h:i<ts.length),Arg ts.length ts[i]
 nd:ts'.Nodup
theorem FV{n m:Nat}{k:Key}(h:Arg n k)(hm:n<=m):Arg m k:=⟨λq=>ac8 (h.1 q) hm,λq=>ac8 (h.2 q) hm⟩
theorem idx_eq{α:Type}[BEq α][LawfulBEq α]{l:List α}(h:l.Nodup){i:Nat}(hi:i<l.length){k:α}(e:l[i]=k):l.idxOf k=i:=by
 have hm:k∈l:=e▸ac4 hi;have h1:l.idxOf k<l.length:=af8 hm;have h2:l[l.idxOf k]=l[i]:=by rw[ag2 h1,e]
 exact jX h h1 hi h2
theorem BM{α:Type}[BEq α][LawfulBEq α]{l:List α}(h:l.Nodup)(k:α):(put l k).Nodup:=mJ k h
theorem nN{α:Type}[BEq α][LawfulBEq α]{l:List α}{k:α}(h:k∈l):put l k=l:=by
 unfold aB.put;rw[ae2 (by simpa using h)]
theorem jO{α:Type}[BEq α][LawfulBEq α]{l:List α}{k:α}(h:k∉l):put l k=l++[k]:=by
 unfold aB.put;rw[ad6 (by simpa using h)]
theorem lF{α:Type}[BEq α][LawfulBEq α](l:List α)(k:α):∃h:l.idxOf k<(put l k).length,(put l k)[l.idxOf k]=k:=by
 by_cases hm:k∈l
 ·have h:=af8 hm;rw[nN hm];exact⟨h,ag2 h⟩
 ·have e:=ag4 hm;rw[jO hm,e];exact⟨by simp,by simp⟩
theorem qG{α:Type}[BEq α][LawfulBEq α](l:List α)(k:α){i:Nat}(h:i<l.length):∃h':i<(put l k).length,(put l k)[i]=l[i]:=by
 by_cases hm:k∈l
 ·rw[nN hm];exact⟨h,rfl⟩
 ·rw[jO hm];exact⟨by simp;omega,ah9 h⟩
theorem Dc{σ:Nat->Nat}{ts ts':List Key}(h:Xu σ ts ts'){k:Key}(hk:Arg ts.length k) :
  ∃σ',(∀i,i<ts.length->σ' i=σ i)/\Xu σ' (put ts k) (put ts' (mkK σ k))/\ts.idxOf k<(put ts k).length/\σ' (ts.idxOf k)=ts'.idxOf (mkK σ k):=by
 by_cases hm:k∈ts
 ·have h1:=af8 hm;obtain⟨h2,e2⟩:=h.at_ _ h1;rw[ag2 h1]at e2;have hm':mkK σ k∈ts':=e2▸ac4 h2;rw[nN hm,nN hm'];exact⟨σ,λ_ _=>rfl,h,h1,(idx_eq h.nd h2 e2).symm⟩
 ·have e1:=ag4 hm;have hl:(aB.put ts k).length=ts.length+1:=by rw[jO hm];simp
  obtain⟨τ,hτ⟩:∃τ:Nat->Nat,τ=λi=>if i<ts.length then σ i else ts'.idxOf (mkK σ k):=⟨_,rfl⟩
  have t1:∀i,i<ts.length->τ i=σ i:=λi hi=>by rw[hτ];simp[hi]
  have t2:τ ts.length=ts'.idxOf (mkK σ k):=by rw[hτ];simp
  have hmk:∀x,Arg ts.length x->mkK τ x=mkK σ x:=λx hx=>mk_congr t1 hx;refine⟨τ,t1,⟨λi hi=>?_,λi j hi hj e=>?_,λi hi=>?_,BM h.nd _⟩,by rw[e1,hl];omega,by rw[e1];exact t2⟩
  ·by_cases q:i<ts.length
   ·obtain⟨a1,a2⟩:=h.at_ i q;obtain⟨b1,b2⟩:=qG ts' (mkK σ k) a1;have c:(aB.put ts k)[i]=ts[i]:=(qG ts k q).2;rw[t1 i q,c,hmk _ (h.arg i q)];exact⟨b1,b2.trans a2⟩
   ·have q':i=ts.length:=(by omega);subst q';have c:(aB.put ts k)[ts.length]=k:=by
     have:=(lF ts k).2;simp only[e1]at this;exact this
    rw[t2,c,hmk _ hk];exact lF ts' (mkK σ k)
  ·have key:∀i,i<ts.length->τ i=τ ts.length->False:=λi hi e=>by
    rw[t1 i hi,t2]at e;obtain⟨a1,a2⟩:=h.at_ i hi;have hx:ts'.idxOf (mkK σ k)<ts'.length:=(by rw[<-e];exact a1);have hy:ts'[ts'.idxOf (mkK σ k)]=mkK σ k:=ag2 hx;have hz:ts'[σ i]=mkK σ k:=by
     rw[<-hy]
     congr 1
    exact hm (mk_inj h.inj (h.arg i hi) hk (a2.symm.trans hz)▸ac4 hi)
   by_cases q1:i<ts.length
   ·by_cases q2:j<ts.length
    ·rw[t1 i q1,t1 j q2]at e;exact h.inj i j q1 q2 e
    ·have:j=ts.length:=(by omega);subst this;exact(key i q1 e).elim
   ·have q1':i=ts.length:=(by omega);subst q1';by_cases q2:j<ts.length
    ·exact(key j q2 e.symm).elim
    ·omega
  ·rw[hl];by_cases q:i<ts.length
   ·have c:(aB.put ts k)[i]=ts[i]:=(qG ts k q).2;rw[c];exact FV (h.arg i q) (by omega)
   ·have q':i=ts.length:=(by omega);subst q';have c:(aB.put ts k)[ts.length]=k:=by
     have:=(lF ts k).2;simp only[e1]at this;exact this
    rw[c];exact FV hk (by omega)
structure NK(σ ρ:Nat->Nat)(n:Nat)(cs cs':List (Int×Nat)):Prop where
 at_:∀i (h:i<cs.length),∃h':ρ i<cs'.length,cs'[ρ i]=(cs[i].1,σ cs[i].2)
 arg:∀i (h:i<cs.length),cs[i].2<n
 nd:cs'.Nodup
theorem Fv{σ τ ρ:Nat->Nat}{n m:Nat}{cs cs':List (Int×Nat)}(h:NK σ ρ n cs cs')(e:∀i,i<n->τ i=σ i)(hm:n<=m):NK τ ρ m cs cs':=
 ⟨λi hi=>by rw[e _ (h.arg i hi)];exact h.at_ i hi,λi hi=>ac8 (h.arg i hi) hm,h.nd⟩
theorem QA{σ ρ:Nat->Nat}{n:Nat}{cs cs':List (Int×Nat)}(h:NK σ ρ n cs cs'){k:Int×Nat}(hk:k.2<n) :
  ∃ρ',(∀i,i<cs.length->ρ' i=ρ i)/\NK σ ρ' n (put cs k) (put cs' (k.1,σ k.2))/\cs.idxOf k<(put cs k).length/\ρ' (cs.idxOf k)=cs'.idxOf (k.1,σ k.2):=by
 by_cases hm:k∈cs
 ·have h1:=af8 hm;obtain⟨h2,e2⟩:=h.at_ _ h1;rw[ag2 h1]at e2;have hm':(k.1,σ k.2)∈cs':=e2▸ac4 h2;rw[nN hm,nN hm'];exact⟨ρ,λ_ _=>rfl,h,h1,(idx_eq h.nd h2 e2).symm⟩
 ·have e1:=ag4 hm;have hl:(aB.put cs k).length=cs.length+1:=by rw[jO hm];simp
  obtain⟨τ,hτ⟩:∃τ:Nat->Nat,τ=λi=>if i<cs.length then ρ i else cs'.idxOf (k.1,σ k.2):=⟨_,rfl⟩
  have t1:∀i,i<cs.length->τ i=ρ i:=λi hi=>by rw[hτ];simp[hi]
  have t2:τ cs.length=cs'.idxOf (k.1,σ k.2):=by rw[hτ];simp
  have U9:(aB.put cs k)[cs.length]'(by omega)=k:=by
   have:=(lF cs k).2;simp only[e1]at this;exact this
  refine⟨τ,t1,⟨λi hi=>?_,λi hi=>?_,BM h.nd _⟩,by rw[e1,hl];omega,by rw[e1];exact t2⟩
  ·by_cases q:i<cs.length
   ·obtain⟨a1,a2⟩:=h.at_ i q;obtain⟨b1,b2⟩:=qG cs' (k.1,σ k.2) a1;have c:(aB.put cs k)[i]=cs[i]:=(qG cs k q).2;rw[t1 i q,c];exact⟨b1,b2.trans a2⟩
   ·have q':i=cs.length:=(by omega);subst q';rw[t2,U9];exact lF cs' (k.1,σ k.2)
  ·by_cases q:i<cs.length
   ·have c:(aB.put cs k)[i]=cs[i]:=(qG cs k q).2;rw[c];exact h.arg i q
   ·have q':i=cs.length:=(by omega);subst q';rw[U9];exact hk
def Bz(ts:List Key):Prop:=(∀i (h:i<ts.length),eH i ts[i])/\ts.Nodup
theorem y5{ts:List Key}(h:Bz ts){k:Key}(hk:eH ts.length k):Bz (put ts k)/\ts.idxOf k<(put ts k).length:=by
 refine⟨⟨λi hi=>?_,BM h.2 k⟩,(lF ts k).1⟩;by_cases hm:k∈ts
 ·have e:=nN hm;have hi':i<ts.length:=by rw[e]at hi;exact hi
  rw[aq8 e];exact h.1 i hi'
 ·have e:=jO hm;rw[aq8 e];by_cases q:i<ts.length
  ·rw[ah9 q];exact h.1 i q
  ·have q':i=ts.length:=(by rw[e]at hi;simp at hi;omega);subst q';rw[al3 (ac2 _)];simpa using hk
def BA(n:Nat)(cs:List (Int×Nat)):Prop:=(∀i (h:i<cs.length),cs[i].2<n)/\cs.Nodup
theorem Nb{n:Nat}{cs:List (Int×Nat)}(h:BA n cs){k:Int×Nat}(hk:k.2<n):BA n (put cs k):=by
 refine⟨λi hi=>?_,BM h.2 k⟩;by_cases hm:k∈cs
 ·have e:=nN hm;have hi':i<cs.length:=by rw[e]at hi;exact hi
  rw[aq8 e];exact h.1 i hi'
 ·have e:=jO hm;rw[aq8 e];by_cases q:i<cs.length
  ·rw[ah9 q];exact h.1 i q
  ·have q':i=cs.length:=(by rw[e]at hi;simp at hi;omega);subst q';rw[al3 (ac2 _)];simpa using hk
theorem yZ{n m:Nat}{cs:List (Int×Nat)}(h:BA n cs)(hm:n<=m):BA m cs:=⟨λi hi=>ac8 (h.1 i hi) hm,h.2⟩
end Ast
section
open Go.RowKit Go.Maps Go.WideMaps
open Sat (View Rule jw bI)
def bH(w:World)(rv:Value)(ak:List Rule):Prop:=
 ∃vs:List Value,w.ownsRow 0 161 1 rv ak.length vs/\∀i (hi:i<ak.length),∃v,vs[i]?=some v/\aQ w v ak[i]
theorem bM{w w':World}(h:Below w.heap.size w w'):w.grownBy w' none:=⟨h.os,h.tape,h.output,h.size,λk hk _=>h.block k hk⟩
theorem bH.but{S:Nat->Prop}{w w':World}{rv:Value}{ak:List Rule}(h:bH w rv ak)(hb:But S w w')(hS:∀k,S k->jI w k)(hr:∀k,rv.ownBlock=some k->¬S k):bH w' rv ak:=by
 obtain⟨vs,⟨h1,h2⟩,h3⟩:=h;refine⟨vs,⟨h1,?_⟩,λi hi=>?_⟩
 ·rcases h2 with h2|⟨g,cap,cur,rfl,q2,q3,q4⟩
  ·exact Or.inl h2
  ·have hlt:g<w.heap.size:=(ac0.1 q3).1;exact Or.inr ⟨g,cap,cur,rfl,q2,(hb.block g hlt (hr g rfl)).trans q3,q4⟩
 ·obtain⟨v,q1,q2⟩:=h3 i hi;exact⟨v,q1,q2.but hb hS⟩
theorem bH.pX{w:World}{rv:Value}{ak:List Rule}(h:bH w rv ak){m:Nat}{τ:List Tr}(hB:bG w m τ):∀k,rv.ownBlock=some k->k≠m:=by
 obtain⟨es,⟨e1,c1,h4,_⟩,_⟩:=hB.map;obtain⟨vs,⟨h1,h2⟩,h3⟩:=h;intro k hk e;subst e;rcases h2 with⟨rfl,_⟩|⟨g,cap,cur,rfl,q2,q3,q4⟩
 ·cases hk
 ·cases hk;rw[h4]at q3;cases q3
structure FI(w:World)(b U:Nat)(rv ov:Value)(tp:List UInt8)(m:Nat)(τ:List Tr)(ak:List Rule):Prop where
 uG:oI w b U rv ov tp (some m)
 rows:bH w rv ak
 bs:bG w m τ
 inv:Sat.BInv ak (bel τ) τ.length
 lt:∀q∈τ,q.1<U
structure RG(U:Nat)(ak:List Rule):Prop where
 ne:∀r∈ak,r≠[]
 nodup:∀r∈ak,r.Nodup
 lt:∀r∈ak,∀u∈r,u.1<U
 len:∀r∈ak,r.length<=1000
theorem jl:∀(U:Nat) (l:List Nat),l.Nodup->(∀x∈l,x<U)->l.length<=U:=by
 intro U
 induction U with
 |zero=>
  intro l _ h;cases l with
  |nil=>simp
  |cons a l=>have:=h a (by simp);omega
 |succ U ih=>
  intro l hn h;have h1:=ih (l.filter (·!= U)) (hn.sublist List.filter_sublist) (λx hx=>by
   have h2:=ah3.1 hx;have h3:=h x h2.1;have h4:x≠U:=(by simpa using h2.2);omega)
  have h2:l.length<=(l.filter (·!= U)).length+1:=by
   have h3:=List.length_eq_countP_add_countP (p:=λx=>x != U) (l:=l);rw[List.countP_eq_length_filter]at h3;have h4:l.countP (λx=>decide ¬(x != U)=true)<=1:=by
    have h5:l.countP (λx=>decide ¬(x != U)=true)=l.count U:=by
     unfold List.count
     congr 1
     funext x;by_cases e:x=U<;>simp[e]
    rw[h5];exact List.nodup_iff_count.1 hn U
   omega
  omega
theorem FI.len{w:World}{b U:Nat}{rv ov:Value}{tp:List UInt8}{m:Nat}{τ:List Tr}{ak:List Rule}(h:FI w b U rv ov tp m τ ak):τ.length<=U:=by
 have:=jl U (τ.map (·.1)) h.bs.nodup (λx hx=>by
  obtain⟨q,hq,rfl⟩:=ae8.1 hx;exact h.lt q hq)
 simpa using this
theorem FI.grown{w w':World}{b U:Nat}{rv ov:Value}{tp:List UInt8}{m:Nat}{τ:List Tr}{ak:List Rule}(h:FI w b U rv ov tp m τ ak)(hg:w.grownBy w' none):FI w' b U rv ov tp m τ ak:=by
 have hb:=But.aA hg;have hn:∀k,some k=none->jI w k:=λk e=>by cases e
 exact⟨h.uG.kept (hg.block b h.uG.lt (by simp)),h.rows.but hb hn (λk _=>by simp),h.bs.but hb hn (by simp),h.inv,h.lt⟩
theorem FI.more{w w':World}{b U:Nat}{rv ov:Value}{tp:List UInt8}{m:Nat}{τ:List Tr}{ak:List Rule}(h:FI w b U rv ov tp m τ ak)(hg:w.grownBy w' (some m)){q:Tr}(hB:bG w' m (τ++[q]))
 (hi:Sat.BInv ak (bel (τ++[q])) (τ.length+1))(hq:q.1<U):FI w' b U rv ov tp m (τ++[q]) ak:=by
 have hb:=But.aA hg;have hn:∀k,some k=some m->jI w k:=λk e=>by cases e;exact h.bs.oM
 have hbm:b≠m:=λe=>by
  obtain⟨es,⟨e1,c1,h4,_⟩,_⟩:=h.bs.map;have:=h.uG.out;rw[e,h4]at this;cases this
 refine⟨h.uG.kept (hg.block b h.uG.lt (by simpa using hbm)),h.rows.but hb hn (λk hk e=>h.rows.pX h.bs k hk (by cases e;rfl)),hB,by rw[ae9];exact hi,λp hp=>?_⟩;rcases af7.1 hp with hp|hp
 ·exact h.lt p hp
 ·rw[ae5.1 hp];exact hq
theorem SE{τ:List Tr}{v:View}:Ei τ v=true↔Sat.right (bel τ) v:=by
 unfold Ei Sat.right bel;cases mX τ v.1 with
 |none=>simp
 |some q=>simp
theorem xk{τ:List Tr}{v:View}:unk τ v=true↔bel τ v.1=none:=by
 unfold unk lG bel;cases mX τ v.1<;>simp
theorem DL{τ:List Tr}{v:View}(h1:Ei τ v=false)(h2:unk τ v=false):Sat.wrong (bel τ) v:=by
 unfold Ei unk lG at *;unfold Sat.wrong bel;cases e:mX τ v.1 with
 |none=>rw[e]at h2;simp at h2
 |some q=>rw[e]at h1;exact⟨_,rfl,by simpa using h1⟩
theorem IV{τ:List Tr}{r:Rule}(h1:r.any (Ei τ)=false)(h2:(r.filter (unk τ)).length=0):∀v∈r,Sat.wrong (bel τ) v:=by
 intro v hv;refine DL ?_ ?_
 ·have:=List.any_eq_false.1 h1 v hv;simpa using this
 ·have h3:=ag9 h2;have:=List.filter_eq_nil_iff.1 h3 v hv;simpa using this
theorem Gi{τ:List Tr}{r:Rule}(h1:r.any (Ei τ)=false)(h2:(r.filter (unk τ)).length=1):dO τ r∈r/\bel τ (dO τ r).1=none/\∀u∈r,u≠dO τ r->Sat.wrong (bel τ) u:=by
 obtain⟨a,ha⟩:=List.length_eq_one_iff.1 h2;have hl:dO τ r=a:=by unfold dO;rw[ha];rfl
 have hm:a∈r.filter (unk τ):=by rw[ha];simp
 rw[hl];refine⟨(ah3.1 hm).1,xk.1 (ah3.1 hm).2,λu hu hne=>DL ?_ ?_⟩
 ·have:=List.any_eq_false.1 h1 u hu;simpa using this
 ·cases e:unk τ u
  ·rfl
  ·have:u∈r.filter (unk τ):=ah3.2 ⟨hu,e⟩;rw[ha]at this;exact absurd (ae5.1 this) hne
def ZQ(ρ:List Tr):Prop:=∀q∈ρ,q.2.2.2≠[]
def Ext(τ σ:List Tr):Prop:=∃ρ,σ=τ++ρ/\ZQ ρ
theorem Ext.refl(τ:List Tr):Ext τ τ:=⟨[],by simp,λq h=>by(cases h)⟩
theorem Ext.snoc{τ σ:List Tr}(h:Ext τ σ){q:Tr}(hq:q.2.2.2≠[]):Ext τ (σ++[q]):=by
 obtain⟨ρ,rfl,h1⟩:=h;refine⟨ρ++[q],by simp,λp hp=>?_⟩;rcases af7.1 hp with hp|hp
 ·exact h1 p hp
 ·rw[ae5.1 hp];exact hq
def still(τ:List Tr)(r:Rule):Prop:=r.any (Ei τ)=true\/2<=(r.filter (unk τ)).length
theorem Uh{τ:List Tr}{ak:List Rule}(hn:∀r∈ak,r.Nodup)(h:∀i (hi:i<ak.length),still τ ak[i]):Sat.Done ak (bel τ):=by
 intro r hr;obtain⟨i,hi,rfl⟩:=ah1 hr;rcases h i hi with h|h
 ·obtain⟨v,hv,h1⟩:=am1.1 h;exact Or.inl ⟨v,hv,SE.1 h1⟩
 ·right;have hnd:(ak[i].filter (unk τ)).Nodup:=(hn _ hr).sublist List.filter_sublist;generalize hf:ak[i].filter (unk τ)=l at h hnd
  match l,h,hnd with
  |u::v::l,_,hnd=>
   have hu:u∈ak[i].filter (unk τ):=(by rw[hf];simp);have hv:v∈ak[i].filter (unk τ):=(by rw[hf];simp);exact⟨u,(ah3.1 hu).1,v,(ah3.1 hv).1,λe=>by subst e;simp at hnd,xk.1 (ah3.1 hu).2,xk.1 (ah3.1 hv).2⟩
theorem bH.slice{w:World}{rv:Value}{ak:List Rule}(h:bH w rv ak):∃p cap,rv=.slice p ak.length cap:=by
 obtain⟨vs,⟨_,h2⟩,_⟩:=h;rcases h2 with⟨rfl,e⟩|⟨g,cap,cur,rfl,_⟩
 ·rw[e];exact⟨_,_,rfl⟩
 ·exact⟨_,_,rfl⟩
theorem bH.at{w:World}{p:Option Addr}{cap:Nat}{ak:List Rule}(h:bH w (.slice p ak.length cap) ak){k:Nat}(hk:k<ak.length):∃g v,p=some ⟨g,0,none⟩/\w.cell? ⟨g,k,none⟩=some v/\aQ w v ak[k]/\ak.length<=cap/\cap<=maxLen:=by
 obtain⟨vs,hr,h3⟩:=h;obtain⟨v,q1,q2⟩:=h3 k hk;obtain⟨h1,h2⟩:=hr;rcases h2 with⟨e,e2⟩|⟨g,cap2,cur,e,_,q3,q4,q5,q6,q7⟩
 ·omega
 ·cases e;refine⟨g,v,rfl,?_,q2,q4,q5⟩;rw[cell_of q3];rw[<-q7,am2]at q1;split at q1
  ·simpa using q1
  ·cases q1
def foE(w:World)(τ:List Tr)(ak:List Rule)(e:Ending):Prop:=
 (e=.returned (.slice none 0 0)/\Sat.Done ak (bel τ))\/∃v r,e=.returned v/\aQ w v r/\r∈ak/\∀u∈r,Sat.wrong (bel τ) u
theorem Io(w:World)(b U:Nat)(rv ov:Value)(tp:List UInt8)(m:Nat)(τ:List Tr)(ak:List Rule)(h:FI w b U rv ov tp m τ ak)(hR:RG U ak)(hU:U<=500)(hn:ak.length<2 ^ 60) :
  Calls prog 133 #[.pointer (some ⟨b,0,none⟩)] w λe w'=>∃τ',foE w' τ' ak e/\FI w' b U rv ov tp m τ' ak/\w.grownBy w' (some m)/\Ext τ τ':=by
 obtain⟨rp,rc,rfl⟩:=h.rows.slice;have H:=aj h;clear h
 go_enter func133,ntmps133
 go_wp2_with fail
 go_loopw [3] (λbf wr=>∃(n:Nat) (σ:List Tr),bf=.int .i64 ((n:Int)-1)/\n<=σ.length+1/\FI wr b U (.slice rp ak.length rc) ov tp m σ ak/\w.grownBy wr (some m)/\(n=σ.length+1->Sat.Done ak (bel σ))/\Ext τ σ) (λbf _=>U+2-(intOf bf+1).toNat)
 case atStart=>exact⟨0,τ,rfl,ag3 _,ah H,ag8 _ _,λe=>by omega,Ext.refl _⟩
 case round=>
  obtain⟨n,σ,rfl,hns,hfi,hgw,hdn,hex⟩:=hrel;have HEX:=aj hex;clear hex;have hσ:=hfi.len;obtain⟨c0,c1,c2,c3,c4⟩:=hfi.uG.cells;have hlen:=hfi.bs.len 3;by_cases hlt:n<σ.length+1
  ·have hbd:(n:Int)-1<(σ.length:Int):=(by omega);have HFI:=aj hfi;have HGW:=aj hgw;clear hfi hgw hdn
   go_wp2_with fail
   go_loopw [25] (λi wq=>∃(k:Nat) (ρ:List Tr),i=.int .i64 k/\k<=ak.length/\FI wq b U (.slice rp ak.length rc) ov tp m ρ ak/\w.grownBy wq (some m)/\σ.length<=ρ.length/\(ρ.length=σ.length->∀j (hj:j<ak.length),j<k->still ρ ak[j])/\Ext τ ρ) (λi _=>ak.length-(intOf i).toNat)
   case atStart=>exact⟨0,σ,rfl,ag3 _,ah HFI,ah HGW,ac2 _,λ_ j hj h=>by omega,ah HEX⟩
   case round=>
    obtain⟨k,ρ,rfl,hk,hfi,hgw,hle,hst,hey⟩:=hrel;have HEY:=aj hey;clear hey;have hρ:=hfi.len;by_cases hkl:k<ak.length
    ·have hbk:(k:Int)<(ak.length:Int):=(by omega);obtain⟨g,v,rfl,hcv,hrv,hc1,hc2⟩:=hfi.rows.at hkl;have hmem:ak[k]∈ak:=ac4 hkl;have hop:=open_any wr b U _ ov tp m ρ hfi.uG hfi.bs v ak[k] hrv (hR.ne _ hmem) (hR.len _ hmem) (λu hu=>by have:=hR.lt _ hmem u hu;omega);have hnx:Hid (still ρ ak[k]->ρ.length=σ.length->∀j (hj:j<ak.length),j<k+1->still ρ ak[j]):=λhs hl j hj hjk=>by
      by_cases e:j=k
      ·subst e;exact hs
      ·exact hst hl j hj (by omega)
     have HFI:=aj hfi;have HGW:=aj hgw;have HRV:=aj hrv;have I8:=aj hmem;have hlr:=hR.lt _ hmem;have Ym:=aj hlr;have hnr:=aj (hR.ne _ hmem);have hcnt:((ak[k].filter (unk ρ)).length:Int)<1001:=by
      have h1:=List.length_filter_le (unk ρ) ak[k];have h2:=hR.len _ hmem;omega
     have HST:=aj hst;clear hfi hgw hrv hst hlr hmem;have TF:Hid ((ak[k].filter (unk ρ)).length=1->ak[k].any (Ei ρ)=false->∀W,wr.grownBy W none->Calls prog 176 #[.pointer (some ⟨b,0,none⟩),.agg #[.int .i64 (dO ρ ak[k]).1,.bool (dO ρ ak[k]).2],v] W λe w'=>(∃v,e=.returned v)/\FI w' b U (.slice (some ⟨g,0,none⟩) ak.length rc) ov tp m (ρ++[((dO ρ ak[k]).1,(dO ρ ak[k]).2,v,ak[k])]) ak/\W.grownBy w' (some m)):=λh1 h2 W hW=>by
      obtain⟨s1,s2,s3⟩:=Gi h2 h1;have hf:=(ah HFI).grown hW;have hxl:=ah Ym _ s1;have hq:(dO ρ ak[k]).1∉ρ.map (·.1):=zJ.1 s2;refine(wO W b U _ ov tp m ρ ((dO ρ ak[k]).1,(dO ρ ak[k]).2,v,ak[k]) hf.uG hf.bs (by omega) (by simp only;omega) hq ((ah HRV).but (But.aA hW) (λk e=>by cases e))).mono ?_;rintro e w2 ⟨e1,e2,e3⟩;refine⟨e1,hf.more e3 e2 ?_ hxl,e3⟩;rw[FT (q:=((dO ρ ak[k]).1,(dO ρ ak[k]).2,v,ak[k])) hq];exact hf.inv.follow (ah I8) s1 s2 s3
     have HBR:Hid ((ak[k].filter (unk ρ)).length=0->ak[k].any (Ei ρ)=false->∀u∈ak[k],Sat.wrong (bel ρ) u):=λh1 h2=>IV h2 h1;have hns:Hid (2<=(ak[k].filter (unk ρ)).length->still ρ ak[k]):=λh=>Or.inr h;generalize ak[k]=r at hop hcnt hnx HRV I8 Ym hnr TF HBR hns;unfold opE at hop;generalize (r.filter (unk ρ)).length=cu at hop hcnt TF HBR hns;generalize dO ρ r=lu at hop TF;obtain⟨lx,li⟩:=lu
     go_wp2_with fail
     refine hop.mono ?_;rintro e w1 ⟨he,hb1⟩;have hg1:=bM hb1;have HG1:=aj hg1;clear hb1 hg1 hop;rcases he with⟨ha,u,rfl⟩|⟨ha,rfl⟩
     ·have hs:=ah hnx (Or.inl ha);have HS:=aj hs;clear hs
      go_wp2_with fail
      refine⟨⟨k+1,ρ,by go_num,hkl,(ah HFI).grown ((ah HG1).trans (ac1 _ _ none)),(ah HGW).andThen ((ah HG1).trans (ac1 _ _ none)) (λj e=>by cases e),hle,ah HS,ah HEY⟩,by simp[intOf];omega⟩
     ·by_cases z0:cu=0
      ·subst z0;have hw:=ah HBR rfl ha;have HW:=aj hw;clear hw;have hgA:wr.grownBy (w1.alloc (.cells #[.int .i64 lx,.bool li] 214)) none:=(ah HG1).trans (ac1 _ _ none);have MK:=(ah HRV).but (But.aA hgA) (λk e=>by cases e);have PU:=(ah HFI).grown hgA;have YF:=(ah HGW).andThen hgA (λj e=>by cases e);have Q1:=aj MK;have Q2:=aj PU;have Q3:=aj YF;clear MK PU YF hgA
       go_wp2_with fail
       exact af2 (v:=v) (by simp[results,results133,go_sem]) rfl ⟨ρ,Or.inr ⟨v,r,rfl,ah Q1,ah I8,ah HW⟩,ah Q2,ah Q3,ah HEY⟩
      ·by_cases z1:cu=1
       ·subst z1;have hbl:=ah TF rfl ha;have HBL:=aj hbl;clear hbl z0
        go_wp2_with fail
        have hgA:wr.grownBy (w1.alloc (.cells #[.int .i64 lx,.bool li] 214)) none:=(ah HG1).trans (ac1 _ _ none);refine(ah HBL _ hgA).mono ?_;rintro e w2 ⟨⟨v2,rfl⟩,PU,hg2⟩;have Q2:=aj PU;have Q3:=aj (((ah HGW).andThen hgA (λj e=>by cases e)).andThen hg2 (λj e=>by cases e;exact Or.inr rfl));clear PU hg2 hgA
        go_wp2_with fail
        refine⟨⟨k+1,_,by go_num,hkl,ah Q2,ah Q3,by rw[ae9];omega,λe=>by rw[ae9,an9]at e;omega,(ah HEY).snoc (ah hnr)⟩,by simp[intOf];omega⟩
       ·have hs:=ah hnx (ah hns (by omega));have HS:=aj hs;clear hs;have z0':(cu:Int)≠0:=(by omega);have z1':(cu:Int)≠1:=by omega
        go_wp2_with fail
        refine⟨⟨k+1,ρ,by go_num,hkl,(ah HFI).grown ((ah HG1).trans (ac1 _ _ none)),(ah HGW).andThen ((ah HG1).trans (ac1 _ _ none)) (λj e=>by cases e),hle,ah HS,ah HEY⟩,by simp[intOf];omega⟩
    ·have hkk:k=ak.length:=(by omega);have hbk:¬(k:Int)<(ak.length:Int):=(by omega);have HFI:=aj hfi;have HGW:=aj hgw;have hdn:Hid (σ.length+1=ρ.length+1->Sat.Done ak (bel ρ)):=λe=>Uh hR.nodup (λi hi=>hst (by omega) i hi (by omega));clear hfi hgw hst hkk
     go_wp2_with fail
     refine⟨⟨σ.length+1,ρ,by go_num,by omega,ah HFI,ah HGW,ah hdn,ah HEY⟩,?_⟩;simp only[intOf];omega
  ·have hbd:¬(n:Int)-1<(σ.length:Int):=(by omega);have hd:=hdn (by omega);have HFI:=aj hfi;have HGW:=aj hgw;have HD:=aj hd;clear hfi hgw hdn hd
   go_wp2_with fail
   exact af2 (v:=.slice none 0 0) (by simp[results,results133,go_sem]) rfl ⟨σ,Or.inl ⟨rfl,ah HD⟩,ah HFI,ah HGW,ah HEX⟩
end
open Go.RowKit Go.Maps Go.WideMaps
open aB (Key put)
def gK(w:World)(b:Nat)(f:Key->Key)(dom:Key->Prop)(c:Nat):Prop:=
 ∃(D:DataW Value) (nn:Nat),nn<=c/\w.ownsMap prog 93 uP b nn D/\
  ∀k l,dom k->keyOf prog 93 (aS k)=some l->Maps.has D l=decide (f k≠k)/\(f k≠k->∀z,D.atKey l z=.held (aS (f k)))
theorem gK.lt{w:World}{b c:Nat}{f:Key->Key}{dom:Key->Prop}(h:gK w b f dom c):b<w.heap.size:=by
 obtain⟨D,nn,_,h1,_⟩:=h;exact h1.lt
theorem gK.kept{w w':World}{b c:Nat}{f:Key->Key}{dom:Key->Prop}(h:gK w b f dom c)(hb:w'.heap[b]?=w.heap[b]?):gK w' b f dom c:=by
 obtain⟨D,nn,h0,⟨es,clock,h1,h2⟩,h3⟩:=h;exact⟨D,nn,h0,⟨es,clock,hb.trans h1,h2⟩,h3⟩
theorem gK.congr{w:World}{b c:Nat}{f g:Key->Key}{dom:Key->Prop}(h:gK w b f dom c)(e:∀k,dom k->f k=g k):gK w b g dom c:=by
 obtain⟨D,nn,h0,h1,h2⟩:=h;exact⟨D,nn,h0,h1,λk l hk hl=>by rw[<-e k hk];exact h2 k l hk hl⟩
theorem gK.made(w:World)(dom:Key->Prop):gK (w.alloc (.map #[] 0)) w.heap.size id dom 0:=
 ⟨.map [],0,ac2 _,World.ownsMap_made w _ _ _,λk l _ _=>⟨by simp[Maps.has],λh=>absurd rfl h⟩⟩
theorem Xv(w:World):(zeroValue 93).run prog w=.ok (aS (0,0,0)) w:=by kernel_rfl
theorem gK.look{w:World}{b c:Nat}{f:Key->Key}{dom:Key->Prop}(h:gK w b f dom c){k:Key}(hk:dom k)(h1:0<=k.1/\k.1<=255)(h2:k.2.1<=1000)(h3:k.2.2<=1000) :
  ∃v:Key,(Instr.lookup 208 (.map (some b)) (aS k) true).run prog w=.ok (.tuple #[aS v,.bool (decide (f k≠k))]) w/\(f k≠k->v=f k):=by
 obtain⟨l,hkey⟩:=LW k h1 h2 h3;obtain⟨D,nn,h0,hown,hall⟩:=h;obtain⟨q1,q2⟩:=hall k l hk hkey;obtain⟨v,ps,hrun,hv⟩:=hown.look_ok oN underlying208 (Xv w) (zd:=.held (aS (0,0,0))) (zp:=[]) rfl hkey;by_cases e:f k=k
 ·have hh:Maps.has D l=false:=by rw[q1];simp[e]
  obtain⟨es,e1,e2,_⟩:=hown.entries oN;subst e1;have h2:(es.find? λp=>p.1.sameKey l)=none:=by
   rw[aq9];intro p hp1 hp2;have:Maps.has (.map es) l=true:=am1.2 ⟨p,hp1,hp2⟩;rw[hh]at this;cases this
  simp only[DataW.atKey]at hv;rw[h2]at hv;cases hv;refine⟨(0,0,0),?_,λh=>absurd e h⟩;rw[hrun,hh];simp[e]
 ·rw[q2 e]at hv;cases hv;refine⟨f k,?_,λ_=>rfl⟩;rw[hrun,q1]
def vP(k:Key):Array Value:=#[.int .u8 k.1,.int .i64 k.2.1,.int .i64 k.2.2]
theorem BQ(w:World)(b c:Nat)(f:Key->Key)(dom:Key->Prop)(k:Key)(hM:gK w b f dom c)(hk:dom k)(hfk:dom (f k))(hff:f (f k)=f k)
 (hb:(0<=k.1/\k.1<=255)/\k.2.1<=1000/\k.2.2<=1000)(hbf:(0<=(f k).1/\(f k).1<=255)/\(f k).2.1<=1000/\(f k).2.2<=1000) :
  Calls prog 198 #[.map (some b),aS k] w λe w'=>e=.returned (aS (f k))/\w.grownBy w' none:=by
 have hlt:=hM.lt;have hrun:Hid (∀W:World,W.heap[b]?=w.heap[b]?->∃v:Key,(Instr.lookup 208 (.map (some b)) (aS k) true).run prog W=.ok (.tuple #[aS v,.bool (decide (f k≠k))]) W/\(f k≠k->v=f k)):=λW hW=>(hM.kept hW).look hk hb.1 hb.2.1 hb.2.2;have hrun2:Hid (∀W:World,W.heap[b]?=w.heap[b]?->∃v:Key,(Instr.lookup 208 (.map (some b)) (aS (f k)) true).run prog W=.ok (.tuple #[aS v,.bool (decide (f (f k)≠f k))]) W/\(f (f k)≠f k->v=f (f k))):=λW hW=>(hM.kept hW).look hfk hbf.1 hbf.2.1 hbf.2.2;clear hM hk hfk;have h1:((w.alloc (.cells (vP k) 93)).alloc (.cells #[.int .u8 0,.int .i64 0,.int .i64 0] 93)).heap[b]?=w.heap[b]?:=by
  rw[ad4 _ _ _ (by simp;omega),ad4 _ _ _ hlt]
 obtain⟨v,hr,hv⟩:=ah hrun _ h1;by_cases e:f k=k
 ·have hd:decide (f k≠k)=false:=by simp[e]
  rw[hd]at hr;rw[e];clear hd hv hrun hrun2 h1 hff hbf;obtain⟨kc,kx,ky⟩:=k;obtain⟨vc,vx,vy⟩:=v;simp only[aS,vP]at hr ⊢
  go_enter func198,ntmps198
  go_wp2_with fail
  refine wp_loop_rounds 1 ?_;rw[an1]
  go_wp2_with fail
  refine af2 (v:=.agg #[.int .u8 kc,.int .i64 kx,.int .i64 ky]) (by simp[results,results198,go_sem]) rfl ⟨rfl,?_⟩;exact((ac1 _ _ none).trans (ac1 _ _ none)).trans (ac1 _ _ none)
 ·have hd:decide (f k≠k)=true:=by simp[e]
  rw[hd]at hr;obtain rfl:=hv e;have hd2:decide (f (f k)≠f k)=false:=by simp[hff]
  rw[hd2]at hrun2;clear hd hd2 hv hrun h1 hff e;generalize f k=k2 at hr hrun2 hbf;obtain⟨kc,kx,ky⟩:=k;obtain⟨vc,vx,vy⟩:=k2;simp only[aS,vP]at hr hrun2 ⊢
  go_enter func198,ntmps198
  go_wp2_with fail
  refine wp_loop_rounds 2 ?_;rw[an1]
  go_wp2_with fail
  obtain⟨v3,hr3,_⟩:=ah hrun2 (((w.alloc (.cells #[.int .u8 vc,.int .i64 vx,.int .i64 vy] 93)).alloc (.cells #[.int .u8 0,.int .i64 0,.int .i64 0] 93)).alloc (.cells #[.int .u8 vc,.int .i64 vx,.int .i64 vy] 93)) (by
   rw[ad4 _ _ _ (by simp;omega),ad4 _ _ _ (by simp;omega),ad4 _ _ _ hlt])
  obtain⟨zc,zx,zy⟩:=v3;simp only at hr3;rw[an1]
  go_wp2_with fail
  refine af2 (v:=.agg #[.int .u8 vc,.int .i64 vx,.int .i64 vy]) (by simp[results,results198,go_sem]) rfl ⟨rfl,?_⟩;exact(((ac1 _ _ none).trans (ac1 _ _ none)).trans (ac1 _ _ none)).trans (ac1 _ _ none)
end Go.Proofs.YthcppbmkacbbiaaGreat
