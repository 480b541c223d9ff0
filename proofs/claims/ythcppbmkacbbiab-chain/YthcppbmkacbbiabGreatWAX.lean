import Derived.Test.YthcppbmkacbbiabGreatWAW
set_option linter.unusedSimpArgs false
namespace Go.Proofs.YthcppbmkacbbiabGreat
open Sat (View Rule jk bG)
structure TI(U:Nat)(τ:List Tr)(ak:List Rule):Prop where
 inv:Sat.BInv ak (bel τ) τ.length
 nodup:(τ.map (·.1)).Nodup
 lt:∀q∈τ,q.1<U
theorem TI.len{U:Nat}{τ:List Tr}{ak:List Rule}(h:TI U τ ak):τ.length<=U:=by
 have:=jc U (τ.map (·.1)) h.nodup (λx hx=>by
  obtain⟨q,hq,rfl⟩:=af9.1 hx;exact h.lt q hq)
 simpa using this
structure Pot(U:Nat)(E:Prop)(Jp J:Nat->List UInt8->List Tr->List Rule->Prop):Prop where
 follow:∀p tp τ ak ρ,Jp p tp τ ak->Byr ρ->TI U (τ++ρ) ak->(Sat.Done ak (bel (τ++ρ))\/∃r∈ak,∀u∈r,Sat.wrong (bel (τ++ρ)) u)->J p tp (τ++ρ) ak
 choose:∀p tp τ ak x v,J p tp τ ak->TI U τ ak->Sat.Done ak (bel τ)->TI U (τ++[(x,decide (dg tp%2=1),v,[])]) ak->Jp p tp.tail (τ++[(x,decide (dg tp%2=1),v,[])]) ak
 back:∀p tp τ ak C x i k,J p tp τ ak->TI U τ ak->Sat.eY (bel τ) C x i k->∃p',p'<p/\Jp p' tp.tail (τ.take k) (ak++[C])/\(dg tp%2=1->Jp p' tp.tail [] (ak++[C]))
 obj:E->∀p tp τ ak C,J p tp τ ak->TI U τ ak->Sat.Done ak (bel τ)->(∀r∈ak,∀u∈r,u.1<U)->(∀x,x<U->bel τ x≠none)->(∀u∈C,u.1<U/\Sat.wrong (bel τ) u)->∃p',p'<p/\Jp p' tp [] (ak++[C])
def zY:Nat->List Tr->Nat
 |0,_=>0
 |_+1,[]=>0
 |U+1,q::τ=>(if q.2.2.2.isEmpty then 0 else 2 ^ U)+zY U τ
theorem Gz:∀(U:Nat) (τ:List Tr),zY U τ<2 ^ U
 |0,_=>by simp[zY]
 |U+1,[]=>by simp[zY];exact Nat.two_pow_pos _
 |U+1,q::τ=>by
  have:=Gz U τ;simp only[zY];split<;>(rw[Nat.pow_succ];omega)
theorem BO:∀(U:Nat) (τ ρ:List Tr),zY U τ<=zY U (τ++ρ)
 |0,_,_=>by simp[zY]
 |U+1,[],_=>by simp[zY]
 |U+1,q::τ,ρ=>by
  have:=BO U τ ρ;simp only[zY,ae6];omega
theorem Ef:∀(U:Nat) (τ:List Tr) (q:Tr) (ρ:List Tr),q.2.2.2≠[]->τ.length<U->zY U τ+2 ^ (U-1-τ.length)<=zY U (τ++q::ρ)
 |0,_,_,_,_,h=>by omega
 |U+1,[],q,ρ,hq,_=>by
  have hq':q.2.2.2.isEmpty=false:=by simpa using hq
  simp[zY,hq']
 |U+1,a::τ,q,ρ,hq,h=>by
  have ih:=Ef U τ q ρ hq (by simpa using h);have e:U+1-1-(a::τ).length=U-1-τ.length:=by simp;omega
  rw[e];simp only[zY,ae6];omega
theorem Eh:∀(U:Nat) (τ:List Tr) (k:Nat) (hk:k<τ.length),τ[k].2.2.2=[]->k<U->zY U τ<zY U (τ.take k)+2 ^ (U-1-k)
 |0,_,_,_,_,h=>by omega
 |U+1,[],_,h,_,_=>by simp at h
 |U+1,a::τ,0,_,hq,_=>by
  have:=Gz U τ;simp at hq;simp[zY,hq];exact this
 |U+1,a::τ,k+1,hk,hq,h=>by
  have ih:=Eh U τ k (by simpa using hk) (by simpa using hq) (by omega);have e:U+1-1-(k+1)=U-1-k:=by omega
  rw[e];simp only[zY,List.take_succ_cons];omega
theorem oK{τ ρ:List Tr}(hn:((τ++ρ).map (·.1)).Nodup){j:Nat}(hj:j<=τ.length){u:View}:Sat.gK (bel (τ++ρ)) j u↔Sat.gK (bel τ) j u:=by
 have h:=mJ hn τ.length;rw[List.take_left]at h;rw[h];exact(Sat.iL hj).symm
def NB(τ:List Tr)(ak:List Rule):Prop:=∀j (hj:j<τ.length),τ[j].2.2.2=[]->∀r∈ak,∃u∈r,¬Sat.gK (bel τ) j u
theorem NB.follow{τ ρ:List Tr}{ak:List Rule}(h:NB τ ak)(hρ:Byr ρ)(hn:((τ++ρ).map (·.1)).Nodup):NB (τ++ρ) ak:=by
 intro j hj hc r hr;by_cases hlt:j<τ.length
 ·rw[aj9 hlt]at hc;obtain⟨u,hu,h1⟩:=h j hlt hc r hr;exact⟨u,hu,λh2=>h1 ((oK hn (by omega)).1 h2)⟩
 ·rw[ap7 (by omega)]at hc;exact absurd hc (hρ _ (ad8 _))
theorem tq{τ:List Tr}{ak:List Rule}(hd:Sat.Done ak (bel τ)){r:Rule}(hr:r∈ak):∃u∈r,¬Sat.wrong (bel τ) u:=by
 rcases hd r hr with⟨v,hv,b,h1,h2⟩|⟨u,hu,v,hv,_,h1,_⟩
 ·exact⟨v,hv,fun⟨c,g1,g2⟩=>by rw[h1]at g1;cases g1;exact g2 h2⟩
 ·exact⟨u,hu,fun⟨c,g1,g2⟩=>by rw[h1]at g1;cases g1⟩
theorem NB.choose{τ:List Tr}{q:Tr}{ak:List Rule}(h:NB τ ak)(hd:Sat.Done ak (bel τ))(hn:((τ++[q]).map (·.1)).Nodup):NB (τ++[q]) ak:=by
 intro j hj hc r hr;by_cases hlt:j<τ.length
 ·rw[aj9 hlt]at hc;obtain⟨u,hu,h1⟩:=h j hlt hc r hr;exact⟨u,hu,λh2=>h1 ((oK hn (by omega)).1 h2)⟩
 ·have:j=τ.length:=by simp at hj;omega
  subst this;obtain⟨u,hu,h1⟩:=tq hd hr;exact⟨u,hu,λh2=>by
   obtain⟨b,g1,g2,_⟩:=(oK hn (ad5 _)).1 h2;exact h1 ⟨b,g1,g2⟩⟩
theorem eY.at{τ:List Tr}{C:Rule}{x k:Nat}{i:Bool}(h:Sat.eY (bel τ) C x i k):∃hk:k<τ.length,τ[k].1=x/\τ[k].2.1=i/\τ[k].2.2.2=[]:=by
 have h1:=h.top;unfold bel at h1;cases e:mD τ x with
 |none=>rw[e]at h1;cases h1
 |some q=>
  rw[e]at h1;obtain⟨q,j⟩:=q;obtain⟨g1,g2,g3⟩:=dG e;simp at h1;obtain⟨h1,rfl,h2⟩:=h1;subst g3;exact⟨g2,g1,h1,h2⟩
theorem eY.none{τ:List Tr}(hn:(τ.map (·.1)).Nodup){C:Rule}{x k:Nat}{i:Bool}(h:Sat.eY (bel τ) C x i k):bel (τ.take k) x=none:=by
 rw[mJ hn];cases e:Sat.before (bel τ) k x with
 |none=>rfl
 |some b=>
  obtain⟨h1,h2⟩:=Sat.bZ.1 e;rw[h.top]at h1;cases h1;simp at h2
theorem eY.wrong{τ:List Tr}(hn:(τ.map (·.1)).Nodup){C:Rule}{x k:Nat}{i:Bool}(h:Sat.eY (bel τ) C x i k){u:View}(hu:u∈C)(hne:u≠(x,!i)):Sat.wrong (bel (τ.take k)) u:=by
 rcases h.rest u hu with e|⟨j,m,h1,h2,h3⟩
 ·exact absurd e hne
 ·rw[mJ hn];exact⟨_,Sat.bZ.2 ⟨h1,h3⟩,by rw[h2];cases j<;>simp⟩
theorem NB.back{τ:List Tr}{ak:List Rule}(h:NB τ ak)(hn:(τ.map (·.1)).Nodup){C:Rule}{x k:Nat}{i:Bool}(hC:Sat.eY (bel τ) C x i k):NB (τ.take k) (ak++[C]):=by
 intro j hj hc r hr;have hj':j<k/\j<τ.length:=by simp at hj;omega
 rw[List.getElem_take]at hc;rcases ag9.1 hr with hr|hr
 ·obtain⟨u,hu,h1⟩:=h j hj'.2 hc r hr;exact⟨u,hu,λh2=>h1 (by rw[mJ hn]at h2;exact(Sat.iL (by omega)).1 h2)⟩
 ·rw[ag0.1 hr];refine⟨_,hC.mem,fun⟨b,g1,_⟩=>?_⟩;have:=eY.none hn hC;simp only at g1;rw[this]at g1;cases g1
def aan(τ:List Tr)(ak:List Rule):Prop:=¬Sat.Done ak (bel τ)/\∀r∈ak,∃u∈r,¬Sat.wrong (bel τ) u
theorem LC{τ:List Tr}{ak:List Rule}(h:NB τ ak)(hn:(τ.map (·.1)).Nodup){C:Rule}{x k:Nat}{i:Bool}(hC:Sat.eY (bel τ) C x i k):aan (τ.take k) (ak++[C]):=by
 have h0:=eY.none hn hC;refine⟨λhd=>?_,λr hr=>?_⟩
 ·rcases hd C (by simp)with⟨v,hv,b,h1,h2⟩|⟨u,hu,v,hv,hne,h1,h2⟩
  ·by_cases e:v=(x,!i)
   ·subst e;simp only at h1;rw[h0]at h1;cases h1
   ·obtain⟨c,g1,g2⟩:=eY.wrong hn hC hv e;rw[h1]at g1;cases g1;exact g2 h2
  ·have k1:u=(x,!i):=ah3 λe=>by
    obtain⟨c,g1,g2⟩:=eY.wrong hn hC hu e;rw[h1]at g1;cases g1
   have k2:v=(x,!i):=ah3 λe=>by
    obtain⟨c,g1,g2⟩:=eY.wrong hn hC hv e;rw[h2]at g1;cases g1
   exact hne (k1.trans k2.symm)
 ·obtain⟨hk,_,_,hc⟩:=eY.at hC;rcases ag9.1 hr with hr|hr
  ·obtain⟨u,hu,h1⟩:=h k hk hc r hr;refine⟨u,hu,fun⟨b,g1,g2⟩=>h1 ?_⟩;rw[mJ hn]at g1;obtain⟨g3,g4⟩:=Sat.bZ.1 g1;exact⟨b,g3,g2,g4⟩
  ·rw[ag0.1 hr];refine⟨_,hC.mem,fun⟨b,g1,_⟩=>?_⟩;simp only at g1;rw[h0]at g1;cases g1
def J0(U:Nat)(p:Nat)(tp:List UInt8)(τ:List Tr)(ak:List Rule):Prop:=
 NB τ ak/\((tp≠[]/\tp.length+2 ^ U<=p)\/(tp=[]/\2 ^ U<=p+zY U τ))
def Jp0(U:Nat)(p:Nat)(tp:List UInt8)(τ:List Tr)(ak:List Rule):Prop:=
 NB τ ak/\((tp≠[]/\tp.length+2 ^ U<=p)\/(tp=[]/\(2 ^ U<=p+zY U τ\/(aan τ ak/\τ.length<U/\2 ^ U<=p+zY U τ+2 ^ (U-1-τ.length)))))
theorem aat(U:Nat):Pot U False (Jp0 U) (J0 U):=by
 refine⟨?_,?_,?_,λh=>h.elim⟩
 ·rintro p tp τ ak ρ ⟨hnb,h⟩ hρ hti hor;refine⟨hnb.follow hρ hti.nodup,?_⟩;rcases h with h|⟨h1,h2⟩
  ·exact Or.inl h
  ·refine Or.inr ⟨h1,?_⟩;rcases h2 with h2|⟨⟨hp1,hp2⟩,hlt,h2⟩
   ·have:=BO U τ ρ;omega
   ·cases ρ with
    |nil=>
     exfalso;rw[ak9]at hor;rcases hor with hor|⟨r,hr,hor⟩
     ·exact hp1 hor
     ·obtain⟨u,hu,hw⟩:=hp2 r hr;exact hw (hor u hu)
    |cons q ρ=>
     have:=Ef U τ q ρ (hρ q (by simp)) hlt;omega
 ·rintro p tp τ ak x v ⟨hnb,h⟩ hti hd YG;refine⟨hnb.choose hd YG.nodup,?_⟩;have hv:=BO U τ [(x,decide (dg tp%2=1),v,[])];rcases h with⟨h1,h2⟩|⟨h1,h2⟩
  ·cases tp with
   |nil=>exact absurd rfl h1
   |cons c tp=>
    simp only[ae1,List.tail_cons]at h2 ⊢;by_cases e:tp=[]
    ·exact Or.inr ⟨e,Or.inl (by omega)⟩
    ·exact Or.inl ⟨e,by omega⟩
  ·subst h1;exact Or.inr ⟨rfl,Or.inl (by omega)⟩
 ·rintro p tp τ ak C x i k ⟨hnb,h⟩ hti hC;have hb:=hnb.back hti.nodup hC;have h0:NB [] (ak++[C]):=λj hj=>by simp at hj
  have hpos:=Nat.two_pow_pos U;rcases h with⟨h1,h2⟩|⟨h1,h2⟩
  ·cases tp with
   |nil=>exact absurd rfl h1
   |cons c tp=>
    simp only[ae1,List.tail_cons]at h2 ⊢;refine⟨p-1,by omega,?_,λ_=>?_⟩
    ·refine⟨hb,?_⟩;by_cases e:tp=[]
     ·exact Or.inr ⟨e,Or.inl (by omega)⟩
     ·exact Or.inl ⟨e,by omega⟩
    ·refine⟨h0,?_⟩;by_cases e:tp=[]
     ·exact Or.inr ⟨e,Or.inl (by omega)⟩
     ·exact Or.inl ⟨e,by omega⟩
  ·subst h1;have hl:=Gz U τ;obtain⟨hk,_,_,hc⟩:=eY.at hC;have hlen:=hti.len;have hvb:=Eh U τ k hk hc (by omega);have hkl:(τ.take k).length=k:=(by simp;omega);refine⟨p-1,by omega,⟨hb,Or.inr ⟨rfl,Or.inr ⟨LC hnb hti.nodup hC,by omega,by rw[hkl];omega⟩⟩⟩,λh=>by simp[dg]at h⟩
theorem DV:∀(U:Nat) (f:Nat->Bool),∃c,c<2 ^ U/\∀x,x<U->c.testBit x=f x
 |0,_=>⟨0,by simp,λx hx=>by omega⟩
 |U+1,f=>by
  obtain⟨c,h1,h2⟩:=DV U f;cases hf:f U
  ·refine⟨c,by rw[Nat.pow_succ];omega,λx hx=>?_⟩;by_cases e:x=U
   ·rw[e,hf];exact Nat.testBit_lt_two_pow h1
   ·exact h2 x (by omega)
  ·refine⟨2 ^ U+c,by rw[Nat.pow_succ];omega,λx hx=>?_⟩;by_cases e:x=U
   ·rw[e,hf,Nat.testBit_two_pow_add_eq,Nat.testBit_lt_two_pow h1];rfl
   ·rw[Nat.testBit_two_pow_add_gt (by omega)];exact h2 x (by omega)
def Tl(τ:List Tr):List Nat:=(τ.filter λq=>q.2.2.2.isEmpty&&q.2.1).map (·.1)
theorem Oa{τ ρ:List Tr}(h:Byr ρ):Tl (τ++ρ)=Tl τ:=by
 unfold Tl;rw[an3];have:ρ.filter (λq=>q.2.2.2.isEmpty&&q.2.1)=[]:=List.filter_eq_nil_iff.2 λq hq=>by
  have:=h q hq;simp[this]
 rw[this,ak9]
theorem Ob(τ:List Tr)(x:Nat)(v:Value)(i:Bool):(Tl (τ++[(x,i,v,[])]))=Tl τ++(if i then [x]else []):=by
 unfold Tl;rw[an3];cases i<;>simp
theorem Vg(τ:List Tr)(k:Nat):Tl (τ.take k) <+: Tl τ:=by
 unfold Tl;refine List.IsPrefix.map _ (List.IsPrefix.filter _ (List.take_prefix k τ))
theorem XL{τ:List Tr}(hn:(τ.map (·.1)).Nodup){x m:Nat}{j:Bool}(h:bel τ x=some (j,m,[])):x∈Tl τ↔j=true:=by
 unfold bel at h;cases e:mD τ x with
 |none=>rw[e]at h;cases h
 |some q=>
  rw[e]at h;obtain⟨q,t⟩:=q;obtain⟨g1,g2,g3⟩:=dG e;simp at h;obtain⟨h1,rfl,h2⟩:=h;unfold Tl;constructor
  ·intro hx;obtain⟨q',hq,h3⟩:=af9.1 hx;obtain⟨hq1,hq2⟩:=ai3.1 hq;obtain⟨s,hs,h4⟩:=ai0 hq1;have h5:=jg hn hs;rw[h4,h3,e]at h5;cases h5;simp at hq2;rw[<-h1];exact hq2.2
  ·intro hj;refine af9.2 ⟨q,ai3.2 ⟨?_,?_⟩,g1⟩
   ·rw[<-g3];exact ad8 _
   ·simp[h2,h1,hj]
structure X4(U:Nat)(ak:List Rule)(As:List Nat):Prop where
 nodup:As.Nodup
 lt:∀c∈As,c<2 ^ U
 broke:∀c∈As,∃r∈ak,∀v∈r,c.testBit v.1≠v.2
theorem X4.len{U:Nat}{ak:List Rule}{As:List Nat}(h:X4 U ak As):As.length<=2 ^ U:=jc _ _ h.nodup h.lt
theorem X4.more{U:Nat}{ak:List Rule}{As:List Nat}(h:X4 U ak As)(C:Rule):X4 U (ak++[C]) As:=
 ⟨h.nodup,h.lt,λc hc=>by obtain⟨r,hr,h1⟩:=h.broke c hc;exact⟨r,ai5 _ hr,h1⟩⟩
structure SV(U:Nat)(T:List Nat)(ak:List Rule)(Ls:List Nat):Prop where
 nodup:Ls.Nodup
 lt:∀c∈Ls,c<61*2 ^ U
 is:∀c∈Ls,T.length<c/2 ^ U\/(c/2 ^ U=T.length/\∃r∈ak,(∀x,(c%2 ^ U).testBit x=true↔∃s,(x,s)∈r)/\∀v∈r,(v.2=false↔v.1∈T))
theorem SV.nil(U:Nat)(T:List Nat)(ak:List Rule):SV U T ak []:=⟨ap3,λc h=>by(cases h),λc h=>by(cases h)⟩
theorem SV.back{U:Nat}{T T':List Nat}{ak:List Rule}{Ls:List Nat}(h:SV U T ak Ls)(hp:T' <+: T)(C:Rule):SV U T' (ak++[C]) Ls:=by
 refine⟨h.nodup,h.lt,λc hc=>?_⟩;have hl:=hp.length_le;rcases h.is c hc with h1|⟨h1,r,hr,h2⟩
 ·left;omega
 ·by_cases e:T'.length=T.length
  ·have:=hp.eq_of_length e;subst this;exact Or.inr ⟨h1,r,ai5 _ hr,h2⟩
  ·left;omega
def J1(U:Nat)(p:Nat)(tp:List UInt8)(τ:List Tr)(ak:List Rule):Prop:=
 (Tl τ).length+tp.length<=60/\∃As,X4 U ak As/\((tp≠[]/\tp.length+62*2 ^ U<=p+As.length)\/(tp=[]/\∃Ls,SV U (Tl τ) ak Ls/\62*2 ^ U<=p+Ls.length+As.length))
theorem aas(U:Nat):Pot U True (J1 U) (J1 U):=by
 have hpos:=Nat.two_pow_pos U;refine⟨?_,?_,?_,λ_=>?_⟩
 ·rintro p tp τ ak ρ ⟨h0,h⟩ hρ hti hor;unfold J1;rw[Oa hρ];exact⟨h0,h⟩
 ·rintro p tp τ ak x v ⟨h0,As,hA,h⟩ hti hd YG;unfold J1;rw[Ob];cases tp with
  |nil=>
   rcases h with⟨h1,h2⟩|⟨h1,h2⟩
   ·exact absurd rfl h1
   ·simp only[dg,List.tail_nil,ae8]at h0 ⊢;simp only[Nat.zero_mod,Nat.zero_ne_one,decide_false,an4,an6,ak9];exact⟨h0,As,hA,Or.inr ⟨trivial,h2⟩⟩
  |cons c tp=>
   rcases h with⟨h1,h2⟩|⟨h1,h2⟩
   ·simp only[ae1,List.tail_cons]at h0 h2 ⊢;refine⟨?_,As,hA,?_⟩
    ·rw[af8];split<;>simp<;>omega
    ·by_cases e:tp=[]
     ·exact Or.inr ⟨e,[],SV.nil _ _ _,by simp;omega⟩
     ·exact Or.inl ⟨e,by omega⟩
   ·cases h1
 ·rintro p tp τ ak C x i k ⟨h0,As,hA,h⟩ hti hC;have hAl:=hA.len;have ht:=Vg τ k;have hz:Tl [] <+: Tl τ:=by exact List.nil_prefix
  rcases h with⟨h1,h2⟩|⟨h1,Ls,hL,h2⟩
  ·cases tp with
   |nil=>exact absurd rfl h1
   |cons c tp=>
    simp only[ae1,List.tail_cons]at h0 h2 ⊢;have key:∀σ:List Tr,Tl σ <+: Tl τ->J1 U (p-1) tp σ (ak++[C]):=λσ hσ=>by
     have:=hσ.length_le;refine⟨by omega,As,hA.more C,?_⟩;by_cases e:tp=[]
     ·exact Or.inr ⟨e,[],SV.nil _ _ _,by simp;omega⟩
     ·exact Or.inl ⟨e,by omega⟩
    exact⟨p-1,by omega,key _ ht,λ_=>key _ hz⟩
  ·subst h1;simp only[ae8,List.tail_nil]at h0 ⊢;obtain⟨c0,hc0,hc1⟩:=DV U (λy=>C.any (λv=>v.1==y));have hCU:∀v∈C,v.1<U:=λv hv=>by
    have hb:∃b,bel τ v.1=some b:=by
     rcases hC.rest v hv with e|⟨j,m,g,_⟩
     ·rw[e];exact⟨_,hC.top⟩
     ·exact⟨_,g⟩
    obtain⟨b,hb⟩:=hb;unfold bel at hb;cases e:mD τ v.1 with
    |none=>rw[e]at hb;cases hb
    |some q=>
     obtain⟨q,t⟩:=q;obtain⟨g1,g2,g3⟩:=dG e;rw[<-g1,<-g3];exact hti.lt _ (ad8 _)
   have VD:∀y,c0.testBit y=true↔∃s,(y,s)∈C:=λy=>by
    constructor
    ·intro h;by_cases hy:y<U
     ·rw[hc1 y hy]at h;obtain⟨v,hv,e⟩:=an1.1 h;have e:v.1=y:=(by simpa using e);subst e;exact⟨v.2,hv⟩
     ·rw[Nat.testBit_lt_two_pow (af5 hc0 (Nat.pow_le_pow_right (by omega) (by omega)))]at h;cases h
    ·rintro⟨s,hs⟩;rw[hc1 y (hCU _ hs)];exact an1.2 ⟨_,hs,by simp⟩
   have Qg:∀v∈C,(v.2=false↔v.1∈Tl τ):=λv hv=>by
    have hb:∃j m,bel τ v.1=some (j,m,[])/\v.2=!j:=by
     rcases hC.rest v hv with e|⟨j,m,g,g2,_⟩
     ·rw[e];exact⟨_,_,hC.top,rfl⟩
     ·exact⟨_,_,g,g2⟩
    obtain⟨j,m,hb,h3⟩:=hb;rw[XL hti.nodup hb,h3];cases j<;>simp
   have hd:(c0+(Tl τ).length*2 ^ U)/2 ^ U=(Tl τ).length:=by
    rw[Nat.add_mul_div_right _ _ hpos,Nat.div_eq_of_lt hc0];omega
   have hm:(c0+(Tl τ).length*2 ^ U)%2 ^ U=c0:=by
    rw[Nat.add_mul_mod_self_right,Nat.mod_eq_of_lt hc0]
   have hc:c0+(Tl τ).length*2 ^ U<61*2 ^ U:=by
    have:(Tl τ).length*2 ^ U<=60*2 ^ U:=Nat.mul_le_mul_right _ (by omega);omega
   have hnew:c0+(Tl τ).length*2 ^ U∉Ls:=λhmem=>by
    rcases hL.is _ hmem with g|⟨_,r,hr,g1,g2⟩
    ·omega
    ·rw[hm]at g1;refine hti.inv.fresh hC hr (λv=>?_);have hg:(∃s,(v.1,s)∈r)↔∃s,(v.1,s)∈C:=(g1 v.1).symm.trans (VD v.1);constructor
     ·intro hv;obtain⟨s,hs⟩:=hg.1 ⟨v.2,hv⟩;have e1:=g2 v hv;have e2:=Qg _ hs;have:v=(v.1,s):=by
       have:v.2=s:=by
        have e3:=e1.trans e2.symm;cases hv2:v.2<;>cases hs2:s<;>simp_all
       rw[<-this]
      rw[this];exact hs
     ·intro hv;obtain⟨s,hs⟩:=hg.2 ⟨v.2,hv⟩;have e1:=Qg v hv;have e2:=g2 _ hs;have:v=(v.1,s):=by
       have:v.2=s:=by
        have e3:=e1.trans e2.symm;cases hv2:v.2<;>cases hs2:s<;>simp_all
       rw[<-this]
      rw[this];exact hs
   have hL2:SV U (Tl τ) (ak++[C]) ((c0+(Tl τ).length*2 ^ U)::Ls):=by
    have hb:=hL.back (al1 _) C;refine⟨List.nodup_cons.2 ⟨hnew,hb.nodup⟩,λc hcm=>?_,λc hcm=>?_⟩
    ·rcases ah8.1 hcm with e|hcm
     ·rw[e];exact hc
     ·exact hb.lt c hcm
    ·rcases ah8.1 hcm with e|hcm
     ·rw[e];right;rw[hd,hm];exact⟨rfl,C,by simp,VD,Qg⟩
     ·exact hb.is c hcm
   have hLl:=jc _ _ hL2.nodup hL2.lt;simp only[ae1]at hLl;refine⟨p-1,by omega,⟨by simp;have:=ht.length_le;omega,As,hA.more C,Or.inr ⟨rfl,_,⟨hL2.nodup,hL2.lt,λc hcm=>?_⟩,by simp;omega⟩⟩,λh=>by simp[dg]at h⟩;rcases hL2.is c hcm with g|⟨g,g2⟩
   ·left;have:=ht.length_le;omega
   ·by_cases e:(Tl (τ.take k)).length=(Tl τ).length
    ·have:=ht.eq_of_length e;rw[this];exact Or.inr ⟨g,g2⟩
    ·left;have:=ht.length_le;omega
 ·rintro p tp τ ak C ⟨h0,As,hA,h⟩ hti hd hru htot hC;obtain⟨a,ha,hb⟩:=DV U (λy=>match bel τ y with|some b=>b.1|none=>false);have hbit:∀y b,y<U->bel τ y=some b->a.testBit y=b.1:=λy b hy hb2=>by rw[hb y hy,hb2]
  have hnew:a∉As:=λhm=>by
   obtain⟨r,hr,h1⟩:=hA.broke a hm;rcases hd r hr with⟨v,hv,b,g1,g2⟩|⟨u,hu,v,hv,_,g1,_⟩
   ·exact h1 v hv ((hbit _ _ (hru r hr v hv) g1).trans g2)
   ·exact htot _ (hru r hr u hu) g1
  have hA2:X4 U (ak++[C]) (a::As):=by
   refine⟨List.nodup_cons.2 ⟨hnew,hA.nodup⟩,λc hc=>?_,λc hc=>?_⟩
   ·rcases ah8.1 hc with e|hc
    ·rw[e];exact ha
    ·exact hA.lt c hc
   ·rcases ah8.1 hc with e|hc
    ·rw[e];refine⟨C,by simp,λv hv=>?_⟩;obtain⟨g0,b,g1,g2⟩:=hC v hv;rw[hbit _ _ g0 g1];exact g2
    ·exact(hA.more C).broke c hc
  have hAl:=hA2.len;simp only[ae1]at hAl;have hz:Tl [] <+: Tl τ:=by exact List.nil_prefix
  have hzl:=hz.length_le;rcases h with⟨h1,h2⟩|⟨h1,Ls,hL,h2⟩
  ·exact⟨p-1,by omega,by omega,_,hA2,Or.inl ⟨h1,by simp;omega⟩⟩
  ·subst h1;have hLl:=jc _ _ hL.nodup hL.lt;exact⟨p-1,by omega,by omega,_,hA2,Or.inr ⟨rfl,Ls,hL.back hz C,by simp;omega⟩⟩
end Go.Proofs.YthcppbmkacbbiabGreat
