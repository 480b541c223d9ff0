import Derived.Test.YthcppbmkacbbiabGreatVAS
import Derived.Test.YthcppbmkacbbiabGreatVAR
import Derived.Test.YthcppbmkacbbiabGreatBld
import Derived.Laws.IdiomStrings
import Derived.Deep.OwnRows
set_option linter.unusedSimpArgs false
set_option maxHeartbeats 4000000
set_option maxRecDepth 100000
namespace Go.Proofs.YthcppbmkacbbiabGreat
open Go.Proofs.Tryz
open Go.RowKit Go.Maps Go.WideMaps
section
open Sat (View Rule og dN)
def dM(w:World)(rv:Value)(ak:List Rule):Prop:=
 ∃vs:List Value,w.ownsRow 0 130 1 rv ak.length vs/\∀i (hi:i<ak.length),∃v,vs[i]?=some v/\bQ w v ak[i]
theorem dX{w w':World}(h:Below w.heap.size w w'):w.grownBy w' none:=⟨h.os,h.tape,h.output,h.size,λk hk _=>h.block k hk⟩
theorem dM.but{S:Nat->Prop}{w w':World}{rv:Value}{ak:List Rule}(h:dM w rv ak)(hb:But S w w')(hS:∀k,S k->o9 w k)(hr:∀k,rv.ownBlock=some k->¬S k):dM w' rv ak:=by
 obtain⟨vs,⟨I,M⟩,h3⟩:=h;refine⟨vs,⟨I,?_⟩,λi hi=>?_⟩
 ·obtain M|⟨g,cap,cur,rfl,q2,q3,q4⟩:=M
  ·exact Or.inl M
  ·have hlt:g<w.heap.size:=(an0.1 q3).1;exact Or.inr ⟨g,cap,cur,rfl,q2,(hb.block g hlt (hr g rfl)).trans q3,q4⟩
 ·obtain⟨v,q1,q2⟩:=h3 i hi;exact⟨v,q1,q2.but hb hS⟩
theorem dM.yE{w:World}{rv:Value}{ak:List Rule}(h:dM w rv ak){m:Nat}{τ:List Tr}(hB:dJ w m τ):∀k,rv.ownBlock=some k->k≠m:=by
 obtain⟨es,⟨e1,c1,h4,_⟩,_⟩:=hB.map;obtain⟨vs,⟨I,M⟩,h3⟩:=h;intro k hk e;subst e;obtain⟨rfl,_⟩|⟨g,cap,cur,rfl,q2,q3,q4⟩:=M
 ·cases hk
 ·cases hk;rw[h4]at q3;cases q3
structure FI(w:World)(b U:Nat)(rv ov:Value)(tp:List UInt8)(m:Nat)(τ:List Tr)(ak:List Rule):Prop where
 Ey:xB w b U rv ov tp (some m)
 rows:dM w rv ak
 bs:dJ w m τ
 inv:Sat.BInv ak (bel τ) τ.length
 lt:∀q∈τ,q.1<U
structure RG(U:Nat)(ak:List Rule):Prop where
 ne:∀r∈ak,r≠[]
 nodup:∀r∈ak,r.Nodup
 lt:∀r∈ak,∀u∈r,u.1<U
 len:∀r∈ak,r.length<=1000
theorem nJ:∀(U:Nat) (l:List Nat),l.Nodup->(∀x∈l,x<U)->l.length<=U:=by
 intro U
 induction U with
 |zero=>
  intro l _ h;cases l with
  |nil=>simp
  |cons a l=>have:=h a R;omega
 |succ U ih=>
  intro l hn h;have I:=ih (l.filter (·!= U)) (hn.sublist List.filter_sublist) (λx hx=>by
   have M:=as6.1 hx;have h3:=h x M.1;have h4:x≠U:=(by simpa using M.2);omega)
  have M:l.length<=(l.filter (·!= U)).length+1:=by
   have h3:=List.length_eq_countP_add_countP (p:=λx=>x != U) (l:=l);rw[List.countP_eq_length_filter]at h3;have h4:l.countP (λx=>decide ¬(x != U)=true)<=1:=by
    have h5:l.countP (λx=>decide ¬(x != U)=true)=l.count U:=by
     unfold List.count
     congr 1
     funext x;by_cases e:x=U<;>simp[e]
    rw[h5];exact List.nodup_iff_count.1 hn U
   omega
  omega
theorem FI.len{w:World}{b U:Nat}{rv ov:Value}{tp:List UInt8}{m:Nat}{τ:List Tr}{ak:List Rule}(h:FI w b U rv ov tp m τ ak):τ.length<=U:=by
 have:=nJ U (τ.map (·.1)) h.bs.nodup (λx hx=>by
  obtain⟨q,hq,rfl⟩:=ap6.1 hx;exact h.lt q hq)
 simpa using this
theorem FI.grown{w w':World}{b U:Nat}{rv ov:Value}{tp:List UInt8}{m:Nat}{τ:List Tr}{ak:List Rule}(h:FI w b U rv ov tp m τ ak)(hg:w.grownBy w' none):FI w' b U rv ov tp m τ ak:=by
 have hb:=But.aC hg;have hn:∀k,some k=none->o9 w k:=λk e=>by cases e
 exact⟨h.Ey.kept (hg.block b h.Ey.lt R),h.rows.but hb hn (λk _=>R),h.bs.but hb hn R,h.inv,h.lt⟩
theorem FI.more{w w':World}{b U:Nat}{rv ov:Value}{tp:List UInt8}{m:Nat}{τ:List Tr}{ak:List Rule}(h:FI w b U rv ov tp m τ ak)(hg:w.grownBy w' (some m)){q:Tr}(hB:dJ w' m (τ++[q]))
 (hi:Sat.BInv ak (bel (τ++[q])) (τ.length+1))(hq:q.1<U):FI w' b U rv ov tp m (τ++[q]) ak:=by
 have hb:=But.aC hg;have hn:∀k,some k=some m->o9 w k:=λk e=>by cases e;exact h.bs.xG
 have hbm:b≠m:=λe=>by
  obtain⟨es,⟨e1,c1,h4,_⟩,_⟩:=h.bs.map;have:=h.Ey.out;rw[e,h4]at this;cases this
 refine⟨h.Ey.kept (hg.block b h.Ey.lt (by simpa using hbm)),h.rows.but hb hn (λk hk e=>h.rows.yE h.bs k hk (by cases e;rfl)),hB,by rw[ap4];exact hi,λp hp=>?_⟩;obtain hp|hp:=aq7.1 hp
 ·exact h.lt p hp
 ·rw[ap8.1 hp];exact hq
theorem aeL{τ:List Tr}{v:View}:QZ τ v=true↔Sat.right (bel τ) v:=by
 unfold QZ Sat.right bel;cases uS τ v.1 with
 |none=>simp
 |some q=>simp
theorem Ho{τ:List Tr}{v:View}:unk τ v=true↔bel τ v.1=none:=by
 unfold unk sS bel;cases uS τ v.1<;>simp
theorem Qu{τ:List Tr}{v:View}(I:QZ τ v=false)(M:unk τ v=false):Sat.wrong (bel τ) v:=by
 unfold QZ unk sS at *;unfold Sat.wrong bel;cases e:uS τ v.1 with
 |none=>rw[e]at M;simp at M
 |some q=>rw[e]at I;exact⟨_,rfl,by simpa using I⟩
theorem Xj{τ:List Tr}{r:Rule}(I:r.any (QZ τ)=false)(M:(r.filter (unk τ)).length=0):∀v∈r,Sat.wrong (bel τ) v:=by
 intro v hv;refine Qu ?_ ?_
 ·have:=List.any_eq_false.1 I v hv;simpa using this
 ·have h3:=aq9 M;have:=List.filter_eq_nil_iff.1 h3 v hv;simpa using this
theorem Va{τ:List Tr}{r:Rule}(I:r.any (QZ τ)=false)(M:(r.filter (unk τ)).length=1):gQ τ r∈r/\bel τ (gQ τ r).1=none/\∀u∈r,u≠gQ τ r->Sat.wrong (bel τ) u:=by
 obtain⟨a,ha⟩:=List.length_eq_one_iff.1 M;have hl:gQ τ r=a:=by unfold gQ;rw[ha];rfl
 have hm:a∈r.filter (unk τ):=by rw[ha];simp
 rw[hl];refine⟨(as6.1 hm).1,Ho.1 (as6.1 hm).2,λu hu bg=>Qu ?_ ?_⟩
 ·have:=List.any_eq_false.1 I u hu;simpa using this
 ·cases e:unk τ u
  ·rfl
  ·have:u∈r.filter (unk τ):=as6.2 ⟨hu,e⟩;rw[ha]at this;exact absurd (ap8.1 this) bg
def Byr(ρ:List Tr):Prop:=∀q∈ρ,q.2.2.2≠[]
def Ext(τ σ:List Tr):Prop:=∃ρ,σ=τ++ρ/\Byr ρ
theorem Ext.refl(τ:List Tr):Ext τ τ:=⟨[],R,λq h=>by(cases h)⟩
theorem Ext.snoc{τ σ:List Tr}(h:Ext τ σ){q:Tr}(hq:q.2.2.2≠[]):Ext τ (σ++[q]):=by
 obtain⟨ρ,rfl,I⟩:=h;refine⟨ρ++[q],R,λp hp=>?_⟩;obtain hp|hp:=aq7.1 hp
 ·exact I p hp
 ·rw[ap8.1 hp];exact hq
def still(τ:List Tr)(r:Rule):Prop:=r.any (QZ τ)=true\/2<=(r.filter (unk τ)).length
theorem afw{τ:List Tr}{ak:List Rule}(hn:∀r∈ak,r.Nodup)(h:∀i (hi:i<ak.length),still τ ak[i]):Sat.Done ak (bel τ):=by
 intro r hr;obtain⟨i,hi,rfl⟩:=ar6 hr;obtain h|h:=h i hi
 ·obtain⟨v,hv,I⟩:=ay4.1 h;exact Or.inl ⟨v,hv,aeL.1 I⟩
 ·right;have iL:(ak[i].filter (unk τ)).Nodup:=(hn _ hr).sublist List.filter_sublist;generalize hf:ak[i].filter (unk τ)=l at h iL
  match l,h,iL with
  |u::v::l,_,iL=>
   have hu:u∈ak[i].filter (unk τ):=(by rw[hf];simp);have hv:v∈ak[i].filter (unk τ):=(by rw[hf];simp);exact⟨u,(as6.1 hu).1,v,(as6.1 hv).1,λe=>by subst e;simp at iL,Ho.1 (as6.1 hu).2,Ho.1 (as6.1 hv).2⟩
theorem dM.slice{w:World}{rv:Value}{ak:List Rule}(h:dM w rv ak):∃p cap,rv=.slice p ak.length cap:=by
 obtain⟨vs,⟨_,M⟩,_⟩:=h;obtain⟨rfl,e⟩|⟨g,cap,cur,rfl,_⟩:=M
 ·rw[e];exact⟨_,_,rfl⟩
 ·exact⟨_,_,rfl⟩
theorem dM.at{w:World}{p:Option Addr}{cap:Nat}{ak:List Rule}(h:dM w (.slice p ak.length cap) ak){k:Nat}(hk:k<ak.length):∃g v,p=some (J g 0)/\w.cell? (J g k)=some v/\bQ w v ak[k]/\ak.length<=cap/\cap<=maxLen:=by
 obtain⟨vs,hr,h3⟩:=h;obtain⟨v,q1,q2⟩:=h3 k hk;obtain⟨I,M⟩:=hr;obtain⟨e,e2⟩|⟨g,xO,cur,e,_,q3,q4,q5,q6,q7⟩:=M
 ·omega
 ·cases e;refine⟨g,v,rfl,?_,q2,q4,q5⟩;rw[cell_of q3];rw[<-q7,av5]at q1;split at q1
  ·simpa using q1
  ·cases q1
def foE(w:World)(τ:List Tr)(ak:List Rule)(e:Ending):Prop:=
 (e=.returned (.slice none 0 0)/\Sat.Done ak (bel τ))\/∃v r,e=.returned v/\bQ w v r/\r∈ak/\∀u∈r,Sat.wrong (bel τ) u
theorem WQ(w:World)(b U:Nat)(rv ov:Value)(tp:List UInt8)(m:Nat)(τ:List Tr)(ak:List Rule)(h:FI w b U rv ov tp m τ ak)(hR:RG U ak)(hU:U<=500)(hn:ak.length<2 ^ 60) :
  Calls prog 115 #[Aa b 0] w λe w'=>∃τ',foE w' τ' ak e/\FI w' b U rv ov tp m τ' ak/\w.grownBy w' (some m)/\Ext τ τ':=by
 obtain⟨rp,rc,rfl⟩:=h.rows.slice;have H:=F h
 go_in
 go_wp2_with fail
 go_loopw [3] (λbf wr=>∃(n:Nat) (σ:List Tr),bf=A ((n:Int)-1)/\n<=σ.length+1/\FI wr b U (.slice rp ak.length rc) ov tp m σ ak/\w.grownBy wr (some m)/\(n=σ.length+1->Sat.Done ak (bel σ))/\Ext τ σ) (λbf _=>U+2-(intOf bf+1).toNat)
 case atStart=>exact⟨0,τ,rfl,ap7 _,Z H,as8 _ _,λe=>O,Ext.refl _⟩
 case round=>
  obtain⟨n,σ,rfl,hns,xK,EF,hdn,hex⟩:=hrel;have HEX:=F hex;have hσ:=xK.len;obtain⟨c0,c1,c2,c3,c4⟩:=xK.Ey.cells;have hlen:=xK.bs.len 3;by_cases hlt:n<σ.length+1
  ·have iF:(n:Int)-1<(σ.length:Int):=O;have XJ:=F xK;have HGW:=F EF
   go_wp2_with fail
   go_loopw [25] (λi wq=>∃(k:Nat) (ρ:List Tr),i=A k/\k<=ak.length/\FI wq b U (.slice rp ak.length rc) ov tp m ρ ak/\w.grownBy wq (some m)/\σ.length<=ρ.length/\(ρ.length=σ.length->∀j (hj:j<ak.length),j<k->still ρ ak[j])/\Ext τ ρ) (λi _=>ak.length-(intOf i).toNat)
   case atStart=>exact⟨0,σ,rfl,ap7 _,Z XJ,Z HGW,an2 _,λ_ j hj h=>O,Z HEX⟩
   case round=>
    obtain⟨k,ρ,rfl,hk,xK,EF,hle,oP,hey⟩:=hrel;have HEY:=F hey;have hρ:=xK.len;by_cases Fe:k<ak.length
    ·have hbk:(k:Int)<(ak.length:Int):=O;obtain⟨g,v,rfl,hcv,Ld,Gn,Fh⟩:=xK.rows.at Fe;have fZ:ak[k]∈ak:=an5 Fe;have VU:=open_any wr b U _ ov tp m ρ xK.Ey xK.bs v ak[k] Ld (hR.ne _ fZ) (hR.len _ fZ) (λu hu=>by have:=hR.lt _ fZ u hu;omega);have Yq:Hid (still ρ ak[k]->ρ.length=σ.length->∀j (hj:j<ak.length),j<k+1->still ρ ak[j]):=λhs hl j hj hjk=>by
      by_cases e:j=k
      ·subst e;exact hs
      ·exact oP hl j hj O
     have XJ:=F xK;have HGW:=F EF;have HRV:=F Ld;have XG:=F fZ;have hlr:=hR.lt _ fZ;have ajB:=F hlr;have hnr:=F (hR.ne _ fZ);have ajT:((ak[k].filter (unk ρ)).length:Int)<1001:=by
      have I:=List.length_filter_le (unk ρ) ak[k];have M:=hR.len _ fZ;omega
     have kR:=F oP;have afj:Hid ((ak[k].filter (unk ρ)).length=1->ak[k].any (QZ ρ)=false->∀W,wr.grownBy W none->Calls prog 156 #[Aa b 0,.agg #[A (gQ ρ ak[k]).1,.bool (gQ ρ ak[k]).2],v] W λe w'=>(∃v,e=.returned v)/\FI w' b U (Ac g 0 ak.length rc) ov tp m (ρ++[((gQ ρ ak[k]).1,(gQ ρ ak[k]).2,v,ak[k])]) ak/\W.grownBy w' (some m)):=λI M W hW=>by
      obtain⟨s1,s2,s3⟩:=Va M I;have hf:=(Z XJ).grown hW;have hxl:=Z ajB _ s1;have hq:(gQ ρ ak[k]).1∉ρ.map (·.1):=KC.1 s2;refine(Gy W b U _ ov tp m ρ ((gQ ρ ak[k]).1,(gQ ρ ak[k]).2,v,ak[k]) hf.Ey hf.bs O ang hq ((Z HRV).but (But.aC hW) (λk e=>by cases e))).mono ?_;rintro e w2 ⟨e1,e2,e3⟩;refine⟨e1,hf.more e3 e2 ?_ hxl,e3⟩;rw[Ul (q:=((gQ ρ ak[k]).1,(gQ ρ ak[k]).2,v,ak[k])) hq];exact hf.inv.follow (Z XG) s1 s2 s3
     have HBR:Hid ((ak[k].filter (unk ρ)).length=0->ak[k].any (QZ ρ)=false->∀u∈ak[k],Sat.wrong (bel ρ) u):=λI M=>Xj M I;have hns:Hid (2<=(ak[k].filter (unk ρ)).length->still ρ ak[k]):=λh=>Or.inr h;generalize ak[k]=r at VU ajT Yq HRV XG ajB hnr afj HBR hns;unfold opE at VU;generalize (r.filter (unk ρ)).length=cu at VU ajT afj HBR hns;generalize gQ ρ r=lu at VU afj;obtain⟨lx,li⟩:=lu
     go_wp2_with fail
     refine VU.mono ?_;rintro e w1 ⟨he,iD⟩;have bG:=dX iD;have HG1:=F bG;obtain⟨ha,u,rfl⟩|⟨ha,rfl⟩:=he
     ·have hs:=Z Yq (Or.inl ha);have HS:=F hs
      go_wp2_with fail
      refine⟨⟨k+1,ρ,by go_num,Fe,(Z XJ).grown ((Z HG1).trans (an1 _ _ none)),(Z HGW).andThen ((Z HG1).trans (an1 _ _ none)) (λj e=>by cases e),hle,Z HS,Z HEY⟩,by simp[intOf];omega⟩
     ·by_cases z0:cu=0
      ·subst z0;have hw:=Z HBR rfl ha;have HW:=F hw;have jd:wr.grownBy (w1.alloc (.cells #[A lx,.bool li] 207)) none:=(Z HG1).trans (an1 _ _ none);have ac8:=(Z HRV).but (But.aC jd) (λk e=>by cases e);have ahm:=(Z XJ).grown jd;have alr:=(Z HGW).andThen jd (λj e=>by cases e);have Q1:=F ac8;have Q2:=F ahm;have Q3:=F alr
       go_wp2_with fail
       exact aq0 (v:=v) (by simp[results,results115,go_sem]) rfl ⟨ρ,Or.inr ⟨v,r,rfl,Z Q1,Z XG,Z HW⟩,Z Q2,Z Q3,Z HEY⟩
      ·by_cases z1:cu=1
       ·subst z1;have mg:=Z afj rfl ha;have HBL:=F mg
        go_wp2_with fail
        have jd:wr.grownBy (w1.alloc (.cells #[A lx,.bool li] 207)) none:=(Z HG1).trans (an1 _ _ none);refine(Z HBL _ jd).mono ?_;rintro e w2 ⟨⟨v2,rfl⟩,ahm,dh⟩;have Q2:=F ahm;have Q3:=F (((Z HGW).andThen jd (λj e=>by cases e)).andThen dh (λj e=>by cases e;exact Or.inr rfl))
        go_wp2_with fail
        refine⟨⟨k+1,_,by go_num,Fe,Z Q2,Z Q3,by rw[ap4];omega,λe=>by rw[ap4,au7]at e;omega,(Z HEY).snoc (Z hnr)⟩,by simp[intOf];omega⟩
       ·have hs:=Z Yq (Z hns O);have HS:=F hs;have z0':(cu:Int)≠0:=O;have z1':(cu:Int)≠1:=O
        go_wp2_with fail
        refine⟨⟨k+1,ρ,by go_num,Fe,(Z XJ).grown ((Z HG1).trans (an1 _ _ none)),(Z HGW).andThen ((Z HG1).trans (an1 _ _ none)) (λj e=>by cases e),hle,Z HS,Z HEY⟩,by simp[intOf];omega⟩
    ·have gW:k=ak.length:=O;have hbk:¬(k:Int)<(ak.length:Int):=O;have XJ:=F xK;have HGW:=F EF;have hdn:Hid (σ.length+1=ρ.length+1->Sat.Done ak (bel ρ)):=λe=>afw hR.nodup (λi hi=>oP O i hi O)
     go_wp2_with fail
     refine⟨⟨σ.length+1,ρ,by go_num,O,Z XJ,Z HGW,Z hdn,Z HEY⟩,?_⟩;simp only[intOf];omega
  ·have iF:¬(n:Int)-1<(σ.length:Int):=O;have hd:=hdn O;have XJ:=F xK;have HGW:=F EF;have HD:=F hd
   go_wp2_with fail
   exact aq0 (v:=.slice none 0 0) (by simp[results,results115,go_sem]) rfl ⟨σ,Or.inl ⟨rfl,Z HD⟩,Z XJ,Z HGW,Z HEX⟩
end
section
open au (Key put fQ tV jn aB gV bJ)
def nums(f:Nat->Nat):Nat->List Nat
 |0=>[]
 |k+1=>put (nums f k) (f k)
def xu(f:Nat->Nat)(k:Nat):List UInt8:=(List.range k).map λt=>UInt8.ofNat (48+(nums f t).idxOf (f t))
def bits(hl:List Bool):List UInt8:=hl.map λb=>if b then 49 else 48
def wrt(f:Nat->Nat)(n:Nat)(hl:List Bool):List UInt8:=xu f n++[47]++bits hl
theorem MQ{T e B b m:Nat}{bs:List Value}{w w':World}(h:Lib.IsBuilderF T e B b bs w)(hg:w.grownBy w' (some m))(hm:m≠b)(hc:∃o:Obj,w.heap[m]?=some o/\∀c t fz,o≠.cells c t fz):Lib.IsBuilderF T e B b bs w':=by
 have key:∀p,Lib.BuilderAtF T e B b p bs w->Lib.BuilderAtF T e B b p bs w':=by
  rintro p ⟨hB,v,hb,aH,bg⟩;have hlt:b<w.heap.size:=(an0.1 hb).1;refine⟨hB,v,(hg.block b hlt (λe=>hm (at7 e).symm)).trans hb,aH.kept hg (Or.inr λe=>?_),bg⟩;obtain⟨c,fz,I⟩:=Lib.ownsRowF_kind aH m e;obtain⟨o,M,h3⟩:=hc;rw[I]at M;exact h3 _ _ _ (at7 M).symm
 exact h.elim (λx=>.inl (key _ x)) (λx=>.inr (key _ x))
theorem aT.obj{w:World}{k b:Nat}{kv:Nat->Value}{Y:List Nat}(h:aT w k b kv Y):∃o:Obj,w.heap[b]?=some o/\∀c t fz,o≠.cells c t fz:=by
 obtain⟨D,⟨es,clock,I,M⟩,h3⟩:=h;exact⟨_,I,λ_ _ _ e=>by cases e⟩
theorem nums_length(f:Nat->Nat):∀k,(nums f k).length<=k
 |0=>an2 _
 |k+1=>by
  have h:=nums_length f k;unfold nums put;split
  ·omega
  ·simp;omega
theorem Kr(f:Nat->Nat)(k:Nat):xu f (k+1)=xu f k++[UInt8.ofNat (48+(nums f k).idxOf (f k))]:=by
 simp[xu,aA8]
structure WG(w:World)(b H nh:Nat)(acc:List UInt8)(l:List Nat)(W:World):Prop where
 bld:Lib.IsBuilderF 147 5 w.heap.size (w.heap.size+1+1) (Lib.byteCells acc) W
 s:W.heap[w.heap.size+1]?=some (.cells #[.map (some b),Ac H 0 nh nh] 56 (0,0))
 m:aT W 3 (w.heap.size+1+1+1) kN l
 below:Below w.heap.size w W
theorem WG.x0{w W:World}{b H nh:Nat}{acc:List UInt8}{l:List Nat}(h:WG w b H nh acc l W):W.cell? (J (w.heap.size+1) 0)=some (.map (some b)):=by
 rw[Lib.cell_of_heap h.s];rfl
theorem WG.x1{w W:World}{b H nh:Nat}{acc:List UInt8}{l:List Nat}(h:WG w b H nh acc l W):W.cell? (J (w.heap.size+1) 1)=some (Ac H 0 nh nh):=by
 rw[Lib.cell_of_heap h.s];rfl
theorem WG.write{w W W':World}{b H nh:Nat}{acc:List UInt8}{l:List Nat}{x:UInt8}(h:WG w b H nh acc l W)
 (I:Lib.BuilderAtF 147 5 w.heap.size (w.heap.size+1+1) (Aa (w.heap.size+1+1) 0) (Lib.byteCells acc++[Ae x.toNat]) W')(M:Below w.heap.size W W')(h3:Lib.OthersKept 5 (some (w.heap.size+1+1)) W W'):WG w b H nh (acc++[x]) l W' where
 bld:=by rw[Lib.byteCells_append];exact Or.inr I
 s:=h3 _ _ h.s R (λc fz e=>by cases e)
 m:=by
  obtain⟨o,h4,h5⟩:=h.m.obj;exact h.m.kept ((h3 _ _ h4 R (λc fz=>h5 c _ fz)).trans h4.symm)
 below:=h.below.trans M
theorem WG.ask{w W W':World}{b H nh x:Nat}{acc:List UInt8}{l:List Nat}(h:WG w b H nh acc l W)(I:aT W' 3 (w.heap.size+1+1+1) kN (put l x))(M:W.grownBy W' (some (w.heap.size+1+1+1))):WG w b H nh acc (put l x) W' where
 bld:=MQ h.bld M O h.m.obj
 s:=(M.block _ (an0.1 h.s).1 R).trans h.s
 m:=I
 below:=h.below.grown M h.below.size (λk e=>by cases e;omega)
theorem WG.call{w W:World}{b H nh:Nat}{acc:List UInt8}{l:List Nat}(h:WG w b H nh acc l W)(x:UInt8)(c:Int)(hc:c=x.toNat)(hl:acc.length<=100) :
  Calls prog 71 #[Aa (w.heap.size+1+1) 0,Ae c] W λe W'=>e=.returned .nilIface/\WG w b H nh (acc++[x]) l W':=by
 subst hc;refine(bWrite w.heap.size (w.heap.size+1+1) _ _ W h.bld (by rw[Lib.byteCells_length];omega) h.below.size).mono ?_;rintro e W' ⟨rfl,I,M,h3⟩;exact⟨rfl,h.write I M h3⟩
theorem xY(GT GC GP nt nc np b c H:Nat)(f:Nat->Nat)(hl:List Bool)(w:World)(h7:nt<=7)(h4:hl.length<=4)(hf:∀i,i<nt->f i<nt)(hM:kM w b f nt c)(hH:eP w H hl) :
  Calls prog 32 #[fv GT GC GP nt nc np,sv b H hl.length] w λe w'=>e=.returned (.string ⟨(wrt f nt hl).toArray⟩)/\Ag w w':=by
 unfold fv sv;have Ii:=@aC9 prog;obtain⟨w0,kW⟩:∃w0,(((w.alloc (.cells #[Ac GT 0 nt nt,Ac GC 0 nc nc,Ac GP 0 np np] 46)).alloc (.cells #[.map (some b),Ac H 0 hl.length hl.length] 56)).alloc (.cells #[.pointer none,.slice none 0 0] 147)).alloc (.map #[] 0)=w0:=⟨_,rfl⟩;have Io:WG w b H hl.length [] [] w0:=by
  rw[<-kW];have eH:((w.alloc (.cells #[Ac GT 0 nt nt,Ac GC 0 nc nc,Ac GP 0 np np] 46)).alloc (.cells #[.map (some b),Ac H 0 hl.length hl.length] 56)).heap.size=w.heap.size+1+1:=R
  refine⟨?_,?_,?_,?_⟩
  ·have h:=Lib.fresh_isBuilder 147 5 ((w.alloc (.cells #[Ac GT 0 nt nt,Ac GC 0 nc nc,Ac GP 0 np np] 46)).alloc (.cells #[.map (some b),Ac H 0 hl.length hl.length] 56));rw[eH]at h;have M:Lib.IsBuilderF 147 5 (w.heap.size+1+1) (w.heap.size+1+1) [] _:=Lib.IsBuilderF.of h;have h3:Lib.IsBuilderF 147 5 w.heap.size (w.heap.size+1+1) [] (((w.alloc (.cells #[Ac GT 0 nt nt,Ac GC 0 nc nc,Ac GP 0 np np] 46)).alloc (.cells #[.map (some b),Ac H 0 hl.length hl.length] 56)).alloc (.cells #[.pointer none,.slice none 0 0] 147)):=by
    refine Or.inl ⟨O,.slice none 0 0,?_,⟨R,.inl ⟨rfl,rfl⟩⟩,by simp[Value.ownBlock]⟩;rw[<-eH];exact ap5 _ _
   exact h3.alloc _
  ·rw[ao3 _ _ _ R,ao3 _ _ _ R];have h:=ap5 (w.alloc (.cells #[Ac GT 0 nt nt,Ac GC 0 nc nc,Ac GP 0 np np] 46)) (.cells #[.map (some b),Ac H 0 hl.length hl.length] 56);simpa using h
  ·have h:=nK (((w.alloc (.cells #[Ac GT 0 nt nt,Ac GC 0 nc nc,Ac GP 0 np np] 46)).alloc (.cells #[.map (some b),Ac H 0 hl.length hl.length] 56)).alloc (.cells #[.pointer none,.slice none 0 0] 147)) 3 kN;have e:(((w.alloc (.cells #[Ac GT 0 nt nt,Ac GC 0 nc nc,Ac GP 0 np np] 46)).alloc (.cells #[.map (some b),Ac H 0 hl.length hl.length] 56)).alloc (.cells #[.pointer none,.slice none 0 0] 147)).heap.size=w.heap.size+1+1+1:=R;rw[e]at h;exact h
  ·exact((((aq1 _ _).alloc (an2 _) _).alloc R _).alloc anf _).alloc anf _
 have HW:=F kW;have zO:w0.cell? (J w.heap.size 0)=some (Ac GT 0 nt nt):=by rw[<-kW];simp[go_sem]
 have hlM:=hM.lt;have hlH:=hH.1;have HM:=F hM;have HH:=F hH;have HF:=F hf;clear hM hH hf kW
 go_in
 go_wp2_with fail
 rw[Z HW]
 go_loopw [14] (λi wr=>∃k:Nat,k<=nt/\i=A k/\WG w b H hl.length (xu f k) (nums f k) wr) (λi _=>nt-(intOf i).toNat)
 case atStart=>exact⟨0,ap7 _,rfl,Io⟩
 case round=>
  obtain⟨k,hk,rfl,VO⟩:=hrel;by_cases hlt:k<nt
  ·have iF:(k:Int)<(nt:Int):=O;have xI:=VO.x0;have VX:=yB wr b nt c f k ((Z HM).kept (VO.below.block b hlM)) hlt O;have hnl:=nums_length f k;have hfk:f k<=1000:=ap3 (Nat.le_of_lt (Z HF k hlt)) O;have ajf:=Jc (w.heap.size+1+1+1) (nums f k) (f k) wr hfk O VO.m;have hds:=Kr f k;have Tq:(xu f k).length<=100:=(by simp[xu];omega);have hns:nums f (k+1)=put (nums f k) (f k):=rfl;have hil:(nums f k).idxOf (f k)<=7:=ap3 aw3 O;have HD:=F hds;have HN:=F hns;have HWG:=F VO;have HDL:=F Tq;have aif:=F ajf;clear VO hns hds hnl Tq ajf;generalize (nums f k).idxOf (f k)=ix at HD aif hil;generalize f k=fk at VX HN aif
   go_wp2_with fail
   refine VX.mono ?_;rintro e w1 ⟨rfl,rfl⟩
   go_wp2_with fail
   refine(Z aif).mono ?_;rintro e w2 ⟨rfl,tC,dh⟩;have ak1:=(Z HWG).ask tC dh
   go_wp2_with fail
   refine(ak1.call (UInt8.ofNat (48+ix)) (48+ix) (by simp[UInt8.toNat_ofNat'];omega) (Z HDL)).mono ?_;rintro e w3 ⟨rfl,ac2⟩
   go_wp2_with fail
   exact⟨⟨k+1,hlt,by go_num,by rw[Z HD,Z HN];exact ac2⟩,by simp[intOf];omega⟩
  ·have gW:k=nt:=O;subst gW;have iF:¬(k:Int)<(k:Int):=O;have Tq:(xu f k).length<=100:=(by simp[xu];omega);have HWG:=F VO;have HDL:=F Tq;clear VO Tq
   go_wp2_with fail
   refine((Z HWG).call 47 47 rfl (Z HDL)).mono ?_;rintro e w1 ⟨rfl,agN⟩;have nN:=agN.x1;have amf:=F agN;clear agN
   go_wp2_with fail
   go_loopw [31] (λi wr=>∃j:Nat,j<=hl.length/\i=A j/\WG w b H hl.length (xu f k++[47]++bits (hl.take j)) (nums f k) wr) (λi _=>hl.length-(intOf i).toNat)
   case atStart=>exact⟨0,ap7 _,rfl,by simpa[bits]using Z amf⟩
   case round=>
    obtain⟨j,hj,rfl,VO⟩:=hrel;by_cases hjt:j<hl.length
    ·have hjd:(j:Int)<(hl.length:Int):=O;have hcj:=((Z HH).same (VO.below.block H hlH)).2 j hjt;have mg:(xu f k++[47]++bits (hl.take j)).length<=100:=(by rw[ap4,ap4,bits,au3,ar1,xu,au3,aB5,au7];omega);have hbs:bits (hl.take (j+1))=bits (hl.take j)++[if hl[j]then 49 else 48]:=(by unfold bits;rw[aq3,an3 hjt,au0];rfl);have HBS:=F hbs;have HWG:=F VO;have HBL:=F mg;clear VO mg hbs;generalize hl[j]=bj at hcj HBS;cases bj
     ·go_wp2_with fail
      refine((Z HWG).call 48 48 rfl (Z HBL)).mono ?_;rintro e w3 ⟨rfl,ac2⟩
      go_wp2_with fail
      exact⟨⟨j+1,hjt,by go_num,by rw[Z HBS,<-at1];exact ac2⟩,by simp[intOf];omega⟩
     ·go_wp2_with fail
      refine((Z HWG).call 49 49 rfl (Z HBL)).mono ?_;rintro e w3 ⟨rfl,ac2⟩
      go_wp2_with fail
      exact⟨⟨j+1,hjt,by go_num,by rw[Z HBS,<-at1];exact ac2⟩,by simp[intOf];omega⟩
    ·have NU:j=hl.length:=O;subst NU;have hjd:¬(hl.length:Int)<(hl.length:Int):=O;have hbs:=bString w.heap.size (w.heap.size+1+1) _ wr VO.bld VO.below.size;have rQ:=VO.below;have e1:xu f k++[47]++bits (hl.take hl.length)=wrt f k hl:=(by rw[ar7];rfl);rw[e1]at hbs;clear VO e1
     go_wp2_with fail
     refine hbs.mono ?_;rintro e w3 ⟨rfl,_,iR,_⟩;have sD:=rQ.trans iR
     go_wp2_with fail
     go_ret
     exact⟨rfl,sD⟩
end
open au (Key put fQ tV jn aB gV bJ)
attribute [local go_sem] Oper.semAt_some
structure kX(w0:World)(keys:List UInt8)(nc:Nat)(o3 o4 o6 o8:Option Nat)(W:World):Prop where
 below:Below w0.heap.size w0 W
 i3:∀G,o3=some G->w0.heap.size<=G/\zn W G keys
 i4:∀b,o4=some b->w0.heap.size<=b/\gY W b (fi keys) keys.length 100
 i6:∀H,o6=some H->w0.heap.size<=H/\W.heap[H]?=some (.cells (madeCells #[.bool false] nc) 4)
 i8:∀X,o8=some X->w0.heap.size<=X/\W.heap[X]?=some (.cells #[.map none,.slice none 0 0] 56)
theorem kX.grow{w0:World}{keys:List UInt8}{nc:Nat}{o3 o4 o6 o8:Option Nat}{W W':World}(h:kX w0 keys nc o3 o4 o6 o8 W)(hb:Below W.heap.size W W'):kX w0 keys nc o3 o4 o6 o8 W' where
 below:=h.below.trans ⟨hb.os,hb.tape,hb.output,hb.size,λj hj=>hb.block j (ap2 hj h.below.size)⟩
 i3:=λG e=>⟨(h.i3 G e).1,(h.i3 G e).2.same (hb.block G (h.i3 G e).2.1)⟩
 i4:=λb e=>⟨(h.i4 b e).1,(h.i4 b e).2.kept (hb.block b (h.i4 b e).2.lt)⟩
 i6:=λH e=>⟨(h.i6 H e).1,(hb.block H (an0.1 (h.i6 H e).2).1).trans (h.i6 H e).2⟩
 i8:=λX e=>⟨(h.i8 X e).1,(hb.block X (an0.1 (h.i8 X e).2).1).trans (h.i8 X e).2⟩
theorem ku{w:World}{p q:Addr}{v:Value}(h:p≠q):(w.setCell p v).cell? q=w.cell? q:=by
 apply World.cell?_setCell_other;exact h
theorem jC(W:World)(o:Obj):Below W.heap.size W (W.alloc o):=(aq1 _ _).alloc (an2 _) _
theorem kX.s8{w0:World}{keys:List UInt8}{nc:Nat}{o3 o4 o6:Option Nat}{W:World}(h:kX w0 keys nc o3 o4 o6 none W):kX w0 keys nc o3 o4 o6 (some W.heap.size) (W.alloc (.cells #[.map none,.slice none 0 0] 56)):=by
 have M:=h.grow (jC W (.cells #[.map none,.slice none 0 0] 56));exact⟨M.below,M.i3,M.i4,M.i6,λX e=>by cases e;exact⟨h.below.size,ap5 _ _⟩⟩
theorem kX.s6{w0:World}{keys:List UInt8}{nc:Nat}{o3 o4 o8:Option Nat}{W:World}(h:kX w0 keys nc o3 o4 none o8 W):kX w0 keys nc o3 o4 (some W.heap.size) o8 (W.alloc (.cells (madeCells #[.bool false] nc) 4)):=by
 have M:=h.grow (jC W (.cells (madeCells #[.bool false] nc) 4));exact⟨M.below,M.i3,M.i4,λX e=>(by cases e;exact⟨h.below.size,ap5 _ _⟩),M.i8⟩
theorem kX.s3{w0:World}{t:ByteArray}{nc cap:Nat}{o6 o8:Option Nat}{W:World}{fz:Nat×Nat}(h:kX w0 t.data.toList nc none none o6 o8 W):kX w0 t.data.toList nc (some W.heap.size) none o6 o8 (W.drew.alloc (.cells (bytesRow t cap) 5 fz)):=by
 have hb:Below W.heap.size W (W.drew.alloc (.cells (bytesRow t cap) 5 fz)):=((aq1 _ W).drew).alloc (an2 _) _;have M:=h.grow hb;refine⟨M.below,λG e=>?_,λb e=>(by cases e),M.i6,M.i8⟩;cases e;have hn:(W.drew.alloc (.cells (bytesRow t cap) 5 fz)).heap[W.heap.size]?=some (.cells (bytesRow t cap) 5 fz):=ap5 W.drew _;refine⟨h.below.size,(an0.1 hn).1,λi hi=>?_⟩;rw[Lib.cell_of_heap hn];have hi2:i<t.data.size:=by simpa using hi
 have h3:=bytesRow_at t cap i hi2;simpa using h3
theorem kX.s4{w0:World}{keys:List UInt8}{nc b G:Nat}{o6 o8:Option Nat}{W W':World}(h:kX w0 keys nc (some G) none o6 o8 W)(hb:Below W.heap.size W W')(I:W.heap.size<=b)(M:gY W' b (fi keys) keys.length 100):kX w0 keys nc (some G) (some b) o6 o8 W':=by
 have h3:=h.grow hb;exact⟨h3.below,h3.i3,λc e=>(by cases e;exact⟨ap3 h.below.size I,M⟩),h3.i6,h3.i8⟩
theorem LQ(GT GC GP nt nc np:Nat)(s:ByteArray)(w:World)(h7:nt<=7)(h4:nc<=4)(hs:s.size≠nt+1+nc) :
  Calls prog 20 #[fv GT GC GP nt nc np,.string s] w λe w'=>e=.returned (.tuple #[.agg #[.map none,.slice none 0 0],.bool false])/\Ag w w':=by
 unfold fv
 go_in
 go_wp2_with fail
 obtain⟨w0,kW⟩:∃w0,(w.alloc (.cells #[Ac GT 0 nt nt,Ac GC 0 nc nc,Ac GP 0 np np] 46)).alloc (.cells #[.map none,.slice none 0 0] 56)=w0:=⟨_,rfl⟩;have kQ:Below w.heap.size w w0:=by rw[<-kW];exact eY _ _ _
 have jR:w0.heap.size=w.heap.size+2:=by rw[<-kW];simp
 have kJ:w0.cell? (J w.heap.size 0)=some (Ac GT 0 nt nt):=by rw[<-kW];simp[go_sem]
 have O4:w0.cell? (J w.heap.size 1)=some (Ac GC 0 nc nc):=by rw[<-kW];simp[go_sem]
 have sH:w0.cell? (J w.heap.size 2)=some (Ac GP 0 np np):=by rw[<-kW];simp[go_sem]
 have hr0:w0.cell? (J (w.heap.size+1) 0)=some (.map none):=by rw[<-kW];simp[go_sem]
 have DX:w0.cell? (J (w.heap.size+1) 1)=some (.slice none 0 0):=by rw[<-kW];simp[go_sem]
 have hq0:w0.frozen? (J (w.heap.size+1) 0)=false:=by rw[<-kW];simp[go_sem]
 have Qk:w0.frozen? (J (w.heap.size+1) 1)=false:=by rw[<-kW];simp[go_sem]
 rw[kW];have aA:w0.drew.cell? (J w.heap.size 0)=some (Ac GT 0 nt nt)/\w0.drew.cell? (J w.heap.size 1)=some (Ac GC 0 nc nc):=⟨kJ,O4⟩;refine aq8 (S:=λW'=>W'.cell? (J w.heap.size 0)=some (Ac GT 0 nt nt)/\W'.cell? (J w.heap.size 1)=some (Ac GC 0 nc nc)) rfl ?_;simp only[ao5,ao1,ap0,Nat.reduceAdd,an7,an6,ao6,ao8,ao7];change wpAnyH prog .any _ _ _ _ _ _ w0.drew;refine tH 0 (Aa w.heap.size 0) (λw' hS=>?_) aA ?_
 ·obtain⟨s1,s2⟩:=hS;go_simp
 simp only[aF];refine tH 1 (Ac GT 0 nt nt) (λw' hS=>?_) aA ?_
 ·obtain⟨s1,s2⟩:=hS;go_simp
 simp only[aF];refine tH 2 (A nt) (λw' hS=>?_) aA ?_
 ·obtain⟨s1,s2⟩:=hS;go_simp
 simp only[aF];refine tH 3 (Aa w.heap.size 1) (λw' hS=>?_) aA ?_
 ·obtain⟨s1,s2⟩:=hS;go_simp
 simp only[aF];refine tH 4 (Ac GC 0 nc nc) (λw' hS=>?_) aA ?_
 ·obtain⟨s1,s2⟩:=hS;go_simp
 simp only[aF];refine tH 5 (A nc) (λw' hS=>?_) aA ?_
 ·obtain⟨s1,s2⟩:=hS;go_simp
 simp only[aF];refine oH 6 (λK hK=>?_);go_simp;refine hK.out _ _ aA ?_;refine oH 7 (λK hK=>?_);go_simp;refine hK.out _ _ aA (ar2 (by kernel_rfl) ?_ _);have bg:decide ((s.size:Int)=(nt:Int)+1+(nc:Int))=false:=anf
 have ajj:¬((s.size:Int)=(nt:Int)+1+(nc:Int)):=O
 have hd0:w0.drew.cell? (J (w.heap.size+1) 0)=some (.map none):=hr0;have Wi:w0.drew.cell? (J (w.heap.size+1) 1)=some (.slice none 0 0):=DX;have he0:w0.drew.frozen? (J (w.heap.size+1) 0)=false:=hq0;have he1:w0.drew.frozen? (J (w.heap.size+1) 1)=false:=Qk
 go_wp2_with fail
 obtain⟨wz,NJ⟩:∃wz,((w0.setCell (J (w.heap.size+1) 0) (Value.map none)).setCell (J (w.heap.size+1) 1) (Value.slice none 0 0)).drew=wz:=⟨_,rfl⟩;have z0:wz.cell? (J (w.heap.size+1) 0)=some (.map none):=by
  rw[<-NJ]
  show((w0.setCell (J (w.heap.size+1) 0) (Value.map none)).setCell (J (w.heap.size+1) 1) (Value.slice none 0 0)).cell? _=_
  rw[ku R];exact bH _ hr0
 have z1:wz.cell? (J (w.heap.size+1) 1)=some (.slice none 0 0):=by
  rw[<-NJ]
  show((w0.setCell (J (w.heap.size+1) 0) (Value.map none)).setCell (J (w.heap.size+1) 1) (Value.slice none 0 0)).cell? _=_
  exact bH _ ((ku R).trans DX)
 have zb:Below w.heap.size w wz:=by
  rw[<-NJ];exact((kQ.setCell (p:=(J (w.heap.size+1) 0)) (by show w.heap.size<=w.heap.size+1;omega) _).setCell (p:=(J (w.heap.size+1) 1)) (by show w.heap.size<=w.heap.size+1;omega) _).drew
 rw[NJ];exact aq0 (v:=.tuple #[.agg #[.map none,.slice none 0 0],.bool false]) (by simp[results,results20,go_sem,z0,z1]) rfl ⟨rfl,zb⟩
end Go.Proofs.YthcppbmkacbbiabGreat
