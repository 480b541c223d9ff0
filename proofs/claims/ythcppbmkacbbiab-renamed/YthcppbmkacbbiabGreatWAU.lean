import Derived.Test.YthcppbmkacbbiabGreatWAR
set_option linter.unusedSimpArgs false
set_option maxHeartbeats 4000000
set_option maxRecDepth 100000
namespace Go.Proofs.YthcppbmkacbbiabGreat
open Go.Proofs.Tryz
open Go.RowKit Go.Maps Go.WideMaps
section
open Sat (View Rule jk bG)
def bF(w:World)(rv:Value)(ak:List Rule):Prop:=
 ∃vs:List Value,w.ownsRow 0 130 1 rv ak.length vs/\∀i (hi:i<ak.length),∃v,vs[i]?=some v/\aP w v ak[i]
theorem bI{w w':World}(h:Below w.heap.size w w'):w.grownBy w' none:=⟨h.os,h.tape,h.output,h.size,λk hk _=>h.block k hk⟩
theorem bF.but{S:Nat->Prop}{w w':World}{rv:Value}{ak:List Rule}(h:bF w rv ak)(hb:But S w w')(hS:∀k,S k->jC w k)(hr:∀k,rv.ownBlock=some k->¬S k):bF w' rv ak:=by
 obtain⟨vs,⟨h1,h2⟩,h3⟩:=h;refine⟨vs,⟨h1,?_⟩,λi hi=>?_⟩
 ·rcases h2 with h2|⟨g,cap,cur,rfl,q2,q3,q4⟩
  ·exact Or.inl h2
  ·have hlt:g<w.heap.size:=(ad3.1 q3).1;exact Or.inr ⟨g,cap,cur,rfl,q2,(hb.block g hlt (hr g rfl)).trans q3,q4⟩
 ·obtain⟨v,q1,q2⟩:=h3 i hi;exact⟨v,q1,q2.but hb hS⟩
theorem bF.pG{w:World}{rv:Value}{ak:List Rule}(h:bF w rv ak){m:Nat}{τ:List Tr}(hB:bD w m τ):∀k,rv.ownBlock=some k->k≠m:=by
 obtain⟨es,⟨e1,c1,h4,_⟩,_⟩:=hB.map;obtain⟨vs,⟨h1,h2⟩,h3⟩:=h;intro k hk e;subst e;rcases h2 with⟨rfl,_⟩|⟨g,cap,cur,rfl,q2,q3,q4⟩
 ·cases hk
 ·cases hk;rw[h4]at q3;cases q3
structure FI(w:World)(b U:Nat)(rv ov:Value)(tp:List UInt8)(m:Nat)(τ:List Tr)(ak:List Rule):Prop where
 uM:nX w b U rv ov tp (some m)
 rows:bF w rv ak
 bs:bD w m τ
 inv:Sat.BInv ak (bel τ) τ.length
 lt:∀q∈τ,q.1<U
structure RG(U:Nat)(ak:List Rule):Prop where
 ne:∀r∈ak,r≠[]
 nodup:∀r∈ak,r.Nodup
 lt:∀r∈ak,∀u∈r,u.1<U
 len:∀r∈ak,r.length<=1000
theorem jc:∀(U:Nat) (l:List Nat),l.Nodup->(∀x∈l,x<U)->l.length<=U:=by
 intro U
 induction U with
 |zero=>
  intro l _ h;cases l with
  |nil=>simp
  |cons a l=>have:=h a (by simp);omega
 |succ U ih=>
  intro l hn h;have h1:=ih (l.filter (·!= U)) (hn.sublist List.filter_sublist) (λx hx=>by
   have h2:=ai3.1 hx;have h3:=h x h2.1;have h4:x≠U:=(by simpa using h2.2);omega)
  have h2:l.length<=(l.filter (·!= U)).length+1:=by
   have h3:=List.length_eq_countP_add_countP (p:=λx=>x != U) (l:=l);rw[List.countP_eq_length_filter]at h3;have h4:l.countP (λx=>decide ¬(x != U)=true)<=1:=by
    have h5:l.countP (λx=>decide ¬(x != U)=true)=l.count U:=by
     unfold List.count
     congr 1
     funext x;by_cases e:x=U<;>simp[e]
    rw[h5];exact List.nodup_iff_count.1 hn U
   omega
  omega
theorem FI.len{w:World}{b U:Nat}{rv ov:Value}{tp:List UInt8}{m:Nat}{τ:List Tr}{ak:List Rule}(h:FI w b U rv ov tp m τ ak):τ.length<=U:=by
 have:=jc U (τ.map (·.1)) h.bs.nodup (λx hx=>by
  obtain⟨q,hq,rfl⟩:=af9.1 hx;exact h.lt q hq)
 simpa using this
theorem FI.grown{w w':World}{b U:Nat}{rv ov:Value}{tp:List UInt8}{m:Nat}{τ:List Tr}{ak:List Rule}(h:FI w b U rv ov tp m τ ak)(hg:w.grownBy w' none):FI w' b U rv ov tp m τ ak:=by
 have hb:=But.aA hg;have hn:∀k,some k=none->jC w k:=λk e=>by cases e
 exact⟨h.uM.kept (hg.block b h.uM.lt (by simp)),h.rows.but hb hn (λk _=>by simp),h.bs.but hb hn (by simp),h.inv,h.lt⟩
theorem FI.more{w w':World}{b U:Nat}{rv ov:Value}{tp:List UInt8}{m:Nat}{τ:List Tr}{ak:List Rule}(h:FI w b U rv ov tp m τ ak)(hg:w.grownBy w' (some m)){q:Tr}(hB:bD w' m (τ++[q]))
 (hi:Sat.BInv ak (bel (τ++[q])) (τ.length+1))(hq:q.1<U):FI w' b U rv ov tp m (τ++[q]) ak:=by
 have hb:=But.aA hg;have hn:∀k,some k=some m->jC w k:=λk e=>by cases e;exact h.bs.og
 have hbm:b≠m:=λe=>by
  obtain⟨es,⟨e1,c1,h4,_⟩,_⟩:=h.bs.map;have:=h.uM.out;rw[e,h4]at this;cases this
 refine⟨h.uM.kept (hg.block b h.uM.lt (by simpa using hbm)),h.rows.but hb hn (λk hk e=>h.rows.pG h.bs k hk (by cases e;rfl)),hB,by rw[af8];exact hi,λp hp=>?_⟩;rcases ag9.1 hp with hp|hp
 ·exact h.lt p hp
 ·rw[ag0.1 hp];exact hq
theorem TL{τ:List Tr}{v:View}:EH τ v=true↔Sat.right (bel τ) v:=by
 unfold EH Sat.right bel;cases mD τ v.1 with
 |none=>simp
 |some q=>simp
theorem xq{τ:List Tr}{v:View}:unk τ v=true↔bel τ v.1=none:=by
 unfold unk kX bel;cases mD τ v.1<;>simp
theorem Ea{τ:List Tr}{v:View}(h1:EH τ v=false)(h2:unk τ v=false):Sat.wrong (bel τ) v:=by
 unfold EH unk kX at *;unfold Sat.wrong bel;cases e:mD τ v.1 with
 |none=>rw[e]at h2;simp at h2
 |some q=>rw[e]at h1;exact⟨_,rfl,by simpa using h1⟩
theorem Jm{τ:List Tr}{r:Rule}(h1:r.any (EH τ)=false)(h2:(r.filter (unk τ)).length=0):∀v∈r,Sat.wrong (bel τ) v:=by
 intro v hv;refine Ea ?_ ?_
 ·have:=List.any_eq_false.1 h1 v hv;simpa using this
 ·have h3:=ah4 h2;have:=List.filter_eq_nil_iff.1 h3 v hv;simpa using this
theorem GU{τ:List Tr}{r:Rule}(h1:r.any (EH τ)=false)(h2:(r.filter (unk τ)).length=1):dM τ r∈r/\bel τ (dM τ r).1=none/\∀u∈r,u≠dM τ r->Sat.wrong (bel τ) u:=by
 obtain⟨a,ha⟩:=List.length_eq_one_iff.1 h2;have hl:dM τ r=a:=by unfold dM;rw[ha];rfl
 have hm:a∈r.filter (unk τ):=by rw[ha];simp
 rw[hl];refine⟨(ai3.1 hm).1,xq.1 (ai3.1 hm).2,λu hu hne=>Ea ?_ ?_⟩
 ·have:=List.any_eq_false.1 h1 u hu;simpa using this
 ·cases e:unk τ u
  ·rfl
  ·have:u∈r.filter (unk τ):=ai3.2 ⟨hu,e⟩;rw[ha]at this;exact absurd (ag0.1 this) hne
def Byr(ρ:List Tr):Prop:=∀q∈ρ,q.2.2.2≠[]
def Ext(τ σ:List Tr):Prop:=∃ρ,σ=τ++ρ/\Byr ρ
theorem Ext.refl(τ:List Tr):Ext τ τ:=⟨[],by simp,λq h=>by(cases h)⟩
theorem Ext.snoc{τ σ:List Tr}(h:Ext τ σ){q:Tr}(hq:q.2.2.2≠[]):Ext τ (σ++[q]):=by
 obtain⟨ρ,rfl,h1⟩:=h;refine⟨ρ++[q],by simp,λp hp=>?_⟩;rcases ag9.1 hp with hp|hp
 ·exact h1 p hp
 ·rw[ag0.1 hp];exact hq
def still(τ:List Tr)(r:Rule):Prop:=r.any (EH τ)=true\/2<=(r.filter (unk τ)).length
theorem UU{τ:List Tr}{ak:List Rule}(hn:∀r∈ak,r.Nodup)(h:∀i (hi:i<ak.length),still τ ak[i]):Sat.Done ak (bel τ):=by
 intro r hr;obtain⟨i,hi,rfl⟩:=ai0 hr;rcases h i hi with h|h
 ·obtain⟨v,hv,h1⟩:=an1.1 h;exact Or.inl ⟨v,hv,TL.1 h1⟩
 ·right;have hnd:(ak[i].filter (unk τ)).Nodup:=(hn _ hr).sublist List.filter_sublist;generalize hf:ak[i].filter (unk τ)=l at h hnd
  match l,h,hnd with
  |u::v::l,_,hnd=>
   have hu:u∈ak[i].filter (unk τ):=(by rw[hf];simp);have hv:v∈ak[i].filter (unk τ):=(by rw[hf];simp);exact⟨u,(ai3.1 hu).1,v,(ai3.1 hv).1,λe=>by subst e;simp at hnd,xq.1 (ai3.1 hu).2,xq.1 (ai3.1 hv).2⟩
theorem bF.slice{w:World}{rv:Value}{ak:List Rule}(h:bF w rv ak):∃p cap,rv=.slice p ak.length cap:=by
 obtain⟨vs,⟨_,h2⟩,_⟩:=h;rcases h2 with⟨rfl,e⟩|⟨g,cap,cur,rfl,_⟩
 ·rw[e];exact⟨_,_,rfl⟩
 ·exact⟨_,_,rfl⟩
theorem bF.at{w:World}{p:Option Addr}{cap:Nat}{ak:List Rule}(h:bF w (.slice p ak.length cap) ak){k:Nat}(hk:k<ak.length):∃g v,p=some ⟨g,0,none⟩/\w.cell? ⟨g,k,none⟩=some v/\aP w v ak[k]/\ak.length<=cap/\cap<=maxLen:=by
 obtain⟨vs,hr,h3⟩:=h;obtain⟨v,q1,q2⟩:=h3 k hk;obtain⟨h1,h2⟩:=hr;rcases h2 with⟨e,e2⟩|⟨g,cap2,cur,e,_,q3,q4,q5,q6,q7⟩
 ·omega
 ·cases e;refine⟨g,v,rfl,?_,q2,q4,q5⟩;rw[cell_of q3];rw[<-q7,an2]at q1;split at q1
  ·simpa using q1
  ·cases q1
def foE(w:World)(τ:List Tr)(ak:List Rule)(e:Ending):Prop:=
 (e=.returned (.slice none 0 0)/\Sat.Done ak (bel τ))\/∃v r,e=.returned v/\aP w v r/\r∈ak/\∀u∈r,Sat.wrong (bel τ) u
theorem IY(w:World)(b U:Nat)(rv ov:Value)(tp:List UInt8)(m:Nat)(τ:List Tr)(ak:List Rule)(h:FI w b U rv ov tp m τ ak)(hR:RG U ak)(hU:U<=500)(hn:ak.length<2 ^ 60) :
  Calls prog 115 #[.pointer (some ⟨b,0,none⟩)] w λe w'=>∃τ',foE w' τ' ak e/\FI w' b U rv ov tp m τ' ak/\w.grownBy w' (some m)/\Ext τ τ':=by
 obtain⟨rp,rc,rfl⟩:=h.rows.slice;have H:=aj h;clear h
 go_enter func115,ntmps115
 go_wp2_with fail
 go_loopw [3] (λbf wr=>∃(n:Nat) (σ:List Tr),bf=.int .i64 ((n:Int)-1)/\n<=σ.length+1/\FI wr b U (.slice rp ak.length rc) ov tp m σ ak/\w.grownBy wr (some m)/\(n=σ.length+1->Sat.Done ak (bel σ))/\Ext τ σ) (λbf _=>U+2-(intOf bf+1).toNat)
 case atStart=>exact⟨0,τ,rfl,ah2 _,ah H,ah7 _ _,λe=>by omega,Ext.refl _⟩
 case round=>
  obtain⟨n,σ,rfl,hns,hfi,hgw,hdn,hex⟩:=hrel;have HEX:=aj hex;clear hex;have hσ:=hfi.len;obtain⟨c0,c1,c2,c3,c4⟩:=hfi.uM.cells;have hlen:=hfi.bs.len 3;by_cases hlt:n<σ.length+1
  ·have hbd:(n:Int)-1<(σ.length:Int):=(by omega);have HFI:=aj hfi;have HGW:=aj hgw;clear hfi hgw hdn
   go_wp2_with fail
   go_loopw [25] (λi wq=>∃(k:Nat) (ρ:List Tr),i=.int .i64 k/\k<=ak.length/\FI wq b U (.slice rp ak.length rc) ov tp m ρ ak/\w.grownBy wq (some m)/\σ.length<=ρ.length/\(ρ.length=σ.length->∀j (hj:j<ak.length),j<k->still ρ ak[j])/\Ext τ ρ) (λi _=>ak.length-(intOf i).toNat)
   case atStart=>exact⟨0,σ,rfl,ah2 _,ah HFI,ah HGW,ad5 _,λ_ j hj h=>by omega,ah HEX⟩
   case round=>
    obtain⟨k,ρ,rfl,hk,hfi,hgw,hle,hst,hey⟩:=hrel;have HEY:=aj hey;clear hey;have hρ:=hfi.len;by_cases hkl:k<ak.length
    ·have hbk:(k:Int)<(ak.length:Int):=(by omega);obtain⟨g,v,rfl,hcv,hrv,hc1,hc2⟩:=hfi.rows.at hkl;have hmem:ak[k]∈ak:=ad8 hkl;have hop:=open_any wr b U _ ov tp m ρ hfi.uM hfi.bs v ak[k] hrv (hR.ne _ hmem) (hR.len _ hmem) (λu hu=>by have:=hR.lt _ hmem u hu;omega);have hnx:Hid (still ρ ak[k]->ρ.length=σ.length->∀j (hj:j<ak.length),j<k+1->still ρ ak[j]):=λhs hl j hj hjk=>by
      by_cases e:j=k
      ·subst e;exact hs
      ·exact hst hl j hj (by omega)
     have HFI:=aj hfi;have HGW:=aj hgw;have HRV:=aj hrv;have Jy:=aj hmem;have hlr:=hR.lt _ hmem;have YX:=aj hlr;have hnr:=aj (hR.ne _ hmem);have hcnt:((ak[k].filter (unk ρ)).length:Int)<1001:=by
      have h1:=List.length_filter_le (unk ρ) ak[k];have h2:=hR.len _ hmem;omega
     have HST:=aj hst;clear hfi hgw hrv hst hlr hmem;have Uu:Hid ((ak[k].filter (unk ρ)).length=1->ak[k].any (EH ρ)=false->∀W,wr.grownBy W none->Calls prog 156 #[.pointer (some ⟨b,0,none⟩),.agg #[.int .i64 (dM ρ ak[k]).1,.bool (dM ρ ak[k]).2],v] W λe w'=>(∃v,e=.returned v)/\FI w' b U (.slice (some ⟨g,0,none⟩) ak.length rc) ov tp m (ρ++[((dM ρ ak[k]).1,(dM ρ ak[k]).2,v,ak[k])]) ak/\W.grownBy w' (some m)):=λh1 h2 W hW=>by
      obtain⟨s1,s2,s3⟩:=GU h2 h1;have hf:=(ah HFI).grown hW;have hxl:=ah YX _ s1;have hq:(dM ρ ak[k]).1∉ρ.map (·.1):=zJ.1 s2;refine(wO W b U _ ov tp m ρ ((dM ρ ak[k]).1,(dM ρ ak[k]).2,v,ak[k]) hf.uM hf.bs (by omega) (by simp only;omega) hq ((ah HRV).but (But.aA hW) (λk e=>by cases e))).mono ?_;rintro e w2 ⟨e1,e2,e3⟩;refine⟨e1,hf.more e3 e2 ?_ hxl,e3⟩;rw[Gn (q:=((dM ρ ak[k]).1,(dM ρ ak[k]).2,v,ak[k])) hq];exact hf.inv.follow (ah Jy) s1 s2 s3
     have HBR:Hid ((ak[k].filter (unk ρ)).length=0->ak[k].any (EH ρ)=false->∀u∈ak[k],Sat.wrong (bel ρ) u):=λh1 h2=>Jm h2 h1;have hns:Hid (2<=(ak[k].filter (unk ρ)).length->still ρ ak[k]):=λh=>Or.inr h;generalize ak[k]=r at hop hcnt hnx HRV Jy YX hnr Uu HBR hns;unfold opE at hop;generalize (r.filter (unk ρ)).length=cu at hop hcnt Uu HBR hns;generalize dM ρ r=lu at hop Uu;obtain⟨lx,li⟩:=lu
     go_wp2_with fail
     refine hop.mono ?_;rintro e w1 ⟨he,hb1⟩;have hg1:=bI hb1;have HG1:=aj hg1;clear hb1 hg1 hop;rcases he with⟨ha,u,rfl⟩|⟨ha,rfl⟩
     ·have hs:=ah hnx (Or.inl ha);have HS:=aj hs;clear hs
      go_wp2_with fail
      refine⟨⟨k+1,ρ,by go_num,hkl,(ah HFI).grown ((ah HG1).trans (ad4 _ _ none)),(ah HGW).andThen ((ah HG1).trans (ad4 _ _ none)) (λj e=>by cases e),hle,ah HS,ah HEY⟩,by simp[intOf];omega⟩
     ·by_cases z0:cu=0
      ·subst z0;have hw:=ah HBR rfl ha;have HW:=aj hw;clear hw;have hgA:wr.grownBy (w1.alloc (.cells #[.int .i64 lx,.bool li] 207)) none:=(ah HG1).trans (ad4 _ _ none);have Nk:=(ah HRV).but (But.aA hgA) (λk e=>by cases e);have Qo:=(ah HFI).grown hgA;have Zf:=(ah HGW).andThen hgA (λj e=>by cases e);have Q1:=aj Nk;have Q2:=aj Qo;have Q3:=aj Zf;clear Nk Qo Zf hgA
       go_wp2_with fail
       exact ag3 (v:=v) (by simp[results,results115,go_sem]) rfl ⟨ρ,Or.inr ⟨v,r,rfl,ah Q1,ah Jy,ah HW⟩,ah Q2,ah Q3,ah HEY⟩
      ·by_cases z1:cu=1
       ·subst z1;have hbl:=ah Uu rfl ha;have HBL:=aj hbl;clear hbl z0
        go_wp2_with fail
        have hgA:wr.grownBy (w1.alloc (.cells #[.int .i64 lx,.bool li] 207)) none:=(ah HG1).trans (ad4 _ _ none);refine(ah HBL _ hgA).mono ?_;rintro e w2 ⟨⟨v2,rfl⟩,Qo,hg2⟩;have Q2:=aj Qo;have Q3:=aj (((ah HGW).andThen hgA (λj e=>by cases e)).andThen hg2 (λj e=>by cases e;exact Or.inr rfl));clear Qo hg2 hgA
        go_wp2_with fail
        refine⟨⟨k+1,_,by go_num,hkl,ah Q2,ah Q3,by rw[af8];omega,λe=>by rw[af8,ao8]at e;omega,(ah HEY).snoc (ah hnr)⟩,by simp[intOf];omega⟩
       ·have hs:=ah hnx (ah hns (by omega));have HS:=aj hs;clear hs;have z0':(cu:Int)≠0:=(by omega);have z1':(cu:Int)≠1:=by omega
        go_wp2_with fail
        refine⟨⟨k+1,ρ,by go_num,hkl,(ah HFI).grown ((ah HG1).trans (ad4 _ _ none)),(ah HGW).andThen ((ah HG1).trans (ad4 _ _ none)) (λj e=>by cases e),hle,ah HS,ah HEY⟩,by simp[intOf];omega⟩
    ·have hkk:k=ak.length:=(by omega);have hbk:¬(k:Int)<(ak.length:Int):=(by omega);have HFI:=aj hfi;have HGW:=aj hgw;have hdn:Hid (σ.length+1=ρ.length+1->Sat.Done ak (bel ρ)):=λe=>UU hR.nodup (λi hi=>hst (by omega) i hi (by omega));clear hfi hgw hst hkk
     go_wp2_with fail
     refine⟨⟨σ.length+1,ρ,by go_num,by omega,ah HFI,ah HGW,ah hdn,ah HEY⟩,?_⟩;simp only[intOf];omega
  ·have hbd:¬(n:Int)-1<(σ.length:Int):=(by omega);have hd:=hdn (by omega);have HFI:=aj hfi;have HGW:=aj hgw;have HD:=aj hd;clear hfi hgw hdn hd
   go_wp2_with fail
   exact ag3 (v:=.slice none 0 0) (by simp[results,results115,go_sem]) rfl ⟨σ,Or.inl ⟨rfl,ah HD⟩,ah HFI,ah HGW,ah HEX⟩
end
open aB (Key put)
def gy(w:World)(b:Nat)(f:Key->Key)(dom:Key->Prop)(c:Nat):Prop:=
 ∃(D:DataW Value) (nn:Nat),nn<=c/\w.ownsMap prog 82 uU b nn D/\
  ∀k l,dom k->keyOf prog 82 (aS k)=some l->Maps.has D l=decide (f k≠k)/\(f k≠k->∀z,D.atKey l z=.held (aS (f k)))
theorem gy.lt{w:World}{b c:Nat}{f:Key->Key}{dom:Key->Prop}(h:gy w b f dom c):b<w.heap.size:=by
 obtain⟨D,nn,_,h1,_⟩:=h;exact h1.lt
theorem gy.kept{w w':World}{b c:Nat}{f:Key->Key}{dom:Key->Prop}(h:gy w b f dom c)(hb:w'.heap[b]?=w.heap[b]?):gy w' b f dom c:=by
 obtain⟨D,nn,h0,⟨es,clock,h1,h2⟩,h3⟩:=h;exact⟨D,nn,h0,⟨es,clock,hb.trans h1,h2⟩,h3⟩
theorem gy.congr{w:World}{b c:Nat}{f g:Key->Key}{dom:Key->Prop}(h:gy w b f dom c)(e:∀k,dom k->f k=g k):gy w b g dom c:=by
 obtain⟨D,nn,h0,h1,h2⟩:=h;exact⟨D,nn,h0,h1,λk l hk hl=>by rw[<-e k hk];exact h2 k l hk hl⟩
theorem gy.made(w:World)(dom:Key->Prop):gy (w.alloc (.map #[] 0)) w.heap.size id dom 0:=
 ⟨.map [],0,ad5 _,aq9 w _ _ _,λk l _ _=>⟨by simp[Maps.has],λh=>absurd rfl h⟩⟩
theorem Yd(w:World):(zeroValue 82).run prog w=.ok (aS (0,0,0)) w:=by kernel_rfl
theorem gy.look{w:World}{b c:Nat}{f:Key->Key}{dom:Key->Prop}(h:gy w b f dom c){k:Key}(hk:dom k)(h1:0<=k.1/\k.1<=255)(h2:k.2.1<=1000)(h3:k.2.2<=1000) :
  ∃v:Key,(Instr.lookup 201 (.map (some b)) (aS k) true).run prog w=.ok (.tuple #[aS v,.bool (decide (f k≠k))]) w/\(f k≠k->v=f k):=by
 obtain⟨l,hkey⟩:=MO k h1 h2 h3;obtain⟨D,nn,h0,hown,hall⟩:=h;obtain⟨q1,q2⟩:=hall k l hk hkey;obtain⟨v,ps,hrun,hv⟩:=hown.look_ok oh underlying201 (Yd w) (zd:=.held (aS (0,0,0))) (zp:=[]) rfl hkey;by_cases e:f k=k
 ·have hh:Maps.has D l=false:=by rw[q1];simp[e]
  obtain⟨es,e1,e2,_⟩:=hown.entries oh;subst e1;have h2:(es.find? λp=>p.1.sameKey l)=none:=by
   rw[as2];intro p hp1 hp2;have:Maps.has (.map es) l=true:=an1.2 ⟨p,hp1,hp2⟩;rw[hh]at this;cases this
  simp only[DataW.atKey]at hv;rw[h2]at hv;cases hv;refine⟨(0,0,0),?_,λh=>absurd e h⟩;rw[hrun,hh];simp[e]
 ·rw[q2 e]at hv;cases hv;refine⟨f k,?_,λ_=>rfl⟩;rw[hrun,q1]
def vP(k:Key):Array Value:=#[.int .u8 k.1,.int .i64 k.2.1,.int .i64 k.2.2]
theorem CQ(w:World)(b c:Nat)(f:Key->Key)(dom:Key->Prop)(k:Key)(hM:gy w b f dom c)(hk:dom k)(hfk:dom (f k))(hff:f (f k)=f k)
 (hb:(0<=k.1/\k.1<=255)/\k.2.1<=1000/\k.2.2<=1000)(hbf:(0<=(f k).1/\(f k).1<=255)/\(f k).2.1<=1000/\(f k).2.2<=1000) :
  Calls prog 186 #[.map (some b),aS k] w λe w'=>e=.returned (aS (f k))/\w.grownBy w' none:=by
 have hlt:=hM.lt;have hrun:Hid (∀W:World,W.heap[b]?=w.heap[b]?->∃v:Key,(Instr.lookup 201 (.map (some b)) (aS k) true).run prog W=.ok (.tuple #[aS v,.bool (decide (f k≠k))]) W/\(f k≠k->v=f k)):=λW hW=>(hM.kept hW).look hk hb.1 hb.2.1 hb.2.2;have hrun2:Hid (∀W:World,W.heap[b]?=w.heap[b]?->∃v:Key,(Instr.lookup 201 (.map (some b)) (aS (f k)) true).run prog W=.ok (.tuple #[aS v,.bool (decide (f (f k)≠f k))]) W/\(f (f k)≠f k->v=f (f k))):=λW hW=>(hM.kept hW).look hfk hbf.1 hbf.2.1 hbf.2.2;clear hM hk hfk;have h1:((w.alloc (.cells (vP k) 82)).alloc (.cells #[.int .u8 0,.int .i64 0,.int .i64 0] 82)).heap[b]?=w.heap[b]?:=by
  rw[ae3 _ _ _ (by simp;omega),ae3 _ _ _ hlt]
 obtain⟨v,hr,hv⟩:=ah hrun _ h1;by_cases e:f k=k
 ·have hd:decide (f k≠k)=false:=by simp[e]
  rw[hd]at hr;rw[e];clear hd hv hrun hrun2 h1 hff hbf;obtain⟨kc,kx,ky⟩:=k;obtain⟨vc,vx,vy⟩:=v;simp only[aS,vP]at hr ⊢
  go_enter func186,ntmps186
  go_wp2_with fail
  refine wp_loop_rounds 1 ?_;rw[ao0]
  go_wp2_with fail
  refine ag3 (v:=.agg #[.int .u8 kc,.int .i64 kx,.int .i64 ky]) (by simp[results,results186,go_sem]) rfl ⟨rfl,?_⟩;exact((ad4 _ _ none).trans (ad4 _ _ none)).trans (ad4 _ _ none)
 ·have hd:decide (f k≠k)=true:=by simp[e]
  rw[hd]at hr;obtain rfl:=hv e;have hd2:decide (f (f k)≠f k)=false:=by simp[hff]
  rw[hd2]at hrun2;clear hd hd2 hv hrun h1 hff e;generalize f k=k2 at hr hrun2 hbf;obtain⟨kc,kx,ky⟩:=k;obtain⟨vc,vx,vy⟩:=k2;simp only[aS,vP]at hr hrun2 ⊢
  go_enter func186,ntmps186
  go_wp2_with fail
  refine wp_loop_rounds 2 ?_;rw[ao0]
  go_wp2_with fail
  obtain⟨v3,hr3,_⟩:=ah hrun2 (((w.alloc (.cells #[.int .u8 vc,.int .i64 vx,.int .i64 vy] 82)).alloc (.cells #[.int .u8 0,.int .i64 0,.int .i64 0] 82)).alloc (.cells #[.int .u8 vc,.int .i64 vx,.int .i64 vy] 82)) (by
   rw[ae3 _ _ _ (by simp;omega),ae3 _ _ _ (by simp;omega),ae3 _ _ _ hlt])
  obtain⟨zc,zx,zy⟩:=v3;simp only at hr3;rw[ao0]
  go_wp2_with fail
  refine ag3 (v:=.agg #[.int .u8 vc,.int .i64 vx,.int .i64 vy]) (by simp[results,results186,go_sem]) rfl ⟨rfl,?_⟩;exact(((ad4 _ _ none).trans (ad4 _ _ none)).trans (ad4 _ _ none)).trans (ad4 _ _ none)
end Go.Proofs.YthcppbmkacbbiabGreat
