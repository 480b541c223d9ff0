import Derived.Test.YthcppbmkacbbiaaGreatYAV
import Derived.Test.YthcppbmkacbbiaaGreatYAP
set_option linter.unusedSimpArgs false
set_option maxHeartbeats 4000000
set_option maxRecDepth 100000
namespace Go.Proofs.YthcppbmkacbbiaaGreat
open Go.Proofs.Tryz
section
open Go.RowKit Go.Maps Go.WideMaps
open Sat (View Rule jl bH)
theorem bG.slice{w:World}{rv:Value}{ak:List Rule}(h:bG w rv ak):∃p cap,rv=.slice p ak.length cap:=by
 obtain⟨vs,⟨_,h2⟩,_⟩:=h;rcases h2 with⟨rfl,e⟩|⟨g,cap,cur,rfl,_⟩
 ·rw[e];exact⟨_,_,rfl⟩
 ·exact⟨_,_,rfl⟩
theorem bG.at{w:World}{p:Option Addr}{cap:Nat}{ak:List Rule}(h:bG w (.slice p ak.length cap) ak){k:Nat}(hk:k<ak.length):∃g v,p=some ⟨g,0,none⟩/\w.cell? ⟨g,k,none⟩=some v/\aQ w v ak[k]/\ak.length<=cap/\cap<=maxLen:=by
 obtain⟨vs,hr,h3⟩:=h;obtain⟨v,q1,q2⟩:=h3 k hk;obtain⟨h1,h2⟩:=hr;rcases h2 with⟨e,e2⟩|⟨g,cap2,cur,e,_,q3,q4,q5,q6,q7⟩
 ·omega
 ·cases e;refine⟨g,v,rfl,?_,q2,q4,q5⟩;rw[cell_of q3];rw[<-q7,ak6]at q1;split at q1
  ·simpa using q1
  ·cases q1
def foE(w:World)(τ:List Tr)(ak:List Rule)(e:Ending):Prop:=
 (e=.returned (.slice none 0 0)/\Sat.Done ak (bel τ))\/∃v r,e=.returned v/\aQ w v r/\r∈ak/\∀u∈r,Sat.wrong (bel τ) u
theorem Ic(w:World)(b U:Nat)(rv ov:Value)(tp:List UInt8)(m:Nat)(τ:List Tr)(ak:List Rule)(h:FI w b U rv ov tp m τ ak)(hR:RG U ak)(hU:U<=500)(hn:ak.length<2 ^ 60) :
  Calls prog 133 #[.pointer (some ⟨b,0,none⟩)] w λe w'=>∃τ',foE w' τ' ak e/\FI w' b U rv ov tp m τ' ak/\w.grownBy w' (some m)/\Ext τ τ':=by
 obtain⟨rp,rc,rfl⟩:=h.rows.slice;have H:=aj h;clear h
 go_enter func133,ntmps133
 go_wp2_with fail
 go_loopw [3] (λbf wr=>∃(n:Nat) (σ:List Tr),bf=.int .i64 ((n:Int)-1)/\n<=σ.length+1/\FI wr b U (.slice rp ak.length rc) ov tp m σ ak/\w.grownBy wr (some m)/\(n=σ.length+1->Sat.Done ak (bel σ))/\Ext τ σ) (λbf _=>U+2-(intOf bf+1).toNat)
 case atStart=>exact⟨0,τ,rfl,ae7 _,ah H,af2 _ _,λe=>by omega,Ext.refl _⟩
 case round=>
  obtain⟨n,σ,rfl,hns,hfi,hgw,hdn,hex⟩:=hrel;have HEX:=aj hex;clear hex;have hσ:=hfi.len;obtain⟨c0,c1,c2,c3,c4⟩:=hfi.uF.cells;have hlen:=hfi.bs.len 3;by_cases hlt:n<σ.length+1
  ·have hbd:(n:Int)-1<(σ.length:Int):=(by omega);have HFI:=aj hfi;have HGW:=aj hgw;clear hfi hgw hdn
   go_wp2_with fail
   go_loopw [25] (λi wq=>∃(k:Nat) (ρ:List Tr),i=.int .i64 k/\k<=ak.length/\FI wq b U (.slice rp ak.length rc) ov tp m ρ ak/\w.grownBy wq (some m)/\σ.length<=ρ.length/\(ρ.length=σ.length->∀j (hj:j<ak.length),j<k->still ρ ak[j])/\Ext τ ρ) (λi _=>ak.length-(intOf i).toNat)
   case atStart=>exact⟨0,σ,rfl,ae7 _,ah HFI,ah HGW,SH _,λ_ j hj h=>by omega,ah HEX⟩
   case round=>
    obtain⟨k,ρ,rfl,hk,hfi,hgw,hle,hst,hey⟩:=hrel;have HEY:=aj hey;clear hey;have hρ:=hfi.len;by_cases hkl:k<ak.length
    ·have hbk:(k:Int)<(ak.length:Int):=(by omega);obtain⟨g,v,rfl,hcv,hrv,hc1,hc2⟩:=hfi.rows.at hkl;have hmem:ak[k]∈ak:=ab2 hkl;have hop:=open_any wr b U _ ov tp m ρ hfi.uF hfi.bs v ak[k] hrv (hR.ne _ hmem) (hR.len _ hmem) (λu hu=>by have:=hR.lt _ hmem u hu;omega);have hnx:Hid (still ρ ak[k]->ρ.length=σ.length->∀j (hj:j<ak.length),j<k+1->still ρ ak[j]):=λhs hl j hj hjk=>by
      by_cases e:j=k
      ·subst e;exact hs
      ·exact hst hl j hj (by omega)
     have HFI:=aj hfi;have HGW:=aj hgw;have HRV:=aj hrv;have IW:=aj hmem;have hlr:=hR.lt _ hmem;have XV:=aj hlr;have hnr:=aj (hR.ne _ hmem);have hcnt:((ak[k].filter (unk ρ)).length:Int)<1001:=by
      have h1:=List.length_filter_le (unk ρ) ak[k];have h2:=hR.len _ hmem;omega
     have HST:=aj hst;clear hfi hgw hrv hst hlr hmem;have SQ:Hid ((ak[k].filter (unk ρ)).length=1->ak[k].any (Ed ρ)=false->∀W,wr.grownBy W none->Calls prog 176 #[.pointer (some ⟨b,0,none⟩),.agg #[.int .i64 (dP ρ ak[k]).1,.bool (dP ρ ak[k]).2],v] W λe w'=>(∃v,e=.returned v)/\FI w' b U (.slice (some ⟨g,0,none⟩) ak.length rc) ov tp m (ρ++[((dP ρ ak[k]).1,(dP ρ ak[k]).2,v,ak[k])]) ak/\W.grownBy w' (some m)):=λh1 h2 W hW=>by
      obtain⟨s1,s2,s3⟩:=F8 h2 h1;have hf:=(ah HFI).grown hW;have hxl:=ah XV _ s1;have hq:(dP ρ ak[k]).1∉ρ.map (·.1):=zo.1 s2;refine(wH W b U _ ov tp m ρ ((dP ρ ak[k]).1,(dP ρ ak[k]).2,v,ak[k]) hf.uF hf.bs (by omega) (by simp only;omega) hq ((ah HRV).but (But.aA hW) (λk e=>by cases e))).mono ?_;rintro e w2 ⟨e1,e2,e3⟩;refine⟨e1,hf.more e3 e2 ?_ hxl,e3⟩;rw[FM (q:=((dP ρ ak[k]).1,(dP ρ ak[k]).2,v,ak[k])) hq];exact hf.inv.follow (ah IW) s1 s2 s3
     have HBR:Hid ((ak[k].filter (unk ρ)).length=0->ak[k].any (Ed ρ)=false->∀u∈ak[k],Sat.wrong (bel ρ) u):=λh1 h2=>IE h2 h1;have hns:Hid (2<=(ak[k].filter (unk ρ)).length->still ρ ak[k]):=λh=>Or.inr h;generalize ak[k]=r at hop hcnt hnx HRV IW XV hnr SQ HBR hns;unfold opE at hop;generalize (r.filter (unk ρ)).length=cu at hop hcnt SQ HBR hns;generalize dP ρ r=lu at hop SQ;obtain⟨lx,li⟩:=lu
     go_wp2_with fail
     refine hop.mono ?_;rintro e w1 ⟨he,hb1⟩;have hg1:=bJ hb1;have HG1:=aj hg1;clear hb1 hg1 hop;rcases he with⟨ha,u,rfl⟩|⟨ha,rfl⟩
     ·have hs:=ah hnx (Or.inl ha);have HS:=aj hs;clear hs
      go_wp2_with fail
      refine⟨⟨k+1,ρ,by go_num,hkl,(ah HFI).grown ((ah HG1).trans (JD _ _ none)),(ah HGW).andThen ((ah HG1).trans (JD _ _ none)) (λj e=>by cases e),hle,ah HS,ah HEY⟩,by simp[intOf];omega⟩
     ·by_cases z0:cu=0
      ·subst z0;have hw:=ah HBR rfl ha;have HW:=aj hw;clear hw;have hgA:wr.grownBy (w1.alloc (.cells #[.int .i64 lx,.bool li] 214)) none:=(ah HG1).trans (JD _ _ none);have LV:=(ah HRV).but (But.aA hgA) (λk e=>by cases e);have Pj:=(ah HFI).grown hgA;have Yg:=(ah HGW).andThen hgA (λj e=>by cases e);have Q1:=aj LV;have Q2:=aj Pj;have Q3:=aj Yg;clear LV Pj Yg hgA
       go_wp2_with fail
       exact ad8 (v:=v) (by simp[results,results133,go_sem]) rfl ⟨ρ,Or.inr ⟨v,r,rfl,ah Q1,ah IW,ah HW⟩,ah Q2,ah Q3,ah HEY⟩
      ·by_cases z1:cu=1
       ·subst z1;have hbl:=ah SQ rfl ha;have HBL:=aj hbl;clear hbl z0
        go_wp2_with fail
        have hgA:wr.grownBy (w1.alloc (.cells #[.int .i64 lx,.bool li] 214)) none:=(ah HG1).trans (JD _ _ none);refine(ah HBL _ hgA).mono ?_;rintro e w2 ⟨⟨v2,rfl⟩,Pj,hg2⟩;have Q2:=aj Pj;have Q3:=aj (((ah HGW).andThen hgA (λj e=>by cases e)).andThen hg2 (λj e=>by cases e;exact Or.inr rfl));clear Pj hg2 hgA
        go_wp2_with fail
        refine⟨⟨k+1,_,by go_num,hkl,ah Q2,ah Q3,by rw[ad3];omega,λe=>by rw[ad3,am2]at e;omega,(ah HEY).snoc (ah hnr)⟩,by simp[intOf];omega⟩
       ·have hs:=ah hnx (ah hns (by omega));have HS:=aj hs;clear hs;have z0':(cu:Int)≠0:=(by omega);have z1':(cu:Int)≠1:=by omega
        go_wp2_with fail
        refine⟨⟨k+1,ρ,by go_num,hkl,(ah HFI).grown ((ah HG1).trans (JD _ _ none)),(ah HGW).andThen ((ah HG1).trans (JD _ _ none)) (λj e=>by cases e),hle,ah HS,ah HEY⟩,by simp[intOf];omega⟩
    ·have hkk:k=ak.length:=(by omega);have hbk:¬(k:Int)<(ak.length:Int):=(by omega);have HFI:=aj hfi;have HGW:=aj hgw;have hdn:Hid (σ.length+1=ρ.length+1->Sat.Done ak (bel ρ)):=λe=>TJ hR.nodup (λi hi=>hst (by omega) i hi (by omega));clear hfi hgw hst hkk
     go_wp2_with fail
     refine⟨⟨σ.length+1,ρ,by go_num,by omega,ah HFI,ah HGW,ah hdn,ah HEY⟩,?_⟩;simp only[intOf];omega
  ·have hbd:¬(n:Int)-1<(σ.length:Int):=(by omega);have hd:=hdn (by omega);have HFI:=aj hfi;have HGW:=aj hgw;have HD:=aj hd;clear hfi hgw hdn hd
   go_wp2_with fail
   exact ad8 (v:=.slice none 0 0) (by simp[results,results133,go_sem]) rfl ⟨σ,Or.inl ⟨rfl,ah HD⟩,ah HFI,ah HGW,ah HEX⟩
end
section
open aB (Key)
def iL(f:Nat->Nat)(l:List (Nat×Nat)):Nat->Nat:=l.foldl (λf p=>nR f p.1 p.2) f
theorem AY(f:Nat->Nat)(l:List (Nat×Nat))(p:Nat×Nat):iL f (l++[p])=nR (iL f l) p.1 p.2:=by
 unfold iL;rw[al4];rfl
def rts(f:Nat->Nat)(n:Nat):Nat:=(List.range n).countP λi=>decide (f i=i)
def iK(f:Nat->Nat)(n:Nat):Prop:=∀i,i<n->f i<n/\f (f i)=f i
theorem NS(n:Nat):iK id n:=λ_ h=>⟨h,rfl⟩
theorem iK.nR{f:Nat->Nat}{n:Nat}(h:iK f n){i j:Nat}(hi:i<n):iK (nR f i j) n:=by
 intro k hk;have h1:=h k hk;have h2:=h i hi;unfold Proofs.YthcppbmkacbbiaaGreat.nR;by_cases e:f k=f j
 ·rw[ac8 e];refine⟨h2.1,?_⟩;rw[h2.2];by_cases e2:f i=f j
  ·rw[ac8 e2]
  ·rw[ac5 e2]
 ·rw[ac5 e];refine⟨h1.1,?_⟩;rw[h1.2,ac5 e]
theorem iK.iL{f:Nat->Nat}{n:Nat}{l:List (Nat×Nat)}:iK f n->(∀p∈l,p.1<n)->iK (iL f l) n:=by
 induction l generalizing f with
 |nil=>intro h _;exact h
 |cons p l ih=>intro h hl;exact ih (h.nR (hl p (by simp))) (λq hq=>hl q (by simp[hq]))
theorem tu(f:Nat->Nat)(i j k:Nat)(h:f k=f j):nR f i j k=f i:=by unfold nR;rw[ac8 h]
theorem mg(f:Nat->Nat)(i j k:Nat)(h:f k≠f j):nR f i j k=f k:=by unfold nR;rw[ac5 h]
theorem SC{f:Nat->Nat}{i j a b:Nat}(h:f a=f b):nR f i j a=nR f i j b:=by unfold nR;rw[h]
theorem Lu(f:Nat->Nat)(i j:Nat):nR f i j i=nR f i j j:=by
 unfold nR;rw[ac8 rfl];split<;>rfl
theorem EL{l:List (Nat×Nat)}:∀{f:Nat->Nat} {a b:Nat},f a=f b->iL f l a=iL f l b:=by
 induction l with
 |nil=>intro f a b h;exact h
 |cons p l ih=>intro f a b h;exact ih (SC h)
theorem yG{l:List (Nat×Nat)}:∀{f:Nat->Nat} {p:Nat×Nat},p∈l->iL f l p.1=iL f l p.2:=by
 induction l with
 |nil=>intro f p h;cases h
 |cons q l ih=>
  intro f p h;rcases af4.1 h with e|h
  ·subst e;exact EL (l:=l) (Lu f p.1 p.2)
  ·exact ih h
structure WY(R:Nat->Nat->Prop):Prop where
 refl:∀a,R a a
 symm:∀a b,R a b->R b a
 trans:∀a b c,R a b->R b c->R a c
theorem CV(f:Nat->Nat):WY (λa b=>f a=f b):=⟨λ_=>rfl,λ_ _ h=>h.symm,λ_ _ _ h k=>h.trans k⟩
theorem U6{R:Nat->Nat->Prop}(hR:WY R){f:Nat->Nat}{n i j:Nat}(hi:i<n)(hj:j<n)(h:∀a b,a<n->b<n->f a=f b->R a b)(hij:R i j):∀a b,a<n->b<n->nR f i j a=nR f i j b->R a b:=by
 intro a b ha hb e;by_cases e1:f a=f j<;>by_cases e2:f b=f j
 ·exact h a b ha hb (e1.trans e2.symm)
 ·rw[tu _ _ _ _ e1,mg _ _ _ _ e2]at e;exact hR.trans _ _ _ (h a j ha hj e1) (hR.trans _ _ _ (hR.symm _ _ hij) (h i b hi hb e))
 ·rw[mg _ _ _ _ e1,tu _ _ _ _ e2]at e;exact hR.trans _ _ _ (h a i ha hi e) (hR.trans _ _ _ hij (h j b hj hb e2.symm))
 ·rw[mg _ _ _ _ e1,mg _ _ _ _ e2]at e;exact h a b ha hb e
theorem Cb{R:Nat->Nat->Prop}(hR:WY R){n:Nat}{l:List (Nat×Nat)}:∀{f:Nat->Nat},(∀p∈l,p.1<n/\p.2<n/\R p.1 p.2)->(∀a b,a<n->b<n->f a=f b->R a b)->∀a b,a<n->b<n->iL f l a=iL f l b->R a b:=by
 induction l with
 |nil=>intro f _ h;exact h
 |cons p l ih=>
  intro f hl h;obtain⟨h1,h2,h3⟩:=hl p (by simp);exact ih (λq hq=>hl q (by simp[hq])) (U6 hR h1 h2 h h3)
theorem MP{n:Nat}{p q:Nat->Bool}(hpq:∀i,i<n->p i=true->q i=true){x:Nat}(hx:x<n)(h1:p x=false)(h2:q x=true):(List.range n).countP p+1<=(List.range n).countP q:=by
 induction n with
 |zero=>omega
 |succ n ih=>
  rw[an4,List.countP_append,List.countP_append];by_cases e:x=n
  ·subst e;have hle:(List.range x).countP p<=(List.range x).countP q:=by
    apply List.countP_mono_left;intro i hi;exact hpq i (by have:=ag8.1 hi;omega)
   simp[h1,h2];omega
  ·have:=ih (λi hi=>hpq i (by omega)) (by omega);have hn:=hpq n (by omega);have:([n]:List Nat).countP p<=([n]:List Nat).countP q:=by
    simp only[am9,List.countP_nil];cases hp:p n
    ·simp
    ·simp[hn hp]
   omega
theorem wZ{f:Nat->Nat}{n i j:Nat}(h:iK f n)(hi:i<n)(hj:j<n)(hne:f i≠f j):rts (nR f i j) n+1<=rts f n:=by
 unfold rts;refine MP (x:=f j) (λk hk e=>?_) (h j hj).1 ?_ ?_
 ·have e:nR f i j k=k:=by simpa using e
  have:f k=k:=by
   by_cases e2:f k=f j
   ·rw[tu _ _ _ _ e2]at e;rw[<-e]at e2;rw[(h i hi).2]at e2;exact absurd e2 hne
   ·rw[mg _ _ _ _ e2]at e;exact e
  simpa using this
 ·have:nR f i j (f j)≠f j:=by rw[tu _ _ _ _ (h j hj).2];exact hne
  simpa using this
 ·simpa using (h j hj).2
theorem Gf{f:Nat->Nat}{n i j:Nat}(h:iK f n)(hi:i<n)(hj:j<n):rts (nR f i j) n<=rts f n:=by
 by_cases e:f i=f j
 ·rw[pG e];exact SH _
 ·have:=wZ h hi hj e;omega
theorem UW(f:Nat->Nat)(n:Nat):rts f n<=n:=by
 unfold rts;have:=List.countP_le_length (p:=λi=>decide (f i=i)) (l:=List.range n);simpa using this
def wJ(f:Nat->Nat)(ts:List Key):Prop:=∀p∈aO (mkd f ts) ts.length,f p.1=f p.2
def JK(R:Nat->Nat->Prop)(ts:List Key):Prop:=
 ∀i j (hi:i<ts.length) (hj:j<ts.length),ts[i].1=ts[j].1->R ts[i].2.1 ts[j].2.1->R ts[i].2.2 ts[j].2.2->R i j
theorem jZ(f:Nat->Nat)(ts:List Key):wJ f ts↔JK (λa b=>f a=f b) ts:=by
 have hA:=BL (mkd f ts) (λi j=>f i=f j) (λ_=>rfl) (λ_ _ e=>e.symm) (λ_ _ _ e1 e2=>e1.trans e2);rw[aW]at hA;unfold wJ;rw[hA];constructor
 ·intro h i j hi hj e1 e2 e3;refine h i j hi hj ?_;simp[mkd,hi,hj,e1,e2,e3]
 ·intro h i j hi hj e;simp only[mkd,ah1,SI hi,SI hj,an3,ag1,ap0]at e;exact h i j hi hj e.1 e.2.1 e.2.2
theorem N8{R:Nat->Nat->Prop}{f:Nat->Nat}{ts:List Key}(hR:JK R ts)(ht:∀i (hi:i<ts.length),ts[i].2.1<ts.length/\ts[i].2.2<ts.length)(h:∀a b,a<ts.length->b<ts.length->f a=f b->R a b) :
  ∀p∈aO (mkd f ts) ts.length,p.1<ts.length/\p.2<ts.length/\R p.1 p.2:=by
 intro p hp;have hm:=(gW (mkd f ts) ts.length (by rw[aW];exact SH _) p).1 hp;obtain⟨h1,h2,h3⟩:=hm;have hp1:p.1<ts.length:=by omega
 refine⟨hp1,h1,?_⟩;have e:(mkd f ts)[p.1]'(by rw[aW];exact hp1)=(mkd f ts)[p.2]'(by rw[aW];exact h1):=by
  refine(Bd (by rw[aW];exact hp1) (by rw[aW];exact h1)).1 ?_;rw[h2,Fg _ _ (by rw[aW];exact h1)]
 simp only[mkd,aj1,ap0]at e;obtain⟨a1,a2⟩:=ht p.1 hp1;obtain⟨b1,b2⟩:=ht p.2 h1;exact hR p.1 p.2 hp1 h1 e.1 (h _ _ a1 b1 e.2.1) (h _ _ a2 b2 e.2.2)
end
open Go.RowKit Go.Maps Go.WideMaps
open aB (Key put RT zK RF RP RQ)
theorem mY(w:World)(s:ByteArray)(hs:s.size<=100)(ts:List Key)(cs:List (Int×Nat))(ps:List Key)(m:Nat)(hR:aB.iQ (pk s) (s.size+1) 0 0 [] [] []=.ok (s.size,ts,cs,ps,m))(h7:ts.length<=7)(h4:cs.length<=4)
 (hi:aB.Inv ts)(hic:aB.jJ ts cs)(hnc:cs.Nodup)(kR:aB.aT ts.length cs.length ps)(hp:ps.length<=100) :
  Calls prog 30 #[.string s] w λe w'=>∃GT GC GP,e=.returned (.tuple #[fv GT GC GP ts.length cs.length ps.length,.int .i64 0,.int .i64 0])/\Below w.heap.size w w'/\FR w' (w.heap.size+1) GT GC GP ts cs ps:=
 Ry w s hs s.size ts cs ps m (aj hR) rfl h7 h4 hi.nodup hnc kR.nd hp (SA hi h7) (MR hic h7) (Ky kR (by omega) (by omega) (by omega))
theorem xX(w:World)(s:ByteArray)(hm:s.size<=maxLen) :
  Calls prog 30 #[.string s] w λe w'=>(∃p0 n0 c0 p1 n1 c1 p2 n2 c2,e=.returned (.tuple #[.agg #[.slice p0 n0 c0,.slice p1 n1 c1,.slice p2 n2 c2],.int .i64 (chk s).1,.int .i64 (chk s).2]))/\Below w.heap.size w w':=by
 by_cases hs:100<s.size
 ·unfold chk;rw[ac8 hs];refine(Kt w s hs hm).mono ?_;rintro e w' ⟨rfl,h⟩;exact⟨⟨_,_,_,_,_,_,_,_,_,rfl⟩,h⟩
 ·have hs':s.size<=100:=by omega
  by_cases h0:(chk s).1=0
  ·obtain⟨ts,cs,ps,hR,h7,h4,hi,hic,_,_,_,hnc,kR,_,hp⟩:=jB s hs' h0;have h1:(chk s).2=0:=by
    unfold chk aB.check;rw[ac5 hs,<-aB.kL (pk s) (s.size+1) 0 0 [] [] [],hR];simp[aB.less,show ¬(7<ts.length\/4<cs.length) by omega]
   rw[h0,h1];refine(mY w s hs' ts cs ps _ hR h7 h4 hi hic hnc kR hp).mono ?_;rintro e w' ⟨GT,GC,GP,rfl,h,_⟩;exact⟨⟨_,_,_,_,_,_,_,_,_,rfl⟩,h⟩
  ·revert h0;unfold chk;rw[ac5 hs];have hok:=aB.ni (pk:=pk s) (N:=s.size) (λa h=>bQ h) (s.size+1) 0 0 [] [] (by omega);have hls:=aB.kL (pk s) (s.size+1) 0 0 [] [] [];unfold aB.check;rw[<-hls]at hok ⊢;rcases hR:aB.iQ (pk s) (s.size+1) 0 0 [] [] []with⟨E,p⟩|⟨a1,ts,cs,ps,m⟩
   ·intro _;refine(NW w s hs' E p (aj hR)).mono ?_;rintro e w' ⟨rfl,h⟩;exact⟨⟨_,_,_,_,_,_,_,_,_,rfl⟩,h⟩
   ·rw[hR]at hok;obtain⟨p1,p2,p3,p4,p5⟩:=hok;simp only[aB.less];by_cases h1:a1<s.size
    ·simp only[ac8 h1];intro _;refine(NV w s hs' a1 ts cs ps m (aj hR) h1).mono ?_;rintro e w' ⟨rfl,h⟩;exact⟨⟨_,_,_,_,_,_,_,_,_,rfl⟩,h⟩
    ·simp only[ac5 h1];by_cases h2:7<ts.length\/4<cs.length
     ·simp only[ac8 h2];intro _;refine(Kr w s hs' a1 ts cs ps m (aj hR) (by omega) h2).mono ?_;rintro e w' ⟨rfl,h⟩;exact⟨⟨_,_,_,_,_,_,_,_,_,rfl⟩,h⟩
     ·simp only[ac5 h2];intro h;exact absurd (by simp) h
theorem check_any(w:World)(s:ByteArray)(hm:s.size<=maxLen) :
  Calls prog 18 #[.string s] w λe w'=>e=.returned (.tuple #[.int .i64 (chk s).1,.int .i64 (chk s).2])/\Below w.heap.size w w':=by
 have HR:=aj (λw=>xX w s hm);generalize chk s=c at HR
 go_enter func18,ntmps18
 go_wp2_with fail
 refine((ah HR) _).mono ?_;rintro e w1 ⟨⟨p0,n0,c0,p1,n1,c1,p2,n2,c2,rfl⟩,h1⟩
 go_wp2_with fail
 go_ret2
 exact⟨rfl,h1.alloc h1.size _⟩
end Go.Proofs.YthcppbmkacbbiaaGreat
