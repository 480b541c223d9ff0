import Derived.Test.YthcppbmkacbbiabGreatVAX
import Derived.WalkMore
set_option linter.unusedSimpArgs false
set_option maxHeartbeats 8000000
set_option maxRecDepth 100000
namespace Go.Proofs.YthcppbmkacbbiabGreat
open Go.Proofs.Tryz
open Go.RowKit Go.Maps Go.WideMaps
open Sat (View Rule og dN)
theorem afZ:(prog.info? 130).map (λi=>(i.zero,i.size,i.bytes))=some (some (.slice none 0 0),1,24):=by kernel_rfl
theorem F9{Af:Nat->Act->World->Prop}{Q:Exit->Act->World->Prop}{a:Act}{w:World}(h:Q .ret a w):mJ Af Q .ret a w:=h
theorem aeo{t:Array Value}(h:t.size=63):∃u0 u1 u2 u3 u4 u5 u6 u7 u8 u9 u10 u11 u12 u13 u14 u15 u16 u17 u18 u19 u20 u21 u22 u23 u24 u25 u26 u27 u28 u29 u30 u31 u32 u33 u34 u35 u36 u37 u38 u39 u40 u41 u42 u43 u44 u45 u46 u47 u48 u49 u50 u51 u52 u53 u54 u55 u56 u57 u58 u59 u60 u61 u62,t=#[u0,u1,u2,u3,u4,u5,u6,u7,u8,u9,u10,u11,u12,u13,u14,u15,u16,u17,u18,u19,u20,u21,u22,u23,u24,u25,u26,u27,u28,u29,u30,u31,u32,u33,u34,u35,u36,u37,u38,u39,u40,u41,u42,u43,u44,u45,u46,u47,u48,u49,u50,u51,u52,u53,u54,u55,u56,u57,u58,u59,u60,u61,u62]:=by
 obtain⟨l⟩:=t
 match l,h with
 |u0::u1::u2::u3::u4::u5::u6::u7::u8::u9::u10::u11::u12::u13::u14::u15::u16::u17::u18::u19::u20::u21::u22::u23::u24::u25::u26::u27::u28::u29::u30::u31::u32::u33::u34::u35::u36::u37::u38::u39::u40::u41::u42::u43::u44::u45::u46::u47::u48::u49::u50::u51::u52::u53::u54::u55::u56::u57::u58::u59::u60::u61::u62::[],_=>exact⟨u0,u1,u2,u3,u4,u5,u6,u7,u8,u9,u10,u11,u12,u13,u14,u15,u16,u17,u18,u19,u20,u21,u22,u23,u24,u25,u26,u27,u28,u29,u30,u31,u32,u33,u34,u35,u36,u37,u38,u39,u40,u41,u42,u43,u44,u45,u46,u47,u48,u49,u50,u51,u52,u53,u54,u55,u56,u57,u58,u59,u60,u61,u62,rfl⟩
theorem dM.xG{w:World}{rv:Value}{ak:List Rule}(h:dM w rv ak):∀k,some k=rv.ownBlock->o9 w k:=by
 obtain⟨vs,⟨I,M⟩,h3⟩:=h;intro k hk cur x e;obtain⟨rfl,_⟩|⟨g,cap,G9,rfl,q2,q3,q4⟩:=M
 ·cases hk
 ·cases hk;rw[q3]at e;simp at e
theorem dM.add{S:Nat->Prop}{W W3:World}{v' v:Value}{ak:List Rule}{r:Rule}{vs:List Value}(hl:vs.length=ak.length)(h3:∀i (hi:i<ak.length),∃v,vs[i]?=some v/\bQ W v ak[i])
 (aH:W3.ownsRow 0 130 1 v' (ak.length+1) (vs++[v]))(hb:But S W W3)(hS:∀k,S k->o9 W k)(hv:bQ W v r):dM W3 v' (ak++[r]):=by
 refine⟨vs++[v],by rw[ap4];exact aH,λi hi=>?_⟩;by_cases hlt:i<ak.length
 ·obtain⟨u,q1,q2⟩:=h3 i hlt;refine⟨u,by rw[as5 O];exact q1,?_⟩;rw[au6 hlt];exact q2.but hb hS
 ·have e:i=ak.length:=by simp at hi;omega
  subst e;refine⟨v,by rw[List.getElem?_append_right O,hl];simp,?_⟩;rw[aA6 (an2 _)];simpa using hv.but hb hS
theorem Jg(w:World)(v:Value)(t:TypeId)(n:Nat)(hn:w.heap.size=n):∀j u,[v][j]?=some u->(w.alloc (.cells #[v] t)).cell? (((J n 0):Addr).add j)=some u:=by
 subst hn;intro j u hj;cases j with
 |zero=>simp at hj;subst hj;simp[Addr.add]
 |succ j=>simp at hj
theorem agJ{w:World}{v:Value}{r:Rule}(h:bQ w v r):∀u∈[v],u.oneCell'=true:=by
 intro u hu;rw[ap8.1 hu];obtain⟨p,c,rfl⟩:=h.len;rfl
structure FC(w:World)(S0:Nat->Prop)(U B:Nat)(Th:(Nat->Bool)->Prop)(aW:List Rule)(rv:Value)(tp:List UInt8)(ak:List Rule)(p:Nat)(W:World):Prop where
 but:But S0 w W
 own:∀k,rv.ownBlock=some k->S0 k\/w.heap.size<=k
 rg:RG U ak
 adP:Hl tp
 bound:ak.length+p<=B
 sub:∀r∈aW,r∈ak
 imp:∀α,Th α->(∀r∈aW,Sat.keeps α r)->∀r∈ak,Sat.keeps α r
abbrev FJ(w:World)(S0:Nat->Prop)(b U B:Nat)(ov:Value)(Th:(Nat->Bool)->Prop)(aW:List Rule)(Jp Af:Nat->List UInt8->List Tr->List Rule->Prop)(r l:Nat)(a:Act)(W:World):Prop:=
 a.tmps.size=63/\a.defers=[]/\a.tmps[0]?=some (Aa b 0)/\∃rv tp ak p,FC w S0 U B Th aW rv tp ak p W/\
  ((l=0/\(∃m,xB W b U rv ov tp m)/\dM W rv ak/\Jp p tp [] ak/\r=(p*(U+3)+(U+2))*2)\/
   (l=1/\∃m τ,w.heap.size<=m/\FI W b U rv ov tp m τ ak/\Jp p tp τ ak/\r=(p*(U+3)+(U+1-τ.length))*2+1)\/
   (l=2/\∃m τ v br,w.heap.size<=m/\FI W b U rv ov tp m τ ak/\Af p tp τ ak/\a.tmps[3]?=some v/\bQ W v br/\br∈ak/\(∀u∈br,Sat.wrong (bel τ) u)/\r=(p*(U+3)+(U+1-τ.length))*2))
def fiE(w:World)(b U:Nat)(ov:Value)(Th:(Nat->Bool)->Prop)(aW:List Rule)(Good:List Tr->Prop)(e:Ending):Prop:=
 (e=.returned (.bool true)/\∃rv tp m τ ak,FI w b U rv ov tp m τ ak/\(∀x,x<U->sS τ x=true)/\(∀r∈aW,r∈ak)/\Sat.Done ak (bel τ)/\Good τ)\/
 (e=.returned (.bool false)/\∀α,Th α->¬∀r∈aW,Sat.keeps α r)
theorem FI.ti{w:World}{b U:Nat}{rv ov:Value}{tp:List UInt8}{m:Nat}{τ:List Tr}{ak:List Rule}(h:FI w b U rv ov tp m τ ak):TI U τ ak:=⟨h.inv,h.bs.nodup,h.lt⟩
theorem FI.good{w:World}{b U:Nat}{rv ov:Value}{tp:List UInt8}{m:Nat}{τ:List Tr}{ak:List Rule}(h:FI w b U rv ov tp m τ ak)(hR:RG U ak):∀q∈τ,q.1<U/\q.2.2.2.length<=1000/\∀u∈q.2.2.2,u.1<U:=by
 intro q hq;refine⟨h.lt q hq,?_⟩;by_cases e:q.2.2.2=[]
 ·rw[e];exact⟨R,λu hu=>by cases hu⟩
 ·obtain⟨k,hk,rfl⟩:=ar6 hq;have hb:bel τ τ[k].1=some (τ[k].2.1,k,τ[k].2.2.2):=by unfold bel;rw[nU h.bs.nodup hk];rfl
  obtain⟨I,_⟩:=h.inv.by_ _ _ _ _ hb e;exact⟨hR.len _ I,hR.lt _ I⟩
theorem learn{W W3:World}{b U:Nat}{rv ov:Value}{tp:List UInt8}{m:Nat}{τ:List Tr}{ak:List Rule}{v v':Value}{C:Rule}{vs:List Value}(h:FI W b U rv ov tp m τ ak)(hv:bQ W v C)(aS:W.ownsRow 0 130 1 rv ak.length vs)(h3:∀i (hi:i<ak.length),∃v,vs[i]?=some v/\bQ W v ak[i])
 (dY:(W.alloc (.cells #[v] 130)).grownBy W3 rv.ownBlock)(aH:W3.ownsRow 0 130 1 v' (ak.length+1) (vs++[v])) :
  xB (W3.setCell (J b 1) v') b U v' ov tp (some m)/\dM (W3.setCell (J b 1) v') v' (ak++[C])/\dJ (W3.setCell (J b 1) v') m τ/\But (λk=>k=b\/some k=rv.ownBlock) W (W3.setCell (J b 1) v')/\bQ (W3.setCell (J b 1) v') v C/\
  W3.cell? (J b 1)=some rv/\W3.frozen? (J b 1)=false/\b<W3.heap.size:=by
 have fK:W.grownBy (W.alloc (.cells #[v] 130)) rv.ownBlock:=an1 _ _ _;have hg:W.grownBy W3 rv.ownBlock:=fK.trans dY;have iR:=But.aC hg;have hN:=h.rows.xG;have mg:=h.Ey.lt;have Gp:some b≠rv.ownBlock:=λe=>h.rows.Jk h.Ey b e.symm rfl;have hmr:some m≠rv.ownBlock:=λe=>h.rows.yE h.bs m e.symm rfl;have Aw:xB W3 b U rv ov tp (some m):=h.Ey.kept (hg.block b mg Gp);have UG:dM W3 v' (ak++[C]):=dM.add (by have:=aS.1;omega) h3 aH iR hN hv;have uQ:dJ W3 m τ:=h.bs.but iR hN hmr;have hv3:bQ W3 v C:=hv.but iR hN;have sD:But (λk=>k=b) W3 (W3.setCell (J b 1) v'):=But.setCell (S:=λk=>k=b) (But.refl _ _) (λ_=>rfl) _;have O9:∀k,k=b->o9 W3 k:=λk e=>by rw[e];exact Aw.xG
 refine⟨?_,UG.but sD O9 (λk hk=>UG.Jk Aw k hk),uQ.but sD O9 (λe=>Aw.yE uQ e.symm),(iR.mono (λk _ e=>Or.inr e)).trans (sD.mono (λk _ e=>Or.inl e)),hv3.but sD O9,Aw.cells.2.1,Aw.thaw 1,Aw.lt⟩;refine xB.mk ?_;rw[heap_setCell_same Aw.out]
 congr 2
theorem RG.add{U:Nat}{ak:List Rule}(h:RG U ak){C:Rule}(h0:C≠[])(I:C.Nodup)(M:∀u∈C,u.1<U)(h3:C.length<=1000):RG U (ak++[C]):=by
 refine⟨λr hr=>?_,λr hr=>?_,λr hr=>?_,λr hr=>?_⟩<;>
  (rcases aq7.1 hr with hr|hr)
 ·exact h.ne r hr
 ·rw[ap8.1 hr];exact h0
 ·exact h.nodup r hr
 ·rw[ap8.1 hr];exact I
 ·exact h.lt r hr
 ·rw[ap8.1 hr];exact M
 ·exact h.len r hr
 ·rw[ap8.1 hr];exact h3
theorem FC.add{w:World}{S0:Nat->Prop}{U B:Nat}{Th:(Nat->Bool)->Prop}{aW:List Rule}{rv rv':Value}{tp tp':List UInt8}{ak:List Rule}{p p':Nat}{W W':World}{C:Rule}(h:FC w S0 U B Th aW rv tp ak p W)
 (hb:But S0 w W')(aH:∀k,rv'.ownBlock=some k->S0 k\/w.heap.size<=k)(hd:Hl tp')(hp:p'<p)(Yn:RG U (ak++[C]))(hi:∀α,Th α->(∀r∈ak,Sat.keeps α r)->Sat.keeps α C):FC w S0 U B Th aW rv' tp' (ak++[C]) p' W':=by
 refine⟨hb,aH,Yn,hd,by have:=h.bound;simp;omega,λr hr=>as9 _ (h.sub r hr),λα I M r hr=>?_⟩;obtain hr|hr:=aq7.1 hr
 ·exact h.imp α I M r hr
 ·rw[ap8.1 hr];exact hi α I (h.imp α I M)
theorem FC.world{w:World}{S0:Nat->Prop}{U B:Nat}{Th:(Nat->Bool)->Prop}{aW:List Rule}{rv:Value}{tp:List UInt8}{ak:List Rule}{p:Nat}{W W':World}(h:FC w S0 U B Th aW rv tp ak p W)(hb:But S0 w W'):FC w S0 U B Th aW rv tp ak p W':=
 ⟨hb,h.own,h.rg,h.adP,h.bound,h.sub,h.imp⟩
theorem bQ.at0{w:World}{g n cap:Nat}{r:Rule}{u:View}(h:bQ w (Ac g 0 n cap) r)(hu:r[0]?=some u):w.cell? (J g 0)=some (A u.1):=by
 obtain⟨_,h⟩|⟨g',qB,cur,x,I,M,h3,h4⟩:=h
 ·cases h
 ·cases I;obtain⟨h0,e⟩:=List.getElem?_eq_some_iff.1 hu;rw[cell_of M];have:=(h4 0 h0).1;rw[e]at this;simpa using this
theorem Ob{tp:List UInt8}(h:Hl tp):Hl tp.tail:=λc hc=>h c (List.mem_of_mem_tail hc)
theorem less1{p p' U x y:Nat}(hp:p'<p)(hx:x<=U+2):(p'*(U+3)+x)*2+1<(p*(U+3)+y)*2:=by
 have:(p'+1)*(U+3)<=p*(U+3):=Nat.mul_le_mul_right _ hp;rw[ay2]at this;omega
theorem N8(w:World)(S0:Nat->Prop)(b U B no:Nat)(cl:List Value)(rv0:Value)(tp0:List UInt8)(aW:List Rule)(Th:(Nat->Bool)->Prop)(E:Prop)(Good:List Tr->Prop)
 (Jp Af:Nat->List UInt8->List Tr->List Rule->Prop)(ady:Pot U E Jp Af)(p0:Nat)(hS:xB w b U rv0 (.func (.func no) #[] cl.toArray) tp0 none)(hR:dM w rv0 aW)(hRG:RG U aW)(hd:Hl tp0)(hU:U<=500)(hJ:Jp p0 tp0 [] aW)
 (kQ:S0 b)(hr0:∀k,rv0.ownBlock=some k->S0 k)(hB:aW.length+p0<=B)(BQ:B<=5000000000000)
 (ny:∀args W,(callFunc no args).run prog W=.ok (Next.enter no args) W)
 (hO:∀W m τ,But S0 w W->w.heap.size<=m->dJ W m τ->(∀q∈τ,q.1<U)->(∀x,x<U->sS τ x=true)->Calls prog no (.map (some m)::cl).toArray W λe W'=>∃v r,e=.returned v/\bQ W' v r/\Ag W W'/\(r=[]->Good τ)/\
   (r≠[]->E/\r.Nodup/\r.length<=1000/\(∀u∈r,u.1<U/\Sat.wrong (bel τ) u)/\∀α,Th α->Sat.keeps α r)) :
  Calls prog 61 #[Aa b 0] w λe w'=>fiE w' b U (.func (.func no) #[] cl.toArray) Th aW Good e/\But S0 w w':=by
 obtain⟨i0,gK,jR,ig,jy⟩:=au5 afZ;obtain⟨ov,hov⟩:∃ov:Value,ov=.func (.func no) #[] cl.toArray:=⟨_,rfl⟩;rw[<-hov]at hS ⊢
 go_in
 go_wp2_with fail
 refine II (c0:=?c0) (c1:=?c1) (c2:=?c2) (FJ w S0 b U B ov Th aW Jp Af) ?h0 ?I ?M ?only ?back ?on ?anew ?first
 case h0=>exact rfl
 case I=>exact rfl
 case M=>exact rfl
 case only=>
  rintro r l a W ⟨_,_,_,rv,tp,ak,p,_,h|h|h⟩
  ·exact Or.inl h.1
  ·exact Or.inr (Or.inl h.1)
  ·exact Or.inr (Or.inr h.1)
 case back=>
  rintro r a W ⟨eH,hdf,ht0,rv,tp,ak,p,hC,h⟩;obtain⟨h,_⟩|⟨h,_⟩|⟨_,m,τ,v,br,hm,xK,hj,ht3,Ld,Gp,uG,hr⟩:=h
  ·cases h
  ·cases h
  obtain⟨tm,df⟩:=a;simp only at eH hdf ht0 ht3;obtain⟨u0,u1,u2,u3,u4,u5,u6,u7,u8,u9,u10,u11,u12,u13,u14,u15,u16,u17,u18,u19,u20,u21,u22,u23,u24,u25,u26,u27,u28,u29,u30,u31,u32,u33,u34,u35,u36,u37,u38,u39,u40,u41,u42,u43,u44,u45,u46,u47,u48,u49,u50,u51,u52,u53,u54,u55,u56,u57,u58,u59,u60,u61,u62,hta⟩:=aeo eH;subst hta;subst hdf;simp only[List.getElem?_toArray,List.getElem?_cons_zero,List.getElem?_cons_succ,as4]at ht0 ht3;subst ht0;subst ht3;have hlen:=xK.len;have mg:=aa9 W b U rv ov tp m τ xK.Ey xK.bs u3 br Ld hU (hC.rg.lt _ Gp) (hC.rg.len _ Gp) (xK.good hC.rg) O;have HC:=F hC;have XJ:=F xK;have HJ:=F hj;have HBR:=F Gp;have HWR:=F uG;clear hC xK hj Gp uG eH Ld
  go_wp2_with fail
  refine mg.mono ?_;rintro e w1 ⟨v',rfl,aaz,iD⟩;have xJ:=(Z XJ).grown (dX iD);have afl:But S0 w w1:=(Z HC).but.then (But.of_below iD (λ_=>False)) (λ_ _ h=>h.elim)
  obtain⟨vp,vc,Sr,Yl,Lc⟩:=aaz.cells;subst Sr;by_cases AX:Cj τ br=[]
  ·have hz:(Cj τ br).length=0:=(by rw[AX];rfl);have alz:Hid (∀α,Th α->¬∀r∈aW,Sat.keeps α r):=λα I M=>by
    have:=Oi xJ.bs.nodup xJ.inv (Z HBR) (Z HWR) α ((Z HC).imp α I M);rw[AX]at this;obtain⟨u,hu,_⟩:=this;cases hu
   have Q1:=F afl;rw[hz];clear xJ afl aaz iD Yl Lc AX hz
   go_wp2_with fail
   refine F9 ?_;exact aq0 (v:=.bool false) (by simp[results,results61,go_sem]) rfl ⟨Or.inr ⟨rfl,Z alz⟩,Z Q1⟩
  ·have hlz:(Cj τ br).length≠0:=λh=>AX (aq9 h);have hzi:((Cj τ br).length:Int)≠0:=O;obtain⟨g,rfl,D5,hcs⟩:=Lc AX;have rP:=ael (br:=br) xJ.bs.nodup xJ.inv;have hCU:∀u∈Cj τ br,u.1<U:=λu hu=>by
    obtain⟨q,hq,e,_⟩:=rP.2.1 u hu;rw[<-e];exact xJ.lt q hq
   have hCl:(Cj τ br).length<=1000:=by
    have:=nJ U _ rP.2.2 (λx hx=>by obtain⟨u,hu,rfl⟩:=ap6.1 hx;exact hCU u hu);simp at this;omega
   have LY:=(Z HC).rg.add AX rP.1 hCU hCl;have hkp:∀α,Th α->(∀r∈ak,Sat.keeps α r)->Sat.keeps α (Cj τ br):=λα _ M=>Oi xJ.bs.nodup xJ.inv (Z HBR) (Z HWR) α M;obtain⟨hd0,tl0,hbe⟩:=List.exists_cons_of_ne_nil AX;obtain⟨kk,qq,ajN,YH⟩:=Xk xJ.bs.nodup xJ.inv hbe;obtain⟨p',hp',hJb,YF⟩:=ady.back p tp τ ak _ _ _ _ (Z HJ) xJ.ti YH;have hhd:(Cj τ br)[0]?=some hd0:=(by simp[hbe]);have hu0:hd0.1<U:=hCU hd0 (by rw[hbe];simp);obtain⟨vs,aS,h3⟩:=xJ.rows;have iF:=(Z HC).bound;have SH:=(Z HC).own;have ahn:=(Z HC).adP;have c1:=xJ.Ey.cells.2.1;have alR:=xJ.Ey.lt;have OW:=xJ.rows.slice;obtain⟨rp,rc,rfl⟩:=OW;have HL:Hid (∀W3 v2,(w1.alloc (.cells #[Ac g 0 (Cj τ br).length vc] 130)).grownBy W3 (Value.slice rp ak.length rc).ownBlock->W3.ownsRow 0 130 1 v2 (ak.length+1) (vs++[Ac g 0 (Cj τ br).length vc])->_):=λW3 v2 I M=>learn xJ aaz aS h3 I M;have jo:=F aS;have H3:=F h3;have HRV:=F aaz;have HCB:=F afl;have HF1:=F xJ;have one:=agJ aaz;have HB1:=F iD;have HX:=F hkp;have HG2:=F LY;have HJB:=F hJb;have HJR:=F YF;have HFN:=F ajN;have amn:=F YH;have Hg:=F hcs;have HHD:=F hhd;clear aS h3 aaz afl xJ iD hkp LY hJb YF ajN YH hcs hhd rP hCU hCl Yl Lc AX hbe;have amV:g≠w1.heap.size:=O
   go_wp2_with (at_builtin;refine av6 _ rfl _ _ 135 rfl 0 130 i0 (.slice none 0 0) 1 24 underlying135 gK jR ig jy rfl ane (.slice rp ak.length rc) ak.length vs rfl ((Z jo).alloc _) (J w1.heap.size 0) 1 1 [Ac g 0 (Cj τ br).length vc] rfl rfl (Jg _ _ _ _ rfl) one anj O R ?_;intro v2 w3 lT dY uJ ahz;obtain⟨g2,xO,BD⟩:=gG lT (aw4 _);subst BD;have hlr:=Z HL w3 _ dY lT;obtain⟨L1,L2,L3,L4,L5,L6,L7,L8⟩:=hlr)
   obtain⟨W4,hW4⟩:∃W4,w3.setCell (J b 1) (Ac g2 0 (ak.length+1) xO)=W4:=⟨_,rfl⟩;rw[hW4]at L1 L2 L3 L4 L5 ⊢;refine(Oc W4 b U _ ov tp (some m) L1 ahn).mono ?_;rintro e w5 ⟨rfl,hs5,AP⟩;have hN4:∀k,k=b->o9 W4 k:=λk e=>by rw[e];exact L1.xG
   have JD:=L2.but AP hN4 (λk hk=>L2.Jk L1 k hk);have YJ:=L3.but AP hN4 (λe=>L1.yE L3 e.symm);have hv5:=L5.but AP hN4;have oI:=(Z HCB).size;have adq:But S0 w w5:=((Z HCB).then L4 (λi hi e=>by
    obtain e|e:=e
    ·rw[e];exact kQ
    ·obtain e2|e2:=SH i e.symm
     ·exact e2
     ·omega)).then AP (λi _ e=>by rw[e];exact kQ)
   have uI:∀k,(Value.slice (some (J g2 0)) (ak.length+1) xO).ownBlock=some k->S0 k\/w.heap.size<=k:=λk hk=>by
    obtain e|e:=ahz
    ·exact SH k (e.symm.trans hk)
    ·rw[e]at hk;simp at hk;right;omega
   have HFC:Hid (FC w S0 U B Th aW (Ac g2 0 (ak.length+1) xO) tp.tail (ak++[Cj τ br]) p' w5):=(Z HC).add adq uI (Ob ahn) hp' (Z HG2) (Z HX);have XE:=F hs5;have HR5:=F JD;have Qh:=F YJ;have HV5:=F hv5;have HO5:=F uI;have HN5:=F adq;have Tq:dg tp<=9:=by
    cases tp with
    |nil=>simp[dg]
    |cons c tp=>have:=ahn c R;simp[dg];omega
   clear L1 L2 L3 L4 L5 L6 L7 L8 hW4 hN4 JD YJ hv5 adq uI lT dY uJ ahz hs5 AP c1;by_cases ag3:dg tp%2=1
   ·have adf:(dg tp:Int)%2=1:=O;have hJ0:=F ((Z HJR) ag3);clear ag3;generalize hdt:dg tp=d at adf Tq
    go_wp2_with fail
    refine wp_goto ?_;refine(show ∃r',r'<r/\FJ w S0 b U B ov Th aW Jp Af r' 0 _ w5 from ?_);exact⟨_,by rw[hr];have:=less1 (U:=U) (x:=U+2) (y:=U+1-τ.length) hp' (an2 _);omega,rfl,rfl,rfl,_,_,_,p',Z HFC,Or.inl ⟨rfl,⟨some m,Z XE⟩,Z HR5,Z hJ0,rfl⟩⟩
   ·have adf:¬(dg tp:Int)%2=1:=O;clear ag3;generalize hdt:dg tp=d at adf Tq;have hc5:w5.cell? (J g 0)=some (A hd0.1):=(Z HV5).at0 (Z HHD)
    go_wp2_with fail
    refine(WO w5 b U _ ov tp.tail m τ hd0.1 kk qq (Z XE) (Z Qh) O (Z HFN)).mono ?_;rintro e w6 ⟨⟨v6,rfl⟩,hB6,UK⟩;have Fe:kk<τ.length:=(fV (Z HFN)).2.1;have htl:(τ.take kk).length=kk:=anf;have hbm:b≠m:=(Z XE).yE (Z Qh);have hF6:FI w6 b U (Ac g2 0 (ak.length+1) xO) ov tp.tail m (τ.take kk) (ak++[Cj τ br]):=by
     refine⟨(Z XE).kept (UK.block b (Z XE).lt (by simpa using hbm)),(Z HR5).but (But.aC UK) (λk e=>by cases e;exact(Z Qh).xG) (λk hk e=>(Z HR5).yE (Z Qh) k hk (by cases e;rfl)),hB6,?_,λq hq=>(Z HF1).lt q (au8 hq)⟩;rw[uV (Z HF1).bs.nodup,htl];exact(Z HF1).inv.back (Z amn)
    have hC6:=(Z HFC).world ((Z HFC).but.then (But.aC UK) (λi hi e=>by cases e;omega));have Q1:=F hF6;have Q2:=F hC6;clear hF6 hC6 hB6 UK
    go_wp2_with fail
    refine wp_goto ?_;refine(show ∃r',r'<r/\FJ w S0 b U B ov Th aW Jp Af r' 1 _ w6 from ?_);exact⟨_,by rw[hr];exact less1 (U:=U) hp' O,rfl,rfl,rfl,_,_,_,p',Z Q2,Or.inr (Or.inl ⟨rfl,m,_,hm,Z Q1,Z HJB,rfl⟩)⟩
 case on=>
  rintro r a W ⟨eH,hdf,ht0,rv,tp,ak,p,hC,h⟩;obtain⟨h,_⟩|⟨_,m,τ,hm,xK,hj,hr⟩|⟨h,_⟩:=h
  ·cases h
  rotate_left
  ·cases h
  obtain⟨tm,df⟩:=a;simp only at eH hdf ht0;obtain⟨u0,u1,u2,u3,u4,u5,u6,u7,u8,u9,u10,u11,u12,u13,u14,u15,u16,u17,u18,u19,u20,u21,u22,u23,u24,u25,u26,u27,u28,u29,u30,u31,u32,u33,u34,u35,u36,u37,u38,u39,u40,u41,u42,u43,u44,u45,u46,u47,u48,u49,u50,u51,u52,u53,u54,u55,u56,u57,u58,u59,u60,u61,u62,hta⟩:=aeo eH;subst hta;subst hdf;simp only[List.getElem?_toArray,List.getElem?_cons_zero,List.getElem?_cons_succ,as4]at ht0;subst ht0;have iF:=hC.bound;have hfo:=WQ W b U rv ov tp m τ ak xK hC.rg hU O;have HC:=F hC;have HJ:=F hj;clear hC hj eH xK
  go_wp2_with fail
  refine hfo.mono ?_;rintro e w1 ⟨σ,hE,Ik,bG,ρ,rfl,hρ⟩;have hC1:=(Z HC).world ((Z HC).but.then (But.aC bG) (λi hi e=>by cases e;omega));have hlen:=Ik.len;obtain⟨rfl,nD⟩|⟨v,br,rfl,Ld,Gp,uG⟩:=hE
  ·have hj1:=ady.follow p tp τ ak ρ (Z HJ) hρ Ik.ti (Or.inl nD);have Qn:=Xg w1 b U rv ov tp m (τ++ρ) ak Ik hC1.adP hU nD;have HC1:=F hC1;have HJ1:=F hj1;have HD:=F nD;have HF1:=F Ik;clear hC1 hj1 nD Ik bG hfo hρ
   go_wp2_with fail
   refine Qn.mono ?_;rintro e w2 ⟨hE,fF⟩;have jG:=(Z HC1).but.then fF (λi hi e=>by
    obtain e|e:=e
    ·rw[e];exact kQ
    ·omega)
   obtain⟨rfl,ac4,tX⟩|⟨x,rfl,hx,hbx,tX⟩:=hE
   ·have WE:=(Z HC1).world jG;obtain⟨_,c1,c2,_,c4⟩:=tX.Ey.cells;have hO':Hid (∀W',w2.grownBy W' none->Calls prog no (.map (some m)::cl).toArray W' λe W''=>∃v r,e=.returned v/\bQ W'' v r/\Ag W' W''/\(r=[]->Good (τ++ρ))/\
      (r≠[]->E/\r.Nodup/\r.length<=1000/\(∀u∈r,u.1<U/\Sat.wrong (bel (τ++ρ)) u)/\∀α,Th α->Sat.keeps α r)):=λW' hg=>by
     have hf:=tX.grown hg;exact hO W' m (τ++ρ) (jG.then (But.aC hg) (λi _ e=>by cases e)) hm hf.bs hf.lt ac4
    have HF2:=F tX;have HC3:=F WE;have HT:=F ac4;have HBU:=F jG;clear tX WE ac4 jG fF Qn;subst hov
    go_wp2_with fail
    refine aq8 (S:=λW'=>w2.grownBy W' none) rfl ?_;have aA:w2.grownBy w2.drew none:=⟨rfl,rfl,rfl,an2 _,λ_ _ _=>rfl⟩;simp only[ao5,ao1,ap0,Nat.reduceAdd,an7,an6,ao6,ao8,ao7];change wpAnyH prog .any _ _ _ _ _ _ w2.drew;refine dF 0 (Aa b 0) aA ?_
    simp only[aF];refine dF 1 (Aa b 0) aA ?_
    simp only[aF];refine dF 2 (Aa b 2) aA ?_
    simp only[aF];refine tH 3 (.func (.func no) #[] cl.toArray) (λw' hS=>?_) aA ?_
    ·have q:=hS.cell c2 R;go_simp
    simp only[aF];refine dF 4 (Aa b 0) aA ?_
    simp only[aF];refine dF 5 (Aa b 0) aA ?_
    simp only[aF];refine dF 6 (Aa b 4) aA ?_
    simp only[aF];refine tH 7 (.map (some m)) (λw' hS=>?_) aA ?_
    ·have q:=hS.cell c4 R;go_simp
    simp only[aF];refine oH 8 (λK hK=>?_);go_simp;refine(Z hO' _ aA).mono ?_;rintro e w3 ⟨v,rr,rfl,Ld,mg,rP,aaM⟩;obtain⟨vp,vc,rfl⟩:=Ld.len;have MH:w2.grownBy w3 none:=aA.trans (dX mg);refine hK.out _ _ MH ?_;clear hK K;refine oH 9 (λK hK=>?_);go_simp;refine hK.out _ _ MH (ar2 (by kernel_rfl) ?_ _);clear hK K;have Tn:=(Z HF2).grown MH;have WE:=(Z HC3).world ((Z HBU).then (But.aC MH) (λi _ e=>by cases e));have ajY:=WE.bound;obtain⟨rp,rc,OW⟩:=Tn.rows.slice;subst OW;by_cases hz:rr=[]
    ·have hlz:rr.length=0:=(by rw[hz];rfl);have hg:=rP hz;have Q1:=F Tn;have Q2:=F WE;have Q3:=F hg;rw[hlz];clear Tn WE hg rP aaM Ld mg aA MH hz hlz HF2 HC3 hO' hO c1 c2 c4
     go_wp2_with fail
     refine F9 ?_;exact aq0 (v:=.bool true) (by simp[results,results61,go_sem]) rfl ⟨Or.inl ⟨rfl,_,_,m,_,_,Z Q1,Z HT,(Z Q2).sub,Z HD,Z Q3⟩,(Z Q2).but⟩
    ·have hlz:rr.length≠0:=λh=>hz (aq9 h);have hzi:(rr.length:Int)≠0:=O;obtain⟨hE,g1,g2,g3,g4⟩:=aaM hz;obtain⟨p',hp',hJo⟩:=ady.obj hE p tp (τ++ρ) ak rr (Z HJ1) Tn.ti (Z HD) WE.rg.lt (λx hx e=>by
      have:=Z HT x hx;unfold sS at this;unfold bel at e;cases h:uS (τ++ρ) x with
      |none=>rw[h]at this;cases this
      |some q=>rw[h]at e;cases e) g3
     have LY:=WE.rg.add hz g1 (λu hu=>(g3 u hu).1) g2;obtain⟨vs,aS,h3⟩:=Tn.rows;have FN:=Tn.Ey.cells.2.1;have alR:=Tn.Ey.lt;have one:=agJ Ld;have HL:Hid (∀W3 v2,(w3.alloc (.cells #[.slice vp rr.length vc] 130)).grownBy W3 (Value.slice rp ak.length rc).ownBlock->W3.ownsRow 0 130 1 v2 (ak.length+1) (vs++[.slice vp rr.length vc])->_):=λW3 v2 I M=>learn Tn Ld aS h3 I M;have jo:=F aS;have HF3:=F Tn;have HC4:=F WE;have HG2:=F LY;have HJO:=F hJo;have HX:Hid (∀α,Th α->(∀r∈ak,Sat.keeps α r)->Sat.keeps α rr):=λα h _=>g4 α h;have SH:=F WE.own;have Aw:=F WE.but.size;clear aS h3 Tn WE LY hJo rP aaM Ld mg aA MH hz HF2 HC3 hO' c1 c2 c4 g1 g2 g3 g4 hE
     go_wp2_with (at_builtin;refine av6 _ rfl _ _ 135 rfl 0 130 i0 (.slice none 0 0) 1 24 underlying135 gK jR ig jy rfl ane (.slice rp ak.length rc) ak.length vs rfl ((Z jo).alloc _) (J w3.heap.size 0) 1 1 [.slice vp rr.length vc] rfl rfl (Jg _ _ _ _ rfl) one anj O R ?_;intro v2 w4 lT mP af6 afo;obtain⟨g2,xO,BD⟩:=gG lT (aw4 _);subst BD;have hlr:=Z HL w4 _ mP lT;obtain⟨L1,L2,L3,L4,L5,L6,L7,L8⟩:=hlr)
     have adq:=(Z HC4).but.then L4 (λi hi e=>by
      obtain e|e:=e
      ·rw[e];exact kQ
      ·obtain e2|e2:=Z SH i e.symm
       ·exact e2
       ·omega)
     have uI:∀k,(Value.slice (some (J g2 0)) (ak.length+1) xO).ownBlock=some k->S0 k\/w.heap.size<=k:=λk hk=>by
      obtain e|e:=afo
      ·exact Z SH k (e.symm.trans hk)
      ·rw[e]at hk;simp at hk;have:=Z Aw;right;omega
     have hFC:=(Z HC4).add adq uI (Z HC4).adP hp' (Z HG2) (Z HX);refine wp_goto ?_;refine(show ∃r',r'<r/\FJ w S0 b U B _ Th aW Jp Af r' 0 _ _ from ?_);refine⟨_,?_,rfl,rfl,rfl,_,_,_,p',hFC,Or.inl ⟨rfl,⟨some m,L1⟩,L2,Z HJO,rfl⟩⟩;rw[hr];have:=less1 (U:=U) (x:=U+2) (y:=U+1-τ.length) hp' (an2 _);omega
   ·have hj2:=ady.choose p tp (τ++ρ) ak x _ (Z HJ1) (Z HF1).ti (Z HD) tX.ti;have Q1:=F tX;have Q2:=F hj2;have WE:FC w S0 U B Th aW rv tp.tail ak p w2:=⟨jG,(Z HC1).own,(Z HC1).rg,Ob (Z HC1).adP,(Z HC1).bound,(Z HC1).sub,(Z HC1).imp⟩;have Q3:=F WE;clear tX hj2 WE jG fF Qn hbx
    go_wp2_with fail
    refine wp_goto ?_;refine(show ∃r',r'<r/\FJ w S0 b U B ov Th aW Jp Af r' 1 _ w2 from ?_);refine⟨_,?_,rfl,rfl,rfl,_,_,_,p,Z Q3,Or.inr (Or.inl ⟨rfl,m,_,hm,Z Q1,Z Q2,rfl⟩)⟩;rw[hr];have:=(Z Q1).len;simp only[ap4,au7]at this ⊢;omega
  ·have hj1:=ady.follow p tp τ ak ρ (Z HJ) hρ Ik.ti (Or.inr ⟨br,Gp,uG⟩);have bg:br≠[]:=hC1.rg.ne _ Gp;obtain⟨vp,vc,rfl⟩:=Ld.len;have hlz:((0:Int)<(br.length:Int)):=by
    have:=List.length_pos_iff.2 bg;omega
   have Q1:=F Ik;have Q2:=F hj1;have Q3:=F hC1;have Q4:=F Ld;have Q5:=F Gp;have Q6:=F uG;clear Ik hj1 hC1 Ld Gp uG hfo bG hρ bg
   go_wp2_with fail
   refine wp_goto ?_;refine(show ∃r',r'<r/\FJ w S0 b U B ov Th aW Jp Af r' 2 _ w1 from ?_);refine⟨_,?_,rfl,rfl,rfl,_,_,_,p,Z Q3,Or.inr (Or.inr ⟨rfl,m,_,_,br,hm,Z Q1,Z Q2,rfl,Z Q4,Z Q5,Z Q6,rfl⟩)⟩;rw[hr];simp only[ap4];omega
 case anew=>
  rintro hon r a W ⟨eH,hdf,ht0,rv,tp,ak,p,hC,h⟩;obtain⟨_,⟨m0,hs⟩,mO,hj,hr⟩|⟨h,_⟩|⟨h,_⟩:=h
  rotate_left
  ·cases h
  ·cases h
  obtain⟨tm,df⟩:=a;simp only at eH hdf ht0;obtain⟨u0,u1,u2,u3,u4,u5,u6,u7,u8,u9,u10,u11,u12,u13,u14,u15,u16,u17,u18,u19,u20,u21,u22,u23,u24,u25,u26,u27,u28,u29,u30,u31,u32,u33,u34,u35,u36,u37,u38,u39,u40,u41,u42,u43,u44,u45,u46,u47,u48,u49,u50,u51,u52,u53,u54,u55,u56,u57,u58,u59,u60,u61,u62,hta⟩:=aeo eH;subst hta;subst hdf;simp only[List.getElem?_toArray,List.getElem?_cons_zero,List.getElem?_cons_succ,as4]at ht0;subst ht0;have c4:=hs.cells.2.2.2.2;have hz:=hs.thaw 4;have mg:=hs.lt;have XJ:Hid (FI ((W.setCell (J b 4) (.map (some W.heap.size))).alloc (.map #[] 0)) b U rv ov tp W.heap.size [] ak/\But (λk=>k=b) W ((W.setCell (J b 4) (.map (some W.heap.size))).alloc (.map #[] 0))):=by
   have sD:But (λk=>k=b) W (W.setCell (J b 4) (.map (some W.heap.size))):=But.setCell (S:=λk=>k=b) (But.refl _ _) (λ_=>rfl) _;have hN:∀k,k=b->o9 W k:=λk e=>by rw[e];exact hs.xG
   have E5:(W.setCell (J b 4) (.map (some W.heap.size))).heap.size=W.heap.size:=(by simp[World.setCell]);have hs4:xB (W.setCell (J b 4) (.map (some W.heap.size))) b U rv ov tp (some W.heap.size):=by
    refine xB.mk ?_;rw[heap_setCell_same hs.out]
    congr 2
   have rE:=mO.but sD hN (λk hk=>mO.Jk hs k hk);have fK:(W.setCell (J b 4) (.map (some W.heap.size))).grownBy ((W.setCell (J b 4) (.map (some W.heap.size))).alloc (.map #[] 0)) none:=an1 _ _ none;have hba:=But.aC fK;have hn0:∀k,some k=none->o9 (W.setCell (J b 4) (.map (some W.heap.size))) k:=λk e=>by cases e
   have hBa:=dJ.made (W.setCell (J b 4) (.map (some W.heap.size)));rw[E5]at hBa;exact⟨⟨hs4.kept (fK.block b (by rw[E5];exact mg) R),rE.but hba hn0 (λk _=>R),hBa,Sat.aem ak,λq hq=>by cases hq⟩,sD.trans (hba.mono (λk _ e=>by cases e))⟩
  have HC:=F hC;have HJ:=F hj;have HON:=F hon;have Ii:=@aC9 prog;clear hC hj hon mO hs
  go_wp2_with fail
  refine wp_label ?_;rename_i hk _;refine hk _ _ ?_;have iD:=(Z XJ).2;refine Code.wp_mono (DJ (λl' a' w' h=>?_)) (Z HON _ _ _ ⟨rfl,rfl,rfl,rv,tp,ak,p,(Z HC).world ((Z HC).but.then iD (λi _ e=>by rw[e];exact kQ)),Or.inr (Or.inl ⟨rfl,W.heap.size,[],(Z HC).but.size,(Z XJ).1,Z HJ,rfl⟩)⟩);obtain⟨r',I,M⟩:=h;refine⟨r',Nat.lt_trans I ?_,M⟩;rw[hr];simp only[ap0];omega
 case first=>
  intro han;have HAN:=F han;clear han;have HC:Hid (FC w S0 U B Th aW rv0 tp0 aW p0 w):=⟨But.refl _ _,λk hk=>Or.inl (hr0 k hk),hRG,hd,hB,λr h=>h,λα _ h=>h⟩;have HS:=F hS;have HR:=F hR;clear hS hR hO
  go_wp2_with fail
  refine wp_label ?_;rename_i hk;refine hk _ _ ?_;refine Code.wp_mono (DJ (λl' a' w' h=>?_)) (Z HAN _ _ _ ⟨rfl,rfl,rfl,rv0,tp0,aW,p0,Z HC,Or.inl ⟨rfl,⟨none,Z HS⟩,Z HR,hJ,rfl⟩⟩);obtain⟨r',_,M⟩:=h;exact⟨r',M⟩
end Go.Proofs.YthcppbmkacbbiabGreat
