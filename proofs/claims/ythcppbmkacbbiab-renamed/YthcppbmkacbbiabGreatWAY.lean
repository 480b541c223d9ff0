import Derived.Test.YthcppbmkacbbiabGreatWAX
import Derived.WalkMore
set_option linter.unusedSimpArgs false
set_option maxHeartbeats 8000000
set_option maxRecDepth 100000
namespace Go.Proofs.YthcppbmkacbbiabGreat
open Go.Proofs.Tryz
open Go.RowKit Go.Maps Go.WideMaps
open Sat (View Rule jk bG)
theorem Vu:(prog.info? 130).map (λi=>(i.zero,i.size,i.bytes))=some (some (.slice none 0 0),1,24):=by kernel_rfl
theorem wF{J:Nat->Act->World->Prop}{Q:Exit->Act->World->Prop}{a:Act}{w:World}(h:Q .ret a w):iO J Q .ret a w:=h
theorem Sl{t:Array Value}(h:t.size=63):∃u0 u1 u2 u3 u4 u5 u6 u7 u8 u9 u10 u11 u12 u13 u14 u15 u16 u17 u18 u19 u20 u21 u22 u23 u24 u25 u26 u27 u28 u29 u30 u31 u32 u33 u34 u35 u36 u37 u38 u39 u40 u41 u42 u43 u44 u45 u46 u47 u48 u49 u50 u51 u52 u53 u54 u55 u56 u57 u58 u59 u60 u61 u62,t=#[u0,u1,u2,u3,u4,u5,u6,u7,u8,u9,u10,u11,u12,u13,u14,u15,u16,u17,u18,u19,u20,u21,u22,u23,u24,u25,u26,u27,u28,u29,u30,u31,u32,u33,u34,u35,u36,u37,u38,u39,u40,u41,u42,u43,u44,u45,u46,u47,u48,u49,u50,u51,u52,u53,u54,u55,u56,u57,u58,u59,u60,u61,u62]:=by
 obtain⟨l⟩:=t
 match l,h with
 |u0::u1::u2::u3::u4::u5::u6::u7::u8::u9::u10::u11::u12::u13::u14::u15::u16::u17::u18::u19::u20::u21::u22::u23::u24::u25::u26::u27::u28::u29::u30::u31::u32::u33::u34::u35::u36::u37::u38::u39::u40::u41::u42::u43::u44::u45::u46::u47::u48::u49::u50::u51::u52::u53::u54::u55::u56::u57::u58::u59::u60::u61::u62::[],_=>exact⟨u0,u1,u2,u3,u4,u5,u6,u7,u8,u9,u10,u11,u12,u13,u14,u15,u16,u17,u18,u19,u20,u21,u22,u23,u24,u25,u26,u27,u28,u29,u30,u31,u32,u33,u34,u35,u36,u37,u38,u39,u40,u41,u42,u43,u44,u45,u46,u47,u48,u49,u50,u51,u52,u53,u54,u55,u56,u57,u58,u59,u60,u61,u62,rfl⟩
theorem bF.og{w:World}{rv:Value}{ak:List Rule}(h:bF w rv ak):∀k,some k=rv.ownBlock->jC w k:=by
 obtain⟨vs,⟨h1,h2⟩,h3⟩:=h;intro k hk cur x e;rcases h2 with⟨rfl,_⟩|⟨g,cap,cur',rfl,q2,q3,q4⟩
 ·cases hk
 ·cases hk;rw[q3]at e;simp at e
theorem bF.add{S:Nat->Prop}{W W3:World}{v' v:Value}{ak:List Rule}{r:Rule}{vs:List Value}(hl:vs.length=ak.length)(h3:∀i (hi:i<ak.length),∃v,vs[i]?=some v/\aP W v ak[i])
 (hown:W3.ownsRow 0 130 1 v' (ak.length+1) (vs++[v]))(hb:But S W W3)(hS:∀k,S k->jC W k)(hv:aP W v r):bF W3 v' (ak++[r]):=by
 refine⟨vs++[v],by rw[af8];exact hown,λi hi=>?_⟩;by_cases hlt:i<ak.length
 ·obtain⟨u,q1,q2⟩:=h3 i hlt;refine⟨u,by rw[aj1 (by omega)];exact q1,?_⟩;rw[aj9 hlt];exact q2.but hb hS
 ·have e:i=ak.length:=by simp at hi;omega
  subst e;refine⟨v,by rw[List.getElem?_append_right (by omega),hl];simp,?_⟩;rw[ap7 (ad5 _)];simpa using hv.but hb hS
theorem yH(w:World)(v:Value)(t:TypeId)(n:Nat)(hn:w.heap.size=n):∀j u,[v][j]?=some u->(w.alloc (.cells #[v] t)).cell? ((⟨n,0,none⟩:Addr).add j)=some u:=by
 subst hn;intro j u hj;cases j with
 |zero=>simp at hj;subst hj;simp[Addr.add]
 |succ j=>simp at hj
theorem Wj{w:World}{v:Value}{r:Rule}(h:aP w v r):∀u∈[v],u.oneCell'=true:=by
 intro u hu;rw[ag0.1 hu];obtain⟨p,c,rfl⟩:=h.len;rfl
structure FC(w:World)(S0:Nat->Prop)(U B:Nat)(Th:(Nat->Bool)->Prop)(aJ:List Rule)(rv:Value)(tp:List UInt8)(ak:List Rule)(p:Nat)(W:World):Prop where
 but:But S0 w W
 own:∀k,rv.ownBlock=some k->S0 k\/w.heap.size<=k
 rg:RG U ak
 QZ:xg tp
 bound:ak.length+p<=B
 sub:∀r∈aJ,r∈ak
 imp:∀α,Th α->(∀r∈aJ,Sat.keeps α r)->∀r∈ak,Sat.keeps α r
abbrev FJ(w:World)(S0:Nat->Prop)(b U B:Nat)(ov:Value)(Th:(Nat->Bool)->Prop)(aJ:List Rule)(Jp J:Nat->List UInt8->List Tr->List Rule->Prop)(r l:Nat)(a:Act)(W:World):Prop:=
 a.tmps.size=63/\a.defers=[]/\a.tmps[0]?=some (.pointer (some ⟨b,0,none⟩))/\∃rv tp ak p,FC w S0 U B Th aJ rv tp ak p W/\
  ((l=0/\(∃m,nX W b U rv ov tp m)/\bF W rv ak/\Jp p tp [] ak/\r=(p*(U+3)+(U+2))*2)\/
   (l=1/\∃m τ,w.heap.size<=m/\FI W b U rv ov tp m τ ak/\Jp p tp τ ak/\r=(p*(U+3)+(U+1-τ.length))*2+1)\/
   (l=2/\∃m τ v br,w.heap.size<=m/\FI W b U rv ov tp m τ ak/\J p tp τ ak/\a.tmps[3]?=some v/\aP W v br/\br∈ak/\(∀u∈br,Sat.wrong (bel τ) u)/\r=(p*(U+3)+(U+1-τ.length))*2))
def fiE(w:World)(b U:Nat)(ov:Value)(Th:(Nat->Bool)->Prop)(aJ:List Rule)(Good:List Tr->Prop)(e:Ending):Prop:=
 (e=.returned (.bool true)/\∃rv tp m τ ak,FI w b U rv ov tp m τ ak/\(∀x,x<U->kX τ x=true)/\(∀r∈aJ,r∈ak)/\Sat.Done ak (bel τ)/\Good τ)\/
 (e=.returned (.bool false)/\∀α,Th α->¬∀r∈aJ,Sat.keeps α r)
theorem FI.ti{w:World}{b U:Nat}{rv ov:Value}{tp:List UInt8}{m:Nat}{τ:List Tr}{ak:List Rule}(h:FI w b U rv ov tp m τ ak):TI U τ ak:=⟨h.inv,h.bs.nodup,h.lt⟩
theorem FI.good{w:World}{b U:Nat}{rv ov:Value}{tp:List UInt8}{m:Nat}{τ:List Tr}{ak:List Rule}(h:FI w b U rv ov tp m τ ak)(hR:RG U ak):∀q∈τ,q.1<U/\q.2.2.2.length<=1000/\∀u∈q.2.2.2,u.1<U:=by
 intro q hq;refine⟨h.lt q hq,?_⟩;by_cases e:q.2.2.2=[]
 ·rw[e];exact⟨by simp,λu hu=>by cases hu⟩
 ·obtain⟨k,hk,rfl⟩:=ai0 hq;have hb:bel τ τ[k].1=some (τ[k].2.1,k,τ[k].2.2.2):=by unfold bel;rw[jg h.bs.nodup hk];rfl
  obtain⟨h1,_⟩:=h.inv.NY _ _ _ _ hb e;exact⟨hR.len _ h1,hR.lt _ h1⟩
theorem learn{W W3:World}{b U:Nat}{rv ov:Value}{tp:List UInt8}{m:Nat}{τ:List Tr}{ak:List Rule}{v v':Value}{C:Rule}{vs:List Value}(h:FI W b U rv ov tp m τ ak)(hv:aP W v C)(hrow:W.ownsRow 0 130 1 rv ak.length vs)(h3:∀i (hi:i<ak.length),∃v,vs[i]?=some v/\aP W v ak[i])
 (hg3:(W.alloc (.cells #[v] 130)).grownBy W3 rv.ownBlock)(hown:W3.ownsRow 0 130 1 v' (ak.length+1) (vs++[v])) :
  nX (W3.setCell ⟨b,1,none⟩ v') b U v' ov tp (some m)/\bF (W3.setCell ⟨b,1,none⟩ v') v' (ak++[C])/\bD (W3.setCell ⟨b,1,none⟩ v') m τ/\But (λk=>k=b\/some k=rv.ownBlock) W (W3.setCell ⟨b,1,none⟩ v')/\aP (W3.setCell ⟨b,1,none⟩ v') v C/\
  W3.cell? ⟨b,1,none⟩=some rv/\W3.frozen? ⟨b,1,none⟩=false/\b<W3.heap.size:=by
 have hga:W.grownBy (W.alloc (.cells #[v] 130)) rv.ownBlock:=ad4 _ _ _;have hg:W.grownBy W3 rv.ownBlock:=hga.trans hg3;have hb3:=But.aA hg;have hN:=h.rows.og;have hbl:=h.uM.lt;have hbr:some b≠rv.ownBlock:=λe=>h.rows.yK h.uM b e.symm rfl;have hmr:some m≠rv.ownBlock:=λe=>h.rows.pG h.bs m e.symm rfl;have hs3:nX W3 b U rv ov tp (some m):=h.uM.kept (hg.block b hbl hbr);have hr3:bF W3 v' (ak++[C]):=bF.add (by have:=hrow.1;omega) h3 hown hb3 hN hv;have hB3:bD W3 m τ:=h.bs.but hb3 hN hmr;have hv3:aP W3 v C:=hv.but hb3 hN;have hb4:But (λk=>k=b) W3 (W3.setCell ⟨b,1,none⟩ v'):=But.setCell (S:=λk=>k=b) (But.refl _ _) (λ_=>rfl) _;have hN3:∀k,k=b->jC W3 k:=λk e=>by rw[e];exact hs3.og
 refine⟨?_,hr3.but hb4 hN3 (λk hk=>hr3.yK hs3 k hk),hB3.but hb4 hN3 (λe=>hs3.pG hB3 e.symm),(hb3.mono (λk _ e=>Or.inr e)).trans (hb4.mono (λk _ e=>Or.inl e)),hv3.but hb4 hN3,hs3.cells.2.1,hs3.thaw 1,hs3.lt⟩;refine nX.mk ?_;rw[heap_setCell_same hs3.out]
 congr 2
theorem RG.add{U:Nat}{ak:List Rule}(h:RG U ak){C:Rule}(h0:C≠[])(h1:C.Nodup)(h2:∀u∈C,u.1<U)(h3:C.length<=1000):RG U (ak++[C]):=by
 refine⟨λr hr=>?_,λr hr=>?_,λr hr=>?_,λr hr=>?_⟩<;>
  (rcases ag9.1 hr with hr|hr)
 ·exact h.ne r hr
 ·rw[ag0.1 hr];exact h0
 ·exact h.nodup r hr
 ·rw[ag0.1 hr];exact h1
 ·exact h.lt r hr
 ·rw[ag0.1 hr];exact h2
 ·exact h.len r hr
 ·rw[ag0.1 hr];exact h3
theorem FC.add{w:World}{S0:Nat->Prop}{U B:Nat}{Th:(Nat->Bool)->Prop}{aJ:List Rule}{rv rv':Value}{tp tp':List UInt8}{ak:List Rule}{p p':Nat}{W W':World}{C:Rule}(h:FC w S0 U B Th aJ rv tp ak p W)
 (hb:But S0 w W')(hown:∀k,rv'.ownBlock=some k->S0 k\/w.heap.size<=k)(hd:xg tp')(hp:p'<p)(hrg:RG U (ak++[C]))(hi:∀α,Th α->(∀r∈ak,Sat.keeps α r)->Sat.keeps α C):FC w S0 U B Th aJ rv' tp' (ak++[C]) p' W':=by
 refine⟨hb,hown,hrg,hd,by have:=h.bound;simp;omega,λr hr=>ai5 _ (h.sub r hr),λα h1 h2 r hr=>?_⟩;rcases ag9.1 hr with hr|hr
 ·exact h.imp α h1 h2 r hr
 ·rw[ag0.1 hr];exact hi α h1 (h.imp α h1 h2)
theorem FC.world{w:World}{S0:Nat->Prop}{U B:Nat}{Th:(Nat->Bool)->Prop}{aJ:List Rule}{rv:Value}{tp:List UInt8}{ak:List Rule}{p:Nat}{W W':World}(h:FC w S0 U B Th aJ rv tp ak p W)(hb:But S0 w W'):FC w S0 U B Th aJ rv tp ak p W':=
 ⟨hb,h.own,h.rg,h.QZ,h.bound,h.sub,h.imp⟩
theorem aP.at0{w:World}{g n cap:Nat}{r:Rule}{u:View}(h:aP w (.slice (some ⟨g,0,none⟩) n cap) r)(hu:r[0]?=some u):w.cell? ⟨g,0,none⟩=some (.int .i64 u.1):=by
 rcases h with⟨_,h⟩|⟨g',cap',cur,x,h1,h2,h3,h4⟩
 ·cases h
 ·cases h1;obtain⟨h0,e⟩:=List.getElem?_eq_some_iff.1 hu;rw[cell_of h2];have:=(h4 0 h0).1;rw[e]at this;simpa using this
theorem BF{tp:List UInt8}(h:xg tp):xg tp.tail:=λc hc=>h c (List.mem_of_mem_tail hc)
theorem less1{p p' U x y:Nat}(hp:p'<p)(hx:x<=U+2):(p'*(U+3)+x)*2+1<(p*(U+3)+y)*2:=by
 have:(p'+1)*(U+3)<=p*(U+3):=Nat.mul_le_mul_right _ hp;rw[an0]at this;omega
theorem Bv(w:World)(S0:Nat->Prop)(b U B no:Nat)(cl:List Value)(rv0:Value)(tp0:List UInt8)(aJ:List Rule)(Th:(Nat->Bool)->Prop)(E:Prop)(Good:List Tr->Prop)
 (Jp J:Nat->List UInt8->List Tr->List Rule->Prop)(Qx:Pot U E Jp J)(p0:Nat)(hS:nX w b U rv0 (.func (.func no) #[] cl.toArray) tp0 none)(hR:bF w rv0 aJ)(hRG:RG U aJ)(hd:xg tp0)(hU:U<=500)(hJ:Jp p0 tp0 [] aJ)
 (hb0:S0 b)(hr0:∀k,rv0.ownBlock=some k->S0 k)(hB:aJ.length+p0<=B)(hB2:B<=5000000000000)
 (hno:∀args W,(callFunc no args).run prog W=.ok (Next.enter no args) W)
 (hO:∀W m τ,But S0 w W->w.heap.size<=m->bD W m τ->(∀q∈τ,q.1<U)->(∀x,x<U->kX τ x=true)->Calls prog no (.map (some m)::cl).toArray W λe W'=>∃v r,e=.returned v/\aP W' v r/\Below W.heap.size W W'/\(r=[]->Good τ)/\
   (r≠[]->E/\r.Nodup/\r.length<=1000/\(∀u∈r,u.1<U/\Sat.wrong (bel τ) u)/\∀α,Th α->Sat.keeps α r)) :
  Calls prog 61 #[.pointer (some ⟨b,0,none⟩)] w λe w'=>fiE w' b U (.func (.func no) #[] cl.toArray) Th aJ Good e/\But S0 w w':=by
 obtain⟨i0,hin,hz0,hz1,hz2⟩:=ak7 Vu;obtain⟨ov,hov⟩:∃ov:Value,ov=.func (.func no) #[] cl.toArray:=⟨_,rfl⟩;rw[<-hov]at hS ⊢
 go_enter func61,ntmps61
 go_wp2_with fail
 refine xU (c0:=?c0) (c1:=?c1) (c2:=?c2) (FJ w S0 b U B ov Th aJ Jp J) ?h0 ?h1 ?h2 ?only ?back ?on ?anew ?first
 case h0=>exact rfl
 case h1=>exact rfl
 case h2=>exact rfl
 case only=>
  rintro r l a W ⟨_,_,_,rv,tp,ak,p,_,h|h|h⟩
  ·exact Or.inl h.1
  ·exact Or.inr (Or.inl h.1)
  ·exact Or.inr (Or.inr h.1)
 case back=>
  rintro r a W ⟨hsz,hdf,ht0,rv,tp,ak,p,hC,h⟩;rcases h with⟨h,_⟩|⟨h,_⟩|⟨_,m,τ,v,br,hm,hfi,hj,ht3,hrv,hbr,hwr,hr⟩
  ·cases h
  ·cases h
  obtain⟨tm,df⟩:=a;simp only at hsz hdf ht0 ht3;obtain⟨u0,u1,u2,u3,u4,u5,u6,u7,u8,u9,u10,u11,u12,u13,u14,u15,u16,u17,u18,u19,u20,u21,u22,u23,u24,u25,u26,u27,u28,u29,u30,u31,u32,u33,u34,u35,u36,u37,u38,u39,u40,u41,u42,u43,u44,u45,u46,u47,u48,u49,u50,u51,u52,u53,u54,u55,u56,u57,u58,u59,u60,u61,u62,hta⟩:=Sl hsz;subst hta;subst hdf;simp only[List.getElem?_toArray,List.getElem?_cons_zero,List.getElem?_cons_succ,ai4]at ht0 ht3;subst ht0;subst ht3;have hlen:=hfi.len;have hbl:=N7 W b U rv ov tp m τ hfi.uM hfi.bs u3 br hrv hU (hC.rg.lt _ hbr) (hC.rg.len _ hbr) (hfi.good hC.rg) (by omega);have HC:=aj hC;have HFI:=aj hfi;have HJ:=aj hj;have HBR:=aj hbr;have HWR:=aj hwr;clear hC hfi hj hbr hwr hsz hrv
  go_wp2_with fail
  refine hbl.mono ?_;rintro e w1 ⟨v',rfl,Nl,hb1⟩;have ou:=(ah HFI).grown (bI hb1);have Uw:But S0 w w1:=(ah HC).but.then (But.of_below hb1 (λ_=>False)) (λ_ _ h=>h.elim)
  obtain⟨vp,vc,hv',hvn,hvs⟩:=Nl.cells;subst hv';by_cases hC0:rY τ br=[]
  ·have hz:(rY τ br).length=0:=(by rw[hC0];rfl);have hend:Hid (∀α,Th α->¬∀r∈aJ,Sat.keeps α r):=λα h1 h2=>by
    have:=BL ou.bs.nodup ou.inv (ah HBR) (ah HWR) α ((ah HC).imp α h1 h2);rw[hC0]at this;obtain⟨u,hu,_⟩:=this;cases hu
   have Q1:=aj Uw;rw[hz];clear ou Uw Nl hb1 hvn hvs hC0 hz
   go_wp2_with fail
   refine wF ?_;exact ag3 (v:=.bool false) (by simp[results,results61,go_sem]) rfl ⟨Or.inr ⟨rfl,ah hend⟩,ah Q1⟩
  ·have hlz:(rY τ br).length≠0:=λh=>hC0 (ah4 h);have hzi:((rY τ br).length:Int)≠0:=(by omega);obtain⟨g,rfl,hgl,hcs⟩:=hvs hC0;have hgood:=RZ (br:=br) ou.bs.nodup ou.inv;have hCU:∀u∈rY τ br,u.1<U:=λu hu=>by
    obtain⟨q,hq,e,_⟩:=hgood.2.1 u hu;rw[<-e];exact ou.lt q hq
   have hCl:(rY τ br).length<=1000:=by
    have:=jc U _ hgood.2.2 (λx hx=>by obtain⟨u,hu,rfl⟩:=af9.1 hx;exact hCU u hu);simp at this;omega
   have hrg2:=(ah HC).rg.add hC0 hgood.1 hCU hCl;have hkp:∀α,Th α->(∀r∈ak,Sat.keeps α r)->Sat.keeps α (rY τ br):=λα _ h2=>BL ou.bs.nodup ou.inv (ah HBR) (ah HWR) α h2;obtain⟨hd0,tl0,hbe⟩:=List.exists_cons_of_ne_nil hC0;obtain⟨kk,qq,Zg,hBl⟩:=Jo ou.bs.nodup ou.inv hbe;obtain⟨p',hp',hJb,hJr⟩:=Qx.back p tp τ ak _ _ _ _ (ah HJ) ou.ti hBl;have hhd:(rY τ br)[0]?=some hd0:=(by simp[hbe]);have hu0:hd0.1<U:=hCU hd0 (by rw[hbe];simp);obtain⟨vs,hrow,h3⟩:=ou.rows;have hbd:=(ah HC).bound;have hown0:=(ah HC).own;have Xa:=(ah HC).QZ;have c1:=ou.uM.cells.2.1;have aa1:=ou.uM.lt;have hrl:=ou.rows.slice;obtain⟨rp,rc,rfl⟩:=hrl;have HL:Hid (∀W3 v2,(w1.alloc (.cells #[.slice (some ⟨g,0,none⟩) (rY τ br).length vc] 130)).grownBy W3 (Value.slice rp ak.length rc).ownBlock->W3.ownsRow 0 130 1 v2 (ak.length+1) (vs++[.slice (some ⟨g,0,none⟩) (rY τ br).length vc])->_):=λW3 v2 h1 h2=>learn ou Nl hrow h3 h1 h2;have eX:=aj hrow;have H3:=aj h3;have HRV:=aj Nl;have HCB:=aj Uw;have HF1:=aj ou;have one:=Wj Nl;have HB1:=aj hb1;have HX:=aj hkp;have HG2:=aj hrg2;have HJB:=aj hJb;have HJR:=aj hJr;have HFN:=aj Zg;have acn:=aj hBl;have HCS:=aj hcs;have HHD:=aj hhd;clear hrow h3 Nl Uw ou hb1 hkp hrg2 hJb hJr Zg hBl hcs hhd hgood hCU hCl hvn hvs hC0 hbe;have adf:g≠w1.heap.size:=by omega
   go_wp2_with (at_builtin;refine am1 _ rfl _ _ 135 rfl 0 130 i0 (.slice none 0 0) 1 24 underlying135 hin hz0 hz1 hz2 rfl (by decide) (.slice rp ak.length rc) ak.length vs rfl ((ah eX).alloc _) ⟨w1.heap.size,0,none⟩ 1 1 [.slice (some ⟨g,0,none⟩) (rY τ br).length vc] rfl rfl (yH _ _ _ _ rfl) one (by unfold maxLen;omega) (by omega) (by simp) ?_;intro v2 w3 hown2 hg3 hnil3 UC;obtain⟨g2,cap2,hv2⟩:=dL hown2 (al7 _);subst hv2;have hlr:=ah HL w3 _ hg3 hown2;obtain⟨L1,L2,L3,L4,L5,L6,L7,L8⟩:=hlr)
   obtain⟨W4,hW4⟩:∃W4,w3.setCell ⟨b,1,none⟩ (.slice (some ⟨g2,0,none⟩) (ak.length+1) cap2)=W4:=⟨_,rfl⟩;rw[hW4]at L1 L2 L3 L4 L5 ⊢;refine(BH W4 b U _ ov tp (some m) L1 Xa).mono ?_;rintro e w5 ⟨rfl,hs5,hb5⟩;have hN4:∀k,k=b->jC W4 k:=λk e=>by rw[e];exact L1.og
   have hr5:=L2.but hb5 hN4 (λk hk=>L2.yK L1 k hk);have hB5:=L3.but hb5 hN4 (λe=>L1.pG L3 e.symm);have hv5:=L5.but hb5 hN4;have hs1:=(ah HCB).size;have Qr:But S0 w w5:=((ah HCB).then L4 (λi hi e=>by
    rcases e with e|e
    ·rw[e];exact hb0
    ·rcases hown0 i e.symm with e2|e2
     ·exact e2
     ·omega)).then hb5 (λi _ e=>by rw[e];exact hb0)
   have hown5:∀k,(Value.slice (some ⟨g2,0,none⟩) (ak.length+1) cap2).ownBlock=some k->S0 k\/w.heap.size<=k:=λk hk=>by
    rcases UC with e|e
    ·exact hown0 k (e.symm.trans hk)
    ·rw[e]at hk;simp at hk;right;omega
   have HFC:Hid (FC w S0 U B Th aJ (.slice (some ⟨g2,0,none⟩) (ak.length+1) cap2) tp.tail (ak++[rY τ br]) p' w5):=(ah HC).add Qr hown5 (BF Xa) hp' (ah HG2) (ah HX);have HS5:=aj hs5;have HR5:=aj hr5;have HB5:=aj hB5;have HV5:=aj hv5;have HO5:=aj hown5;have HN5:=aj Qr;have hdl:dg tp<=9:=by
    cases tp with
    |nil=>simp[dg]
    |cons c tp=>have:=Xa c (by simp);simp[dg];omega
   clear L1 L2 L3 L4 L5 L6 L7 L8 hW4 hN4 hr5 hB5 hv5 Qr hown5 hown2 hg3 hnil3 UC hs5 hb5 c1;by_cases hodd:dg tp%2=1
   ·have Qj:(dg tp:Int)%2=1:=(by omega);have hJ0:=aj ((ah HJR) hodd);clear hodd;generalize hdt:dg tp=d at Qj hdl
    go_wp2_with fail
    refine wp_goto ?_;refine(show ∃r',r'<r/\FJ w S0 b U B ov Th aJ Jp J r' 0 _ w5 from ?_);exact⟨_,by rw[hr];have:=less1 (U:=U) (x:=U+2) (y:=U+1-τ.length) hp' (ad5 _);omega,rfl,rfl,rfl,_,_,_,p',ah HFC,Or.inl ⟨rfl,⟨some m,ah HS5⟩,ah HR5,ah hJ0,rfl⟩⟩
   ·have Qj:¬(dg tp:Int)%2=1:=(by omega);clear hodd;generalize hdt:dg tp=d at Qj hdl;have hc5:w5.cell? ⟨g,0,none⟩=some (.int .i64 hd0.1):=(ah HV5).at0 (ah HHD)
    go_wp2_with fail
    refine(IX w5 b U _ ov tp.tail m τ hd0.1 kk qq (ah HS5) (ah HB5) (by omega) (ah HFN)).mono ?_;rintro e w6 ⟨⟨v6,rfl⟩,hB6,hg6⟩;have hkl:kk<τ.length:=(dG (ah HFN)).2.1;have htl:(τ.take kk).length=kk:=(by simp;omega);have hbm:b≠m:=(ah HS5).pG (ah HB5);have hF6:FI w6 b U (.slice (some ⟨g2,0,none⟩) (ak.length+1) cap2) ov tp.tail m (τ.take kk) (ak++[rY τ br]):=by
     refine⟨(ah HS5).kept (hg6.block b (ah HS5).lt (by simpa using hbm)),(ah HR5).but (But.aA hg6) (λk e=>by cases e;exact(ah HB5).og) (λk hk e=>(ah HR5).pG (ah HB5) k hk (by cases e;rfl)),hB6,?_,λq hq=>(ah HF1).lt q (al5 hq)⟩;rw[mJ (ah HF1).bs.nodup,htl];exact(ah HF1).inv.back (ah acn)
    have hC6:=(ah HFC).world ((ah HFC).but.then (But.aA hg6) (λi hi e=>by cases e;omega));have Q1:=aj hF6;have Q2:=aj hC6;clear hF6 hC6 hB6 hg6
    go_wp2_with fail
    refine wp_goto ?_;refine(show ∃r',r'<r/\FJ w S0 b U B ov Th aJ Jp J r' 1 _ w6 from ?_);exact⟨_,by rw[hr];exact less1 (U:=U) hp' (by omega),rfl,rfl,rfl,_,_,_,p',ah Q2,Or.inr (Or.inl ⟨rfl,m,_,hm,ah Q1,ah HJB,rfl⟩)⟩
 case on=>
  rintro r a W ⟨hsz,hdf,ht0,rv,tp,ak,p,hC,h⟩;rcases h with⟨h,_⟩|⟨_,m,τ,hm,hfi,hj,hr⟩|⟨h,_⟩
  ·cases h
  rotate_left
  ·cases h
  obtain⟨tm,df⟩:=a;simp only at hsz hdf ht0;obtain⟨u0,u1,u2,u3,u4,u5,u6,u7,u8,u9,u10,u11,u12,u13,u14,u15,u16,u17,u18,u19,u20,u21,u22,u23,u24,u25,u26,u27,u28,u29,u30,u31,u32,u33,u34,u35,u36,u37,u38,u39,u40,u41,u42,u43,u44,u45,u46,u47,u48,u49,u50,u51,u52,u53,u54,u55,u56,u57,u58,u59,u60,u61,u62,hta⟩:=Sl hsz;subst hta;subst hdf;simp only[List.getElem?_toArray,List.getElem?_cons_zero,List.getElem?_cons_succ,ai4]at ht0;subst ht0;have hbd:=hC.bound;have hfo:=IY W b U rv ov tp m τ ak hfi hC.rg hU (by omega);have HC:=aj hC;have HJ:=aj hj;clear hC hj hsz hfi
  go_wp2_with fail
  refine hfo.mono ?_;rintro e w1 ⟨σ,hE,hf1,hg1,ρ,rfl,hρ⟩;have hC1:=(ah HC).world ((ah HC).but.then (But.aA hg1) (λi hi e=>by cases e;omega));have hlen:=hf1.len;rcases hE with⟨rfl,hdone⟩|⟨v,br,rfl,hrv,hbr,hwr⟩
  ·have hj1:=Qx.follow p tp τ ak ρ (ah HJ) hρ hf1.ti (Or.inl hdone);have hch:=Jk w1 b U rv ov tp m (τ++ρ) ak hf1 hC1.QZ hU hdone;have HC1:=aj hC1;have HJ1:=aj hj1;have HD:=aj hdone;have HF1:=aj hf1;clear hC1 hj1 hdone hf1 hg1 hfo hρ
   go_wp2_with fail
   refine hch.mono ?_;rintro e w2 ⟨hE,hb2⟩;have hC2:=(ah HC1).but.then hb2 (λi hi e=>by
    rcases e with e|e
    ·rw[e];exact hb0
    ·omega)
   rcases hE with⟨rfl,htot,hf2⟩|⟨x,rfl,hx,hbx,hf2⟩
   ·have hC3:=(ah HC1).world hC2;obtain⟨_,c1,c2,_,c4⟩:=hf2.uM.cells;have hO':Hid (∀W',w2.grownBy W' none->Calls prog no (.map (some m)::cl).toArray W' λe W''=>∃v r,e=.returned v/\aP W'' v r/\Below W'.heap.size W' W''/\(r=[]->Good (τ++ρ))/\
      (r≠[]->E/\r.Nodup/\r.length<=1000/\(∀u∈r,u.1<U/\Sat.wrong (bel (τ++ρ)) u)/\∀α,Th α->Sat.keeps α r)):=λW' hg=>by
     have hf:=hf2.grown hg;exact hO W' m (τ++ρ) (hC2.then (But.aA hg) (λi _ e=>by cases e)) hm hf.bs hf.lt htot
    have HF2:=aj hf2;have HC3:=aj hC3;have HT:=aj htot;have HBU:=aj hC2;clear hf2 hC3 htot hC2 hb2 hch;subst hov
    go_wp2_with fail
    refine ah0 (S:=λW'=>w2.grownBy W' none) rfl ?_;have hS0:w2.grownBy w2.drew none:=⟨rfl,rfl,rfl,ad5 _,λ_ _ _=>rfl⟩;simp only[ae2,ae1,ae8,Nat.reduceAdd,ae0,ad9,ae4,ae7,ae6];change wpAnyH prog .any _ _ _ _ _ _ w2.drew;refine tH 0 (.pointer (some ⟨b,0,none⟩)) (λw' hS=>?_) hS0 ?_
    ·go_simp
    simp only[aC];refine tH 1 (.pointer (some ⟨b,0,none⟩)) (λw' hS=>?_) hS0 ?_
    ·go_simp
    simp only[aC];refine tH 2 (.pointer (some ⟨b,2,none⟩)) (λw' hS=>?_) hS0 ?_
    ·go_simp
    simp only[aC];refine tH 3 (.func (.func no) #[] cl.toArray) (λw' hS=>?_) hS0 ?_
    ·have q:=hS.cell c2 (by simp);go_simp
    simp only[aC];refine tH 4 (.pointer (some ⟨b,0,none⟩)) (λw' hS=>?_) hS0 ?_
    ·go_simp
    simp only[aC];refine tH 5 (.pointer (some ⟨b,0,none⟩)) (λw' hS=>?_) hS0 ?_
    ·go_simp
    simp only[aC];refine tH 6 (.pointer (some ⟨b,4,none⟩)) (λw' hS=>?_) hS0 ?_
    ·go_simp
    simp only[aC];refine tH 7 (.map (some m)) (λw' hS=>?_) hS0 ?_
    ·have q:=hS.cell c4 (by simp);go_simp
    simp only[aC];refine oH 8 (λK hK=>?_);go_simp;refine(ah hO' _ hS0).mono ?_;rintro e w3 ⟨v,rr,rfl,hrv,hbl,hgood,hbad⟩;obtain⟨vp,vc,rfl⟩:=hrv.len;have hS1:w2.grownBy w3 none:=hS0.trans (bI hbl);refine hK.out _ _ hS1 ?_;clear hK K;refine oH 9 (λK hK=>?_);go_simp;refine hK.out _ _ hS1 (ag5 (by kernel_rfl) ?_ _);clear hK K;have hf3:=(ah HF2).grown hS1;have hC3:=(ah HC3).world ((ah HBU).then (But.aA hS1) (λi _ e=>by cases e));have Zr:=hC3.bound;obtain⟨rp,rc,hrl⟩:=hf3.rows.slice;subst hrl;by_cases hz:rr=[]
    ·have hlz:rr.length=0:=(by rw[hz];rfl);have hg:=hgood hz;have Q1:=aj hf3;have Q2:=aj hC3;have Q3:=aj hg;rw[hlz];clear hf3 hC3 hg hgood hbad hrv hbl hS0 hS1 hz hlz HF2 HC3 hO' hO c1 c2 c4
     go_wp2_with fail
     refine wF ?_;exact ag3 (v:=.bool true) (by simp[results,results61,go_sem]) rfl ⟨Or.inl ⟨rfl,_,_,m,_,_,ah Q1,ah HT,(ah Q2).sub,ah HD,ah Q3⟩,(ah Q2).but⟩
    ·have hlz:rr.length≠0:=λh=>hz (ah4 h);have hzi:(rr.length:Int)≠0:=(by omega);obtain⟨hE,g1,g2,g3,g4⟩:=hbad hz;obtain⟨p',hp',hJo⟩:=Qx.obj hE p tp (τ++ρ) ak rr (ah HJ1) hf3.ti (ah HD) hC3.rg.lt (λx hx e=>by
      have:=ah HT x hx;unfold kX at this;unfold bel at e;cases h:mD (τ++ρ) x with
      |none=>rw[h]at this;cases this
      |some q=>rw[h]at e;cases e) g3
     have hrg2:=hC3.rg.add hz g1 (λu hu=>(g3 u hu).1) g2;obtain⟨vs,hrow,h3⟩:=hf3.rows;have c1':=hf3.uM.cells.2.1;have aa1:=hf3.uM.lt;have one:=Wj hrv;have HL:Hid (∀W3 v2,(w3.alloc (.cells #[.slice vp rr.length vc] 130)).grownBy W3 (Value.slice rp ak.length rc).ownBlock->W3.ownsRow 0 130 1 v2 (ak.length+1) (vs++[.slice vp rr.length vc])->_):=λW3 v2 h1 h2=>learn hf3 hrv hrow h3 h1 h2;have eX:=aj hrow;have HF3:=aj hf3;have HC4:=aj hC3;have HG2:=aj hrg2;have HJO:=aj hJo;have HX:Hid (∀α,Th α->(∀r∈ak,Sat.keeps α r)->Sat.keeps α rr):=λα h _=>g4 α h;have hown0:=aj hC3.own;have hs3:=aj hC3.but.size;clear hrow h3 hf3 hC3 hrg2 hJo hgood hbad hrv hbl hS0 hS1 hz HF2 HC3 hO' c1 c2 c4 g1 g2 g3 g4 hE
     go_wp2_with (at_builtin;refine am1 _ rfl _ _ 135 rfl 0 130 i0 (.slice none 0 0) 1 24 underlying135 hin hz0 hz1 hz2 rfl (by decide) (.slice rp ak.length rc) ak.length vs rfl ((ah eX).alloc _) ⟨w3.heap.size,0,none⟩ 1 1 [.slice vp rr.length vc] rfl rfl (yH _ _ _ _ rfl) one (by unfold maxLen;omega) (by omega) (by simp) ?_;intro v2 w4 hown2 hg4 Vy UA;obtain⟨g2,cap2,hv2⟩:=dL hown2 (al7 _);subst hv2;have hlr:=ah HL w4 _ hg4 hown2;obtain⟨L1,L2,L3,L4,L5,L6,L7,L8⟩:=hlr)
     have Qr:=(ah HC4).but.then L4 (λi hi e=>by
      rcases e with e|e
      ·rw[e];exact hb0
      ·rcases ah hown0 i e.symm with e2|e2
       ·exact e2
       ·omega)
     have hown5:∀k,(Value.slice (some ⟨g2,0,none⟩) (ak.length+1) cap2).ownBlock=some k->S0 k\/w.heap.size<=k:=λk hk=>by
      rcases UA with e|e
      ·exact ah hown0 k (e.symm.trans hk)
      ·rw[e]at hk;simp at hk;have:=ah hs3;right;omega
     have hFC:=(ah HC4).add Qr hown5 (ah HC4).QZ hp' (ah HG2) (ah HX);refine wp_goto ?_;refine(show ∃r',r'<r/\FJ w S0 b U B _ Th aJ Jp J r' 0 _ _ from ?_);refine⟨_,?_,rfl,rfl,rfl,_,_,_,p',hFC,Or.inl ⟨rfl,⟨some m,L1⟩,L2,ah HJO,rfl⟩⟩;rw[hr];have:=less1 (U:=U) (x:=U+2) (y:=U+1-τ.length) hp' (ad5 _);omega
   ·have hj2:=Qx.choose p tp (τ++ρ) ak x _ (ah HJ1) (ah HF1).ti (ah HD) hf2.ti;have Q1:=aj hf2;have Q2:=aj hj2;have hC3:FC w S0 U B Th aJ rv tp.tail ak p w2:=⟨hC2,(ah HC1).own,(ah HC1).rg,BF (ah HC1).QZ,(ah HC1).bound,(ah HC1).sub,(ah HC1).imp⟩;have Q3:=aj hC3;clear hf2 hj2 hC3 hC2 hb2 hch hbx
    go_wp2_with fail
    refine wp_goto ?_;refine(show ∃r',r'<r/\FJ w S0 b U B ov Th aJ Jp J r' 1 _ w2 from ?_);refine⟨_,?_,rfl,rfl,rfl,_,_,_,p,ah Q3,Or.inr (Or.inl ⟨rfl,m,_,hm,ah Q1,ah Q2,rfl⟩)⟩;rw[hr];have:=(ah Q1).len;simp only[af8,ao8]at this ⊢;omega
  ·have hj1:=Qx.follow p tp τ ak ρ (ah HJ) hρ hf1.ti (Or.inr ⟨br,hbr,hwr⟩);have hne:br≠[]:=hC1.rg.ne _ hbr;obtain⟨vp,vc,rfl⟩:=hrv.len;have hlz:((0:Int)<(br.length:Int)):=by
    have:=List.length_pos_iff.2 hne;omega
   have Q1:=aj hf1;have Q2:=aj hj1;have Q3:=aj hC1;have Q4:=aj hrv;have Q5:=aj hbr;have Q6:=aj hwr;clear hf1 hj1 hC1 hrv hbr hwr hfo hg1 hρ hne
   go_wp2_with fail
   refine wp_goto ?_;refine(show ∃r',r'<r/\FJ w S0 b U B ov Th aJ Jp J r' 2 _ w1 from ?_);refine⟨_,?_,rfl,rfl,rfl,_,_,_,p,ah Q3,Or.inr (Or.inr ⟨rfl,m,_,_,br,hm,ah Q1,ah Q2,rfl,ah Q4,ah Q5,ah Q6,rfl⟩)⟩;rw[hr];simp only[af8];omega
 case anew=>
  rintro hon r a W ⟨hsz,hdf,ht0,rv,tp,ak,p,hC,h⟩;rcases h with⟨_,⟨m0,hs⟩,hrows,hj,hr⟩|⟨h,_⟩|⟨h,_⟩
  rotate_left
  ·cases h
  ·cases h
  obtain⟨tm,df⟩:=a;simp only at hsz hdf ht0;obtain⟨u0,u1,u2,u3,u4,u5,u6,u7,u8,u9,u10,u11,u12,u13,u14,u15,u16,u17,u18,u19,u20,u21,u22,u23,u24,u25,u26,u27,u28,u29,u30,u31,u32,u33,u34,u35,u36,u37,u38,u39,u40,u41,u42,u43,u44,u45,u46,u47,u48,u49,u50,u51,u52,u53,u54,u55,u56,u57,u58,u59,u60,u61,u62,hta⟩:=Sl hsz;subst hta;subst hdf;simp only[List.getElem?_toArray,List.getElem?_cons_zero,List.getElem?_cons_succ,ai4]at ht0;subst ht0;have c4:=hs.cells.2.2.2.2;have hz:=hs.thaw 4;have hbl:=hs.lt;have HFI:Hid (FI ((W.setCell ⟨b,4,none⟩ (.map (some W.heap.size))).alloc (.map #[] 0)) b U rv ov tp W.heap.size [] ak/\But (λk=>k=b) W ((W.setCell ⟨b,4,none⟩ (.map (some W.heap.size))).alloc (.map #[] 0))):=by
   have hb4:But (λk=>k=b) W (W.setCell ⟨b,4,none⟩ (.map (some W.heap.size))):=But.setCell (S:=λk=>k=b) (But.refl _ _) (λ_=>rfl) _;have hN:∀k,k=b->jC W k:=λk e=>by rw[e];exact hs.og
   have hsz2:(W.setCell ⟨b,4,none⟩ (.map (some W.heap.size))).heap.size=W.heap.size:=(by simp[World.setCell]);have hs4:nX (W.setCell ⟨b,4,none⟩ (.map (some W.heap.size))) b U rv ov tp (some W.heap.size):=by
    refine nX.mk ?_;rw[heap_setCell_same hs.out]
    congr 2
   have hr4:=hrows.but hb4 hN (λk hk=>hrows.yK hs k hk);have hga:(W.setCell ⟨b,4,none⟩ (.map (some W.heap.size))).grownBy ((W.setCell ⟨b,4,none⟩ (.map (some W.heap.size))).alloc (.map #[] 0)) none:=ad4 _ _ none;have hba:=But.aA hga;have hn0:∀k,some k=none->jC (W.setCell ⟨b,4,none⟩ (.map (some W.heap.size))) k:=λk e=>by cases e
   have hBa:=bD.made (W.setCell ⟨b,4,none⟩ (.map (some W.heap.size)));rw[hsz2]at hBa;exact⟨⟨hs4.kept (hga.block b (by rw[hsz2];exact hbl) (by simp)),hr4.but hba hn0 (λk _=>by simp),hBa,Sat.Si ak,λq hq=>by cases hq⟩,hb4.trans (hba.mono (λk _ e=>by cases e))⟩
  have HC:=aj hC;have HJ:=aj hj;have HON:=aj hon;have hmm:=@as6 prog;clear hC hj hon hrows hs
  go_wp2_with fail
  refine wp_label ?_;rename_i hk _;refine hk _ _ ?_;have hb1:=(ah HFI).2;refine Code.wp_mono (tV (λl' a' w' h=>?_)) (ah HON _ _ _ ⟨rfl,rfl,rfl,rv,tp,ak,p,(ah HC).world ((ah HC).but.then hb1 (λi _ e=>by rw[e];exact hb0)),Or.inr (Or.inl ⟨rfl,W.heap.size,[],(ah HC).but.size,(ah HFI).1,ah HJ,rfl⟩)⟩);obtain⟨r',h1,h2⟩:=h;refine⟨r',Nat.lt_trans h1 ?_,h2⟩;rw[hr];simp only[ae8];omega
 case first=>
  intro han;have HAN:=aj han;clear han;have HC:Hid (FC w S0 U B Th aJ rv0 tp0 aJ p0 w):=⟨But.refl _ _,λk hk=>Or.inl (hr0 k hk),hRG,hd,hB,λr h=>h,λα _ h=>h⟩;have HS:=aj hS;have HR:=aj hR;clear hS hR hO
  go_wp2_with fail
  refine wp_label ?_;rename_i hk;refine hk _ _ ?_;refine Code.wp_mono (tV (λl' a' w' h=>?_)) (ah HAN _ _ _ ⟨rfl,rfl,rfl,rv0,tp0,aJ,p0,ah HC,Or.inl ⟨rfl,⟨none,ah HS⟩,ah HR,hJ,rfl⟩⟩);obtain⟨r',_,h2⟩:=h;exact⟨r',h2⟩
end Go.Proofs.YthcppbmkacbbiabGreat
