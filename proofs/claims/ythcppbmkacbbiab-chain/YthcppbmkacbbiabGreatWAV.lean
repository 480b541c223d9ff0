import Derived.Test.YthcppbmkacbbiabGreatWAU
import Derived.Test.YthcppbmkacbbiabGreatWAS
import Derived.Lib.SlMapFilter
import Derived.Maps.RangeWalk
import Derived.Laws.IdiomRangeMap
import Derived.Deep.LoopGhost
set_option linter.unusedSimpArgs false
set_option maxHeartbeats 4000000
set_option maxRecDepth 100000
namespace Go.Proofs.YthcppbmkacbbiabGreat
open Go.Proofs.Tryz
open Sat (View Rule jk bG)
section
open Go.RowKit Go.Maps Go.WideMaps
def opn(τ:List Tr)(k:Nat):List Int:=((List.range k).filter λx=>!kX τ x).map fun(x:Nat)=>(x:Int)
theorem O5(τ:List Tr)(k:Nat):opn τ (k+1)=opn τ k++if kX τ k then []else [(k:Int)]:=by
 unfold opn;rw[aq0,an3,ak3];cases h:kX τ k<;>simp[h]
theorem JR(τ:List Tr)(k:Nat):(opn τ k).length<=k:=by
 unfold opn;rw[ai8];exact af7 (List.length_filter_le _ _) (by simp)
theorem bF.yK{w:World}{rv':Value}{ak:List Rule}(h:bF w rv' ak){b U:Nat}{rv ov:Value}{tp:List UInt8}{m:Option Nat}(hB:nX w b U rv ov tp m):∀k,rv'.ownBlock=some k->k≠b:=by
 obtain⟨vs,⟨h1,h2⟩,h3⟩:=h;intro k hk e;subst e;rcases h2 with⟨rfl,_⟩|⟨g,cap,cur,rfl,q2,q3,q4⟩
 ·cases hk
 ·cases hk;have:=hB.out.symm.trans q3;simp at this
theorem nX.pG{w:World}{b U:Nat}{rv ov:Value}{tp:List UInt8}{n:Option Nat}(h:nX w b U rv ov tp n){m:Nat}{τ:List Tr}(hB:bD w m τ):b≠m:=λe=>by
 obtain⟨es,⟨e1,c1,h4,_⟩,_⟩:=hB.map;have:=h.out;rw[e,h4]at this;cases this
theorem FI.ab6{w w':World}{b U:Nat}{rv ov:Value}{tp tp':List UInt8}{m:Nat}{τ:List Tr}{ak:List Rule}(h:FI w b U rv ov tp m τ ak)(hs:nX w' b U rv ov tp' (some m))(hb:But (λk=>k=b) w w'):FI w' b U rv ov tp' m τ ak:=by
 have hn:∀k,k=b->jC w k:=λk e=>by rw[e];exact h.uM.og
 exact⟨hs,h.rows.but hb hn (λk hk=>h.rows.yK h.uM k hk),h.bs.but hb hn (λe=>h.uM.pG h.bs e.symm),h.inv,h.lt⟩
def chE(w:World)(b U:Nat)(rv ov:Value)(tp:List UInt8)(m:Nat)(τ:List Tr)(ak:List Rule)(e:Ending):Prop:=
 (e=.returned (.bool false)/\(∀x,x<U->kX τ x=true)/\FI w b U rv ov tp m τ ak)\/
 ∃x,e=.returned (.bool true)/\x<U/\bel τ x=none/\FI w b U rv ov tp.tail m (τ++[(x,decide (dg tp%2=1),.slice none 0 0,[])]) ak
theorem Jk(w:World)(b U:Nat)(rv ov:Value)(tp:List UInt8)(m:Nat)(τ:List Tr)(ak:List Rule)(h:FI w b U rv ov tp m τ ak)(hd:xg tp)(hU:U<=500)(hD:Sat.Done ak (bel τ)) :
  Calls prog 116 #[.pointer (some ⟨b,0,none⟩)] w λe w'=>chE w' b U rv ov tp m τ ak e/\But (λk=>k=b\/k=m) w w':=by
 obtain⟨i0,hin,hz0,hz1,hz2⟩:=ak7 Qa;obtain⟨c0,_,_,_,c4⟩:=h.uM.cells;have hbl:=h.uM.lt;have hlk:Hid (∀W:World,Below w.heap.size w W->∀x,x<U->(Instr.lookup 128 (.map (some m)) (.int .i64 x) true).run prog W=.ok (.tuple #[uN τ x,.bool (kX τ x)]) W):=λW hW x hx=>
  (h.grown (bI hW)).bs.look (by omega)
 have HSH:=aj (λx=>h.bs.Bf x);have H:=aj h;have HD:=aj hD;have hτ:=h.len;clear h hD
 go_enter func116,ntmps116
 go_wp2_with fail
 go_loopw [3,12] (λo i wr=>∃(k:Nat) (p:Option Addr) (cap:Nat),k<=U/\i=.int .i64 k/\o=.slice p (opn τ k).length cap/\wr.ownsRow w.heap.size 3 1 (.slice p (opn τ k).length cap) (opn τ k).length ((opn τ k).map vI)/\Below w.heap.size w wr) (λ_ i _=>U-(intOf i).toNat)
 case atStart=>exact⟨0,none,0,ah2 _,rfl,rfl,am9 _ _ _ _,ag6 _ _⟩
 case round=>
  obtain⟨k,p,cap,hk,rfl,rfl,hrow,hbw⟩:=hrel;by_cases hlt:k<U
  ·have hbd:(k:Int)<(U:Int):=(by omega);have hc4:wr.cell? ⟨b,4,none⟩=some (.map (some m)):=(by rw[hbw.cell (p:=⟨b,4,none⟩) hbl];exact c4);have hrun:=ah hlk wr hbw k hlt;have hop:=O5 τ k;have hol:=JR τ k;obtain⟨bi,bk,bp,bl,bc,hsh,_⟩:=ah HSH k;rw[hsh]at hrun;have HOP:=aj hop;have eX:=aj hrow;have HBW:=aj hbw;clear hsh hop hrow hbw;cases hko:kX τ k
   ·rw[hko]at HOP hrun;simp only[an4,an6]at HOP;clear hko
    go_wp2_with (at_builtin;refine am1 _ rfl _ _ 164 rfl w.heap.size 3 i0 (.int .i64 0) 1 8 underlying164 hin hz0 hz1 hz2 rfl (by decide) (.slice p (opn τ k).length cap) (opn τ k).length ((opn τ k).map vI) rfl (by exact aq3 (by exact aq3 (by exact ah eX) _) _) ⟨wr.heap.size+1,0,none⟩ 1 1 [vI (k:Int)] rfl rfl (EU _ _ _ _ (by simp)) (Ym _) (by unfold maxLen;omega) (by omega) (by have:=(ah HBW).size;simp;omega) ?_;intro v' w3 hown hgrow hnil hloc;obtain⟨b2,p2,hv2⟩:=TV hown;subst hv2)
    have hgr:wr.grownBy _ none:=(ad4 wr (.cells #[.bool bi,.int .i64 bk,.slice bp bl bc] 215) none).trans (ad4 _ (.cells #[vI (k:Int)] 3) none);have hlo:∀j,(Value.slice p (opn τ k).length cap).ownBlock=some j->w.heap.size<=j:=λj e=>((ah eX).lt j e).1;have hb3:Below w.heap.size w w3:=((ah HBW).grown hgr (ah HBW).size (λj e=>by cases e)).grown hgrow (by have:=(ah HBW).size;have:=hgr.size;omega) hlo;refine⟨⟨k+1,b2,p2,hlt,by go_num,?_,?_,hb3⟩,by simp[intOf];omega⟩
    ·rw[ah HOP];simp
    ·rw[ah HOP,af8,ak3];exact hown
   ·rw[hko]at HOP hrun;simp only[al0,ak9]at HOP;clear hko
    go_wp2_with fail
    refine⟨⟨k+1,p,cap,hlt,by go_num,by rw[ah HOP],by rw[ah HOP];exact(ah eX).alloc _,(ah HBW).alloc (ah HBW).size _⟩,by simp[intOf];omega⟩
  ·have hkk:k=U:=(by omega);have hbd:¬(k:Int)<(U:Int):=(by omega);have hf:=(ah H).grown (bI hbw);rw[hkk]at hrow ⊢;have hln:=JR τ U;by_cases hz:(opn τ U).length=0
   ·have hall:∀x,x<U->kX τ x=true:=λx hx=>by
     cases e:kX τ x
     ·exfalso;have h1:(x:Int)∈opn τ U:=af9.2 ⟨x,ai3.2 ⟨aj2.2 hx,by simp[e]⟩,rfl⟩;rw[ah4 hz]at h1;cases h1
     ·rfl
    have Q1:=aj hall;have Q2:=aj hf;have Q3:=aj (But.of_below hbw (λk=>k=b\/k=m));rw[hz];clear hall hf hbw hrow hkk
    go_wp2_with fail
    exact ag3 (v:=.bool false) (by simp[results,results116,go_sem]) rfl ⟨Or.inl ⟨rfl,ah Q1,ah Q2⟩,ah Q3⟩
   ·have hzi:((opn τ U).length:Int)≠0:=(by omega);have hdg:=aj (BH wr b U rv ov tp (some m) hf.uM hd);have hj:dg tp/2%(opn τ U).length<(opn τ U).length:=Nat.mod_lt _ (by omega);have hdl:dg tp<=9:=by
     cases tp with
     |nil=>simp[dg]
     |cons c tp=>have:=hd c (by simp);simp[dg];omega
    have hx:∃x:Nat,(opn τ U)[dg tp/2%(opn τ U).length]=(x:Int)/\x<U/\kX τ x=false:=by
     obtain⟨x,h1,h2⟩:=af9.1 (ad8 hj);have h3:=ai3.1 h1;exact⟨x,h2.symm,aj2.1 h3.1,by simpa using h3.2⟩
    obtain⟨x,hx1,hx2,hx3⟩:=hx;obtain⟨g,hg1,hg2⟩:∃g,p=some ⟨g,0,none⟩/\∀W:World,W.heap[g]?=wr.heap[g]?->W.cell? ⟨g,dg tp/2%(opn τ U).length,none⟩=some (.int .i64 x):=by
     obtain⟨_,h2⟩:=hrow;rcases h2 with⟨e,e2⟩|⟨g,cap2,cur,e,_,q3,q4,q5,q6,q7⟩
     ·omega
     ·cases e;refine⟨g,rfl,λW hW=>?_⟩;rw[cell_of (hW.trans q3)];have h1:((opn τ U).map vI)[dg tp/2%(opn τ U).length]?=some (.int .i64 x):=by
       rw[aj8,ad6 hj,hx1];rfl
      rw[<-q7,an2,af6 (by omega)]at h1;simpa using h1
    subst hg1;have hgb:g≠b:=λe=>by have:=(hrow.lt g rfl).1;omega
    have hgl:g<wr.heap.size:=(hrow.lt g rfl).2;have Q2:=aj hf;have Q3:=aj hbw;have HX3:=aj hx3;have HG2:=aj hg2;have HX1:=aj hx1;clear hf hbw hrow hkk hx1 hx3 hg2
    go_wp2_with fail
    refine(ah hdg).mono ?_;rintro e w1 ⟨rfl,hs1,hb1⟩;have hf1:=(ah Q2).ab6 hs1 hb1;have hcg:=ah HG2 w1 (hb1.block g hgl hgb);have hrd:(dg tp:Int)/2%((opn τ U).length:Int)<((opn τ U).length:Int):=Int.emod_lt_of_pos _ (by omega);have hrn:0<=(dg tp:Int)/2%((opn τ U).length:Int):=Int.emod_nonneg _ hzi;have hbv:Hid (∀W,w1.grownBy W none->Calls prog 156 #[.pointer (some ⟨b,0,none⟩),.agg #[.int .i64 x,.bool (decide (dg tp%2=1))],.slice none 0 0] W λe w'=>(∃v,e=.returned v)/\FI w' b U rv ov tp.tail m (τ++[(x,decide (dg tp%2=1),.slice none 0 0,[])]) ak/\W.grownBy w' (some m)):=λW hW=>by
     have hq:x∉τ.map (·.1):=jA.1 (by simpa[kX]using ah HX3);have hf2:=hf1.grown hW;refine(wO W b U _ ov _ m τ (x,decide (dg tp%2=1),.slice none 0 0,[]) hf2.uM hf2.bs (by omega) (by simp only;omega) hq (Or.inl ⟨rfl,rfl⟩)).mono ?_;rintro e w2 ⟨e1,e2,e3⟩;refine⟨e1,hf2.more e3 e2 ?_ hx2,e3⟩;rw[Gn (q:=(x,decide (dg tp%2=1),.slice none 0 0,[])) hq];exact hf2.inv.choose (ah HD) _ (zJ.2 hq)
    have hmod:Hid (decide (dg tp%2=1)=decide ((dg tp:Int)%2=1)):=by
     unfold Hid;by_cases e:dg tp%2=1
     ·have e':(dg tp:Int)%2=1:=(by omega);simp[e,e']
     ·have e':¬(dg tp:Int)%2=1:=(by omega);simp[e,e']
    have HS1:=aj hs1;have HB1:=aj hb1;have HF1:=aj hf1;clear hs1 hb1 hf1 HX1;generalize hon:(opn τ U).length=n at hj hcg hrd hrn hzi hz hln;generalize aaW:dg tp=d at hdl hrd hrn hcg hj hbv hmod;have hun:Hid (unk τ (x,false)=true):=(by simp[Hid,unk,ah HX3]);clear hon;rw[ah hmod]at hbv
    go_wp2_with fail
    refine(ah hbv _ (ah7 _ _)).mono ?_;rintro e w2 ⟨⟨v2,rfl⟩,hf2,hg2⟩;have R2:=aj hf2;have Zq:But (λk=>k=b\/k=m) w w2:=((But.of_below (ah Q3) _).trans ((ah HB1).mono (λk _ e=>Or.inl e))).trans ((But.aA hg2).mono (λk _ e=>Or.inr (by cases e;rfl)));have R3:=aj Zq;clear hf2 hg2 Zq
    go_wp2_with fail
    refine ag3 (v:=.bool true) (by simp[results,results116,go_sem]) rfl ⟨Or.inr ⟨x,rfl,hx2,xq.1 (ah hun),?_⟩,ah R3⟩;rw[aaW,ah hmod];exact ah R2
theorem FZ(W:World)(x:Int)(bi:Bool)(bk k:Nat)(p:Option Addr)(l c C:Nat)(hC:W.cell? ⟨C,0,none⟩=some (.int .i64 k)) :
  Calls prog 159 #[.int .i64 x,.agg #[.bool bi,.int .i64 bk,.slice p l c],.pointer (some ⟨C,0,none⟩)] W λe w'=>e=.returned (.bool (decide (k<=bk)))/\W.grownBy w' none:=by
 have hlt:=ad7 W _ hC;have hC2:=(ad4 W (.cells #[.bool bi,.int .i64 bk,.slice p l c] 215) none).cell hC (by simp);have e:decide (k<=bk)=decide ((k:Int)<=(bk:Int)):=by rw[ar0];omega
 rw[e];clear e
 go_enter func159,ntmps159
 go_wp2_with fail
 go_ret
 exact⟨rfl,ad4 _ _ none⟩
def Yy(k:Nat)(v:Option Value):Bool:=match v with
 |some (Value.int _ z)=>decide ((k:Int)<=z)
 |_=>false
def Fa(k:Nat)(_:Lit)(d:DataW Value):Bool:=match d with
 |.held (Value.agg cs)=>Yy k cs[1]?
 |_=>false
theorem NG{es:List (Lit×DataW Value)}{kl:Lit}{d:DataW Value}(hat:∀zd,(DataW.map es).atKey kl zd=d):∃p∈es,p.1=kl/\p.2=d:=by
 cases e:es.find? (λp=>p.1.sameKey kl)with
 |none=>
  have h1:=hat .nil;have h2:=hat (.held undef);simp only[DataW.atKey,e]at h1 h2;rw[<-h1]at h2;cases h2
 |some p=>
  have h0:=hat .nil;simp only[DataW.atKey,e]at h0;exact⟨p,List.mem_of_find?_eq_some e,WideAt.sameKey_eq (by have h:=List.find?_some e;exact h),h0⟩
theorem Rf(w:World)(m k C:Nat)(τ:List Tr)(hM:kU w m τ)(hC:w.cell? ⟨C,0,none⟩=some (.int .i64 k)) :
  Calls prog 158 #[.map (some m),.func (.func 159) #[] #[.pointer (some ⟨C,0,none⟩)]] w λe w'=>e=.returned (.tuple #[])/\(∃es,es.Perm ((ents τ).filter λp=>!Fa k p.1 p.2)/\w'.ownsMap prog 3 uU m τ.length (.map es))/\w.grownBy w' (some m):=by
 obtain⟨es0,hown,hpe⟩:=hM.map;obtain⟨es',ees,hap,hkeys⟩:=hown.entries dV;cases ees;have hsub:Hid (∀left kl d,(∀zd,(Fk (Fa k) es0 left).atKey kl zd=d)->∃(bi:Bool) (bk:Nat) (p:Option Addr) (l c:Nat),d=.held (.agg #[.bool bi,.int .i64 bk,.slice p l c])):=λleft kl d hat=>by
  obtain⟨p,hp,_,h2⟩:=NG hat;have hp2:=hpe.mem_iff.1 (ai3.1 hp).1;obtain⟨⟨q,j⟩,hq,rfl⟩:=af9.1 hp2;have hj:=(ar5 hq).2.2;obtain⟨p,l,c,e⟩:=hM.shape q (by rw[hj];simp);exact⟨q.2.1,j,p,l,c,by rw[<-h2];simp[I7,oC,e]⟩
 have hnC:C≠m:=λe=>by
  obtain⟨e1,c1,h4,_⟩:=hown;subst e;simp[World.cell?,h4]at hC
 have HPE:=aj hpe;have HC:=aj hC;clear hpe hC hM
 go_enter func158,ntmps158
 go_wp2_with (first
  |(at_range;refine wpList_range_own _ rfl _ 128 rfl 3 215 dV underlying128 uU m τ.length _ rfl hown ?_;intro w0 hrg0 hg0 hs0)
  |go_in)
 go_frame
 go_loopw [8] (λ_ wr=>∃(left:Lit->Bool) (cnt:Nat),wr.ranges prog 3 uU m w.heap.size τ.length (Fk (Fa k) es0 left) left cnt/\w.grownBy wr (some m))
  (λ_ wr=>wr.rangeLeft m w.heap.size)
 case atStart=>exact⟨_,_,by rw[Fk_start hkeys];exact hrg0,hg0.but _⟩
 case round=>
  obtain⟨left,cnt,hrg,hgw⟩:=hrel
  go_wp2_with (first
   |(at_next;refine wpList_next_ranges _ rfl _ rfl 3 dV uU (Value.int .i64) id (λkey kl h=>Fb h) (λv _ _=>⟨v,rfl⟩) m w.heap.size τ.length _ _ _ rfl hrg ?_ ?_)
   |go_in)
  ·intro _ hl0
   go_wp2
   go_end0
   refine⟨rfl,⟨_,(ah HPE).filter _,?_⟩,hgw⟩;have:=hrg.owns;rw[Fk_end hl0]at this;exact this
  ·intro x c kl yd yp w1 cnt1 hkey hlx hv hat hrg1 hlt hg1 hs1 hen;obtain⟨bi,bk,bp,bl,bc,hd⟩:=ah hsub left kl yd hat;have hcv:c=.agg #[.bool bi,.int .i64 bk,.slice bp bl bc]:=by
    unfold uU at hv;rw[hd]at hv;simp at hv;exact hv.1
   subst hcv;have hgw1:=hgw.andThen hg1 (λj hj=>by cases hj;exact Or.inl (ad5 _));have hp0:Fa k kl yd=decide (k<=bk):=by
    rw[hd]
    show decide ((k:Int)<=(bk:Int))=_
    rw[ar0];omega
   have hCw:w1.cell? ⟨C,0,none⟩=some (.int .i64 k):=hgw1.cell (ah HC) (by simpa using hnC);have hgA:w1.grownBy (w1.alloc (.cells #[.bool bi,.int .i64 bk,.slice bp bl bc] 215)) none:=ad4 _ _ none;have hc:=FZ (w1.alloc (.cells #[.bool bi,.int .i64 bk,.slice bp bl bc] 215)) x bi bk k bp bl bc C (hgA.cell hCw (by simp));have hbl:=hrg1.owns.lt;have hrl:=hrg1.lt;have YN:=hrg1.kept hgA (by simp) (by simp);have HCW:=aj hCw;clear hCw hs1;cases hp:decide (k<=bk)<;>rw[hp]at hc hp0
   ·go_wp2_with fail
    refine hc.mono ?_;rintro e w2 ⟨rfl,hg2⟩;have hrg2:=YN.kept hg2 (by simp) (by simp)
    go_wp2_with fail
    go_roundw
    case rel=>exact⟨_,cnt1,by rw[<-Fk_stays hap (dV.key hkey) hlx hp0 hat];exact hrg2,(hgw1.andThen hgA (λj hj=>by cases hj)).andThen hg2 (λj hj=>by cases hj)⟩
    case measure=>rw[hrg2.left_eq,hrg.left_eq];exact hlt
   ·go_wp2_with fail
    refine hc.mono ?_;rintro e w2 ⟨rfl,hg2⟩;have hrg2:=YN.kept hg2 (by simp) (by simp)
    go_wp2_with (first
     |(at_delete;refine wpList_delete_ranges _ rfl _ _ 128 3 rfl 215 dV underlying128 uU m w.heap.size τ.length _ _ _ rfl hrg2 _ _ rfl hkey ?_;intro w3 cnt3 hrg3 hle hturn;go_frame)
     |go_in)
    rw[strike_twice]at hrg3
    go_roundw
    case rel=>exact⟨_,cnt3,by rw[<-Fk_struck hap (dV.key hkey) hlx hp0 hat];exact hrg3,((hgw1.andThen hgA (λj hj=>by cases hj)).andThen hg2 (λj hj=>by cases hj)).andThen hturn.grown (λj hj=>by cases hj;exact Or.inr rfl)⟩
    case measure=>rw[hrg3.left_eq,hrg.left_eq];omega
theorem xR(k:Nat):∀(τ:List Tr) (s:Nat),(τ.zipIdx s).filter (λp=>decide (p.2<k))=(τ.take (k-s)).zipIdx s
 |[],s=>by simp
 |q::τ,s=>by
  rw[List.zipIdx_cons,List.filter_cons];by_cases h:s<k
  ·have e:k-s=(k-(s+1))+1:=(by omega);rw[e,List.take_succ_cons,List.zipIdx_cons];simp only[h,decide_true,al0];rw[xR k τ (s+1)]
  ·have e:k-s=0:=(by omega);have e2:k-(s+1)=0:=(by omega);have ih:=xR k τ (s+1);rw[e2,ao2]at ih;simp only[h,decide_false,an4,an6,e,ao2];exact ih
theorem NH(τ:List Tr)(k:Nat):((ents τ).filter λp=>!Fa k p.1 p.2)=ents (τ.take k):=by
 unfold ents;rw[List.filter_map];have h:=xR k τ 0;rw[Nat.sub_zero]at h;rw[<-h]
 congr 1
 refine List.filter_congr λp _=>?_
 show(!decide ((k:Int)<=(p.2:Int)))=decide (p.2<k)
 by_cases e:k<=p.2
 ·have e1:(k:Int)<=(p.2:Int):=by omega
  have e2:¬p.2<k:=by omega
  simp[e1,e2]
 ·have e1:¬(k:Int)<=(p.2:Int):=by omega
  have e2:p.2<k:=by omega
  simp[e1,e2]
theorem Hq{w:World}{m n n':Nat}{es:List (Lit×DataW Value)}(h:w.ownsMap prog 3 uU m n (.map es))(hn:es.length=n'):w.ownsMap prog 3 uU m n' (.map es):=by
 obtain⟨e,c,h1,h2,h3,h4⟩:=h;refine⟨e,c,h1,h2,?_,h4⟩;cases h4;rw[length_sorted]at hn;simp at hn;omega
theorem XA(i:Bool)(k:Int)(v:Value)(w:World):(Instr.field 215 (.agg #[.bool i,.int .i64 k,v]) 1).run prog w=.ok (.int .i64 k) w:=by kernel_rfl
theorem IX(w:World)(b U:Nat)(rv ov:Value)(tp:List UInt8)(m:Nat)(τ:List Tr)(x k:Nat)(q:Tr)(h:nX w b U rv ov tp (some m))(hB:bD w m τ)(hx:x<=1000)(hf:mD τ x=some (q,k)) :
  Calls prog 119 #[.pointer (some ⟨b,0,none⟩),.int .i64 x] w λe w'=>(∃v,e=.returned v)/\bD w' m (τ.take k)/\w.grownBy w' (some m):=by
 obtain⟨c0,c1,c2,c3,c4⟩:=h.cells;have hrun:=hB.look1 hx;obtain⟨p,l,c,hq⟩:=hB.m.shape q (by obtain⟨_,hk,e⟩:=dG hf;rw[<-e];exact ad8 hk);have hlv:uN τ x=.agg #[.bool q.2.1,.int .i64 k,.slice p l c]:=by simp[uN,hf,oC,hq]
 rw[hlv]at hrun;have hgA:w.grownBy (w.alloc (.cells #[.int .i64 k] 3)) none:=ad4 _ _ none;have hdel:=Rf (w.alloc (.cells #[.int .i64 k] 3)) m k w.heap.size τ (hB.m.kept (hgA.block m hB.lt (by simp))) (by simp[go_sem]);have hc4:(w.alloc (.cells #[.int .i64 k] 3)).cell? ⟨b,4,none⟩=some (.map (some m)):=hgA.cell c4 (by simp);have hnm:jC w m:=hB.og;have hfd:=XA q.2.1 k (.slice p l c) w;have HB:=aj hB;have HGA:=aj hgA;have HN:=aj hnm;clear hlv hB hgA hnm
 go_enter func119,ntmps119
 go_wp2_with fail
 refine hdel.mono ?_;rintro e w1 ⟨rfl,⟨es,hp,hown⟩,hg1⟩;have hg:w.grownBy w1 (some m):=(ah HGA).but (some m)|>.trans hg1;rw[NH]at hp;have hB1:bD w1 m (τ.take k):=by
  have hb:=But.aA hg;have hS:∀j,some j=some m->jC w j:=λj e=>by cases e;exact ah HN
  have hel:es.length=(τ.take k).length:=by rw[hp.length_eq];simp[ents]
  exact⟨⟨es,Hq hown hel,hp⟩,λq hq=>(ah HB).le q (al5 hq),λq hq=>((ah HB).NY q (al5 hq)).but hb hS,by rw[List.map_take];exact(ah HB).nodup.sublist (List.take_sublist _ _)⟩
 have Q1:=aj hB1;have Q2:=aj hg;clear hB1 hg hg1 hp hown
 go_wp2_with fail
 go_end0
 exact⟨⟨_,rfl⟩,ah Q1,ah Q2⟩
end
open aB (put)
theorem tJ{α:Type}[BEq α][LawfulBEq α]{l:List α}{a x:α}:x∈put l a↔x∈l\/x=a:=by
 unfold put;by_cases h:l.contains a=true
 ·rw[af6 h];constructor
  ·exact Or.inl
  ·rintro(h1|rfl)
   ·exact h1
   ·simpa using h
 ·rw[af2 h];simp
def oD(B:List Nat)(r:Rule):List Nat:=r.foldl (λb v=>put b v.1) B
theorem pI{r:Rule}:∀{B:List Nat} {x:Nat},x∈oD B r↔x∈B\/∃v∈r,v.1=x:=by
 induction r with
 |nil=>intro B x;simp[oD]
 |cons v r ih=>
  intro B x
  show x∈oD (put B v.1) r↔_
  rw[ih,tJ];constructor
  ·rintro((h|h)|⟨u,hu,h⟩)
   ·exact Or.inl h
   ·exact Or.inr ⟨v,by simp,h.symm⟩
   ·exact Or.inr ⟨u,by simp[hu],h⟩
  ·rintro(h|⟨u,hu,h⟩)
   ·exact Or.inl (Or.inl h)
   ·rcases ah8.1 hu with e|hu
    ·subst e;exact Or.inl (Or.inr h.symm)
    ·exact Or.inr ⟨u,hu,h⟩
def mG(q:Tr)(st:List Nat×Rule):List Nat×Rule:=
 if st.1.contains q.1 then(oD st.1 q.2.2.2,if q.2.2.2.isEmpty then st.2++[(q.1,!q.2.1)]else st.2)else st
def bst(τ:List Tr)(br:Rule):Nat->List Nat×Rule
 |0=>(oD [] br,[])
 |k+1=>match τ[τ.length-1-k]? with
  |some q=>mG q (bst τ br k)
  |none=>bst τ br k
theorem Gj{τ:List Tr}{br:Rule}{k:Nat}(h:k<τ.length):bst τ br (k+1)=mG (τ[τ.length-1-k]'(by omega)) (bst τ br k):=by
 show(match τ[τ.length-1-k]? with|some q=>mG q (bst τ br k)|none=>bst τ br k)=_
 rw[ad6 (by omega)]
structure BLI(τ:List Tr)(br:Rule)(k:Nat):Prop where
 ch:∀u∈(bst τ br k).2,∃t,τ.length<=t+k/\∃ht:t<τ.length,τ[t].1=u.1/\τ[t].2.1=!u.2/\τ[t].2.2.2=[]
 dn:(bst τ br k).2.Pairwise (λu v=>∃s t,t<s/\∃(hs:s<τ.length) (ht:t<τ.length),τ[s].1=u.1/\τ[t].1=v.1)
 cl:∀t (ht:t<τ.length),τ.length<=t+k->τ[t].1∈(bst τ br k).1->(∀v∈τ[t].2.2.2,v.1∈(bst τ br k).1)/\(τ[t].2.2.2=[]->(τ[t].1,!τ[t].2.1)∈(bst τ br k).2)
 br:∀v∈br,v.1∈(bst τ br k).1
theorem D6{τ:List Tr}{br:Rule}(hn:(τ.map (·.1)).Nodup){ak:List Rule}(hI:Sat.BInv ak (bel τ) τ.length):∀k,k<=τ.length->BLI τ br k:=by
 intro k
 induction k with
 |zero=>
  intro _;refine⟨λu hu=>(by cases hu),List.Pairwise.nil,λt ht h=>by omega,λv hv=>?_⟩;exact pI.2 (Or.inr ⟨v,hv,rfl⟩)
 |succ k ih=>
  intro hk;have h:=ih (by omega);have hk':k<τ.length:=by omega
  obtain⟨t0,ht0⟩:∃t0,t0=τ.length-1-k:=⟨_,rfl⟩;have ht0':t0<τ.length:=by omega
  have hst:=Gj (br:=br) hk';have hbel:bel τ τ[t0].1=some (τ[t0].2.1,t0,τ[t0].2.2.2):=by
   unfold bel;rw[jg hn ht0'];rfl
  have hq:bst τ br (k+1)=mG τ[t0] (bst τ br k):=by rw[hst];congr 1;simp[ht0]
  clear hst;generalize hB:(bst τ br k).1=B at h;by_cases hc:B.contains τ[t0].1=true
  ·have hm:τ[t0].1∈B:=(by simpa using hc);have h1:(bst τ br (k+1)).1=oD B τ[t0].2.2.2:=(by rw[hq];unfold mG;rw[hB,af6 hc]);have h2:(bst τ br (k+1)).2=if τ[t0].2.2.2.isEmpty then(bst τ br k).2++[(τ[t0].1,!τ[t0].2.1)]else(bst τ br k).2:=by rw[hq];unfold mG;rw[hB,af6 hc]
   have hnew:∀x,x∈oD B τ[t0].2.2.2->x∈B\/∃b,bel τ x=some b/\b.2.1<t0:=by
    intro x hx;rcases pI.1 hx with hx|⟨v,hv,rfl⟩
    ·exact Or.inl hx
    ·by_cases hne:τ[t0].2.2.2=[]
     ·rw[hne]at hv;cases hv
     ·obtain⟨_,_,h3⟩:=hI.NY _ _ _ _ hbel hne;by_cases e:v=(τ[t0].1,τ[t0].2.1)
      ·left;rw[e];exact hm
      ·obtain⟨b,g1,_,g3⟩:=h3 v hv e;exact Or.inr ⟨b,g1,g3⟩
   refine⟨?_,?_,?_,?_⟩
   ·intro u hu;rw[h2]at hu;split at hu
    ·rename_i he;rcases ag9.1 hu with hu|hu
     ·obtain⟨t,a1,a2⟩:=h.ch u (by rw[<-hB]at *;exact hu);exact⟨t,by omega,a2⟩
     ·rw[ag0.1 hu];exact⟨t0,by omega,ht0',rfl,by simp,by simpa using he⟩
    ·obtain⟨t,a1,a2⟩:=h.ch u hu;exact⟨t,by omega,a2⟩
   ·rw[h2];split
    ·refine List.pairwise_append.2 ⟨h.dn,by simp,λu hu v hv=>?_⟩;obtain⟨t,a1,ht,a2,_⟩:=h.ch u hu;rw[ag0.1 hv];exact⟨t,t0,by omega,ht,ht0',a2,rfl⟩
    ·exact h.dn
   ·intro t ht htk hx;rw[h1]at hx ⊢;by_cases e:t=t0
    ·subst e;refine⟨λv hv=>pI.2 (Or.inr ⟨v,hv,rfl⟩),λhe=>?_⟩;rw[h2,af6 (by simp[he])];simp
    ·have hxB:τ[t].1∈B:=by
      rcases hnew _ hx with hx|⟨b,g1,g2⟩
      ·exact hx
      ·exfalso;have:bel τ τ[t].1=some (τ[t].2.1,t,τ[t].2.2.2):=(by unfold bel;rw[jg hn ht];rfl);rw[this]at g1;cases g1;simp at g2;omega
     obtain⟨a1,a2⟩:=h.cl t ht (by omega) (by rw[hB];exact hxB);rw[hB]at a1;refine⟨λv hv=>pI.2 (Or.inl (a1 v hv)),λhe=>?_⟩;rw[h2];split
     ·exact ai5 _ (a2 he)
     ·exact a2 he
   ·intro v hv;rw[h1];have:=h.br v hv;rw[hB]at this;exact pI.2 (Or.inl this)
  ·have h1:bst τ br (k+1)=bst τ br k:=(by rw[hq];unfold mG;rw[hB,af2 hc]);refine⟨λu hu=>?_,by rw[h1];exact h.dn,λt ht htk hx=>?_,by rw[h1];exact h.br⟩
   ·rw[h1]at hu;obtain⟨t,a1,a2⟩:=h.ch u hu;exact⟨t,by omega,a2⟩
   ·rw[h1]at hx ⊢;by_cases e:t=t0
    ·subst e;rw[hB]at hx;exact absurd (by simpa using hx) hc
    ·exact h.cl t ht (by omega) hx
def rY(τ:List Tr)(br:Rule):Rule:=(bst τ br τ.length).2
theorem BL{τ:List Tr}{br:Rule}(hn:(τ.map (·.1)).Nodup){ak:List Rule}(hI:Sat.BInv ak (bel τ) τ.length)(hb:br∈ak)(hw:∀v∈br,Sat.wrong (bel τ) v)(α:Nat->Bool)(hα:∀r∈ak,Sat.keeps α r):Sat.keeps α (rY τ br):=by
 have h:=D6 (br:=br) hn hI τ.length (ad5 _);have at_:∀x i k r,bel τ x=some (i,k,r)->∃hk:k<τ.length,τ[k].1=x/\τ[k].2.1=i/\τ[k].2.2.2=r:=λx i k r hx=>by
  unfold bel at hx;cases e:mD τ x with
  |none=>rw[e]at hx;cases hx
  |some q=>
   obtain⟨q,j⟩:=q;rw[e]at hx;cases hx;obtain⟨h1,hk,h2⟩:=dG e;exact⟨hk,by rw[h2];exact h1,by rw[h2],by rw[h2]⟩
 refine hI.blame hb hw (λx=>x∈(bst τ br τ.length).1) h.br (λx i k r hs hx u hu=>?_) (rY τ br) (λx i k hs hx=>?_) α hα
 ·obtain⟨hk,e1,e2,e3⟩:=at_ x i k r hx;exact(h.cl k hk (by omega) (by rw[e1];exact hs)).1 u (by rw[e3];exact hu)
 ·obtain⟨hk,e1,e2,e3⟩:=at_ x i k [] hx;have:=(h.cl k hk (by omega) (by rw[e1];exact hs)).2 e3;rw[e1,e2]at this;exact this
theorem Jo{τ:List Tr}{br:Rule}(hn:(τ.map (·.1)).Nodup){ak:List Rule}(hI:Sat.BInv ak (bel τ) τ.length){u:View}{C:Rule}(hC:rY τ br=u::C):∃(k:Nat) (q:Tr),mD τ u.1=some (q,k)/\Sat.eY (bel τ) (rY τ br) u.1 (!u.2) k:=by
 have h:=D6 (br:=br) hn hI τ.length (ad5 _);have hch:=h.ch;have hdn:=h.dn;change ∀u∈rY τ br,_ at hch;change(rY τ br).Pairwise _ at hdn;obtain⟨t,_,ht,e1,e2,e3⟩:=hch u (by rw[hC];simp);have hf:=jg hn ht;have hbel:∀s (hs:s<τ.length),bel τ τ[s].1=some (τ[s].2.1,s,τ[s].2.2.2):=λs hs=>by unfold bel;rw[jg hn hs];rfl
 refine⟨t,τ[t],by rw[<-e1];exact hf,⟨by rw[<-e1,hbel t ht,e2,e3],by rw[hC];simp,λv hv=>?_⟩⟩;rw[hC]at hv;rcases ah8.1 hv with rfl|hv'
 ·left;simp
 ·right;obtain⟨s,_,hs,f1,f2,f3⟩:=hch v (by rw[hC];exact hv);rw[hC]at hdn;obtain⟨a,b,hab,ha,hb,g1,g2⟩:=(List.pairwise_cons.1 hdn).1 v hv';have inj:∀i j (hi:i<τ.length) (hj:j<τ.length),τ[i].1=τ[j].1->i=j:=λi j hi hj e=>by
   have q1:=jg hn hi;rw[e,jg hn hj]at q1;simp at q1;exact q1.2.symm
  have ea:=inj a t ha ht (by rw[g1,e1]);have eb:=inj b s hb hs (by rw[g2,f1]);refine⟨!v.2,s,by rw[<-f1,hbel s hs,f2,f3],by simp,by omega⟩
theorem RZ{τ:List Tr}{br:Rule}(hn:(τ.map (·.1)).Nodup){ak:List Rule}(hI:Sat.BInv ak (bel τ) τ.length):(rY τ br).Nodup/\(∀u∈rY τ br,∃q∈τ,q.1=u.1/\q.2.1=!u.2)/\((rY τ br).map (·.1)).Nodup:=by
 have h:=D6 (br:=br) hn hI τ.length (ad5 _);have hch:=h.ch;have hdn:=h.dn;change ∀u∈rY τ br,_ at hch;change(rY τ br).Pairwise _ at hdn;have inj:∀i j (hi:i<τ.length) (hj:j<τ.length),τ[i].1=τ[j].1->i=j:=λi j hi hj e=>by
  have q1:=jg hn hi;rw[e,jg hn hj]at q1;simp at q1;exact q1.2.symm
 have h3:((rY τ br).map (·.1)).Nodup:=by
  refine List.pairwise_map.2 (hdn.imp ?_);rintro u v ⟨s,t,hst,hs,ht,e1,e2⟩ e;have:=inj s t hs ht (by rw[e1,e2];exact e);omega
 refine⟨?_,λu hu=>?_,h3⟩
 ·refine(List.pairwise_map.1 h3).imp ?_;intro u v h1 e;subst e;exact h1 rfl
 ·obtain⟨t,_,ht,e1,e2,_⟩:=hch u hu;exact⟨τ[t],ad8 ht,e1,e2⟩
end Go.Proofs.YthcppbmkacbbiabGreat
