import Derived.Test.YthcppbmkacbbiaaGreatZBA
import Derived.Test.YthcppbmkacbbiaaGreatZAY
import Derived.Lib.SlMapFilter
import Derived.Maps.RangeWalk
import Derived.Laws.IdiomRangeMap
import Derived.Deep.LoopGhost
set_option linter.unusedSimpArgs false
set_option maxHeartbeats 4000000
set_option maxRecDepth 100000
namespace Go.Proofs.YthcppbmkacbbiaaGreat
open Go.Proofs.Tryz
open Sat (View Rule jT cZ)
section
open Go.RowKit Go.Maps Go.WideMaps
def opn(τ:List Tr)(k:Nat):List Int:=((List.range k).filter λx=>!mD τ x).map fun(x:Nat)=>(x:Int)
theorem Sl(τ:List Tr)(k:Nat):opn τ (k+1)=opn τ k++if mD τ k then []else [(k:Int)]:=by
 unfold opn;rw[au0,ap9,al7];cases h:mD τ k<;>simp[h]
theorem MO(τ:List Tr)(k:Nat):(opn τ k).length<=k:=by
 unfold opn;rw[am3];exact ah2 (List.length_filter_le _ _) (by simp)
theorem cO.zV{w:World}{rv':Value}{ak:List Rule}(h:cO w rv' ak){b U:Nat}{rv ov:Value}{tp:List UInt8}{m:Option Nat}(hB:o9 w b U rv ov tp m):∀k,rv'.ownBlock=some k->k≠b:=by
 obtain⟨vs,⟨h1,h2⟩,h3⟩:=h;intro k hk e;subst e;rcases h2 with⟨rfl,_⟩|⟨g,cap,cur,rfl,q2,q3,q4⟩
 ·cases hk
 ·cases hk;have:=hB.out.symm.trans q3;simp at this
theorem o9.qC{w:World}{b U:Nat}{rv ov:Value}{tp:List UInt8}{n:Option Nat}(h:o9 w b U rv ov tp n){m:Nat}{τ:List Tr}(hB:bZ w m τ):b≠m:=λe=>by
 obtain⟨es,⟨e1,c1,h4,_⟩,_⟩:=hB.map;have:=h.out;rw[e,h4]at this;cases this
theorem FI.adW{w w':World}{b U:Nat}{rv ov:Value}{tp tp':List UInt8}{m:Nat}{τ:List Tr}{ak:List Rule}(h:FI w b U rv ov tp m τ ak)(hs:o9 w' b U rv ov tp' (some m))(hb:But (λk=>k=b) w w'):FI w' b U rv ov tp' m τ ak:=by
 have hn:∀k,k=b->kH w k:=λk e=>by rw[e];exact h.wE.pz
 exact⟨hs,h.rows.but hb hn (λk hk=>h.rows.zV h.wE k hk),h.bs.but hb hn (λe=>h.wE.qC h.bs e.symm),h.inv,h.lt⟩
def chE(w:World)(b U:Nat)(rv ov:Value)(tp:List UInt8)(m:Nat)(τ:List Tr)(ak:List Rule)(e:Ending):Prop:=
 (e=.returned (.bool false)/\(∀x,x<U->mD τ x=true)/\FI w b U rv ov tp m τ ak)\/
 ∃x,e=.returned (.bool true)/\x<U/\bel τ x=none/\FI w b U rv ov tp.tail m (τ++[(x,decide (dg tp%2=1),.slice none 0 0,[])]) ak
theorem Lj(w:World)(b U:Nat)(rv ov:Value)(tp:List UInt8)(m:Nat)(τ:List Tr)(ak:List Rule)(h:FI w b U rv ov tp m τ ak)(hd:yG tp)(hU:U<=500)(hD:Sat.Done ak (bel τ)) :
  Calls prog 134 #[.pointer (some ⟨b,0,none⟩)] w λe w'=>chE w' b U rv ov tp m τ ak e/\But (λk=>k=b\/k=m) w w':=by
 obtain⟨i0,hin,hz0,hz1,hz2⟩:=am6 Nh;obtain⟨c0,_,_,_,c4⟩:=h.wE.cells;have hbl:=h.wE.lt;have hlk:Hid (∀W:World,Below w.heap.size w W->∀x,x<U->(Instr.lookup 159 (.map (some m)) (.int .i64 x) true).run prog W=.ok (.tuple #[wF τ x,.bool (mD τ x)]) W):=λW hW x hx=>
  (h.grown (dF hW)).bs.look (by omega)
 have HSH:=aj (λx=>h.bs.DC x);have H:=aj h;have HD:=aj hD;have hτ:=h.len;clear h hD
 go_enter func134,ntmps134
 go_wp2_with fail
 go_loopw [3,12] (λo i wr=>∃(k:Nat) (p:Option Addr) (cap:Nat),k<=U/\i=.int .i64 k/\o=.slice p (opn τ k).length cap/\wr.ownsRow w.heap.size 3 1 (.slice p (opn τ k).length cap) (opn τ k).length ((opn τ k).map vI)/\Below w.heap.size w wr) (λ_ i _=>U-(intOf i).toNat)
 case atStart=>exact⟨0,none,0,ah9 _,rfl,rfl,an8 _ _ _ _,ai7 _ _⟩
 case round=>
  obtain⟨k,p,cap,hk,rfl,rfl,hrow,hbw⟩:=hrel;by_cases hlt:k<U
  ·have hbd:(k:Int)<(U:Int):=(by omega);have hc4:wr.cell? ⟨b,4,none⟩=some (.map (some m)):=(by rw[hbw.cell (p:=⟨b,4,none⟩) hbl];exact c4);have hrun:=ah hlk wr hbw k hlt;have hop:=Sl τ k;have hol:=MO τ k;obtain⟨bi,bk,bp,bl,bc,hsh,_⟩:=ah HSH k;rw[hsh]at hrun;have HOP:=aj hop;have gU:=aj hrow;have HBW:=aj hbw;clear hsh hop hrow hbw;cases hko:mD τ k
   ·rw[hko]at HOP hrun;simp only[aq0,aq3]at HOP;clear hko
    go_wp2_with (at_builtin;refine am5 _ rfl _ _ 58 rfl w.heap.size 3 i0 (.int .i64 0) 1 8 underlying58 hin hz0 hz1 hz2 rfl (by decide) (.slice p (opn τ k).length cap) (opn τ k).length ((opn τ k).map vI) rfl (by exact an7 (by exact an7 (by exact ah gU) _) _) ⟨wr.heap.size+1,0,none⟩ 1 1 [vI (k:Int)] rfl rfl (uT _ _ _ _ (by simp)) (WR _) (by unfold maxLen;omega) (by omega) (by have:=(ah HBW).size;simp;omega) ?_;intro v' w3 hown hgrow hnil hloc;obtain⟨b2,p2,hv2⟩:=jX hown;subst hv2)
    have hgr:wr.grownBy _ none:=(ae9 wr (.cells #[.bool bi,.int .i64 bk,.slice bp bl bc] 229) none).trans (ae9 _ (.cells #[vI (k:Int)] 3) none);have hlo:∀j,(Value.slice p (opn τ k).length cap).ownBlock=some j->w.heap.size<=j:=λj e=>((ah gU).lt j e).1;have hb3:Below w.heap.size w w3:=((ah HBW).grown hgr (ah HBW).size (λj e=>by cases e)).grown hgrow (by have:=(ah HBW).size;have:=hgr.size;omega) hlo;refine⟨⟨k+1,b2,p2,hlt,by go_num,?_,?_,hb3⟩,by simp[intOf];omega⟩
    ·rw[ah HOP];simp
    ·rw[ah HOP,ah1,al7];exact hown
   ·rw[hko]at HOP hrun;simp only[am9,an2]at HOP;clear hko
    go_wp2_with fail
    refine⟨⟨k+1,p,cap,hlt,by go_num,by rw[ah HOP],by rw[ah HOP];exact(ah gU).alloc _,(ah HBW).alloc (ah HBW).size _⟩,by simp[intOf];omega⟩
  ·have hkk:k=U:=(by omega);have hbd:¬(k:Int)<(U:Int):=(by omega);have hf:=(ah H).grown (dF hbw);rw[hkk]at hrow ⊢;have hln:=MO τ U;by_cases hz:(opn τ U).length=0
   ·have hall:∀x,x<U->mD τ x=true:=λx hx=>by
     cases e:mD τ x
     ·exfalso;have h1:(x:Int)∈opn τ U:=ah3.2 ⟨x,ak2.2 ⟨aj9.2 hx,by simp[e]⟩,rfl⟩;rw[ai6 hz]at h1;cases h1
     ·rfl
    have Q1:=aj hall;have Q2:=aj hf;have Q3:=aj (But.of_below hbw (λk=>k=b\/k=m));rw[hz];clear hall hf hbw hrow hkk
    go_wp2_with fail
    exact ah7 (v:=.bool false) (by simp[results,results134,go_sem]) rfl ⟨Or.inl ⟨rfl,ah Q1,ah Q2⟩,ah Q3⟩
   ·have hzi:((opn τ U).length:Int)≠0:=(by omega);have hdg:=aj (DW wr b U rv ov tp (some m) hf.wE hd);have hj:dg tp/2%(opn τ U).length<(opn τ U).length:=Nat.mod_lt _ (by omega);have hdl:dg tp<=9:=by
     cases tp with
     |nil=>simp[dg]
     |cons c tp=>have:=hd c (by simp);simp[dg];omega
    have hx:∃x:Nat,(opn τ U)[dg tp/2%(opn τ U).length]=(x:Int)/\x<U/\mD τ x=false:=by
     obtain⟨x,h1,h2⟩:=ah3.1 (af4 hj);have h3:=ak2.1 h1;exact⟨x,h2.symm,aj9.1 h3.1,by simpa using h3.2⟩
    obtain⟨x,hx1,hx2,hx3⟩:=hx;obtain⟨g,hg1,hg2⟩:∃g,p=some ⟨g,0,none⟩/\∀W:World,W.heap[g]?=wr.heap[g]?->W.cell? ⟨g,dg tp/2%(opn τ U).length,none⟩=some (.int .i64 x):=by
     obtain⟨_,h2⟩:=hrow;rcases h2 with⟨e,e2⟩|⟨g,cap2,cur,e,_,q3,q4,q5,q6,q7⟩
     ·omega
     ·cases e;refine⟨g,rfl,λW hW=>?_⟩;rw[cell_of (hW.trans q3)];have h1:((opn τ U).map vI)[dg tp/2%(opn τ U).length]?=some (.int .i64 x):=by
       rw[ak7,af2 hj,hx1];rfl
      rw[<-q7,ao7,af9 (by omega)]at h1;simpa using h1
    subst hg1;have hgb:g≠b:=λe=>by have:=(hrow.lt g rfl).1;omega
    have hgl:g<wr.heap.size:=(hrow.lt g rfl).2;have Q2:=aj hf;have Q3:=aj hbw;have HX3:=aj hx3;have HG2:=aj hg2;have HX1:=aj hx1;clear hf hbw hrow hkk hx1 hx3 hg2
    go_wp2_with fail
    refine(ah hdg).mono ?_;rintro e w1 ⟨rfl,hs1,hb1⟩;have hf1:=(ah Q2).adW hs1 hb1;have hcg:=ah HG2 w1 (hb1.block g hgl hgb);have hrd:(dg tp:Int)/2%((opn τ U).length:Int)<((opn τ U).length:Int):=Int.emod_lt_of_pos _ (by omega);have hrn:0<=(dg tp:Int)/2%((opn τ U).length:Int):=Int.emod_nonneg _ hzi;have hbv:Hid (∀W,w1.grownBy W none->Calls prog 176 #[.pointer (some ⟨b,0,none⟩),.agg #[.int .i64 x,.bool (decide (dg tp%2=1))],.slice none 0 0] W λe w'=>(∃v,e=.returned v)/\FI w' b U rv ov tp.tail m (τ++[(x,decide (dg tp%2=1),.slice none 0 0,[])]) ak/\W.grownBy w' (some m)):=λW hW=>by
     have hq:x∉τ.map (·.1):=kF.1 (by simpa[mD]using ah HX3);have hf2:=hf1.grown hW;refine(yh W b U _ ov _ m τ (x,decide (dg tp%2=1),.slice none 0 0,[]) hf2.wE hf2.bs (by omega) (by simp only;omega) hq (Or.inl ⟨rfl,rfl⟩)).mono ?_;rintro e w2 ⟨e1,e2,e3⟩;refine⟨e1,hf2.more e3 e2 ?_ hx2,e3⟩;rw[II (q:=(x,decide (dg tp%2=1),.slice none 0 0,[])) hq];exact hf2.inv.choose (ah HD) _ (BD.2 hq)
    have hmod:Hid (decide (dg tp%2=1)=decide ((dg tp:Int)%2=1)):=by
     unfold Hid;by_cases e:dg tp%2=1
     ·have e':(dg tp:Int)%2=1:=(by omega);simp[e,e']
     ·have e':¬(dg tp:Int)%2=1:=(by omega);simp[e,e']
    have HS1:=aj hs1;have HB1:=aj hb1;have HF1:=aj hf1;clear hs1 hb1 hf1 HX1;generalize hon:(opn τ U).length=n at hj hcg hrd hrn hzi hz hln;generalize adb:dg tp=d at hdl hrd hrn hcg hj hbv hmod;have hun:Hid (unk τ (x,false)=true):=(by simp[Hid,unk,ah HX3]);clear hon;rw[ah hmod]at hbv
    go_wp2_with fail
    refine(ah hbv _ (aj7 _ _)).mono ?_;rintro e w2 ⟨⟨v2,rfl⟩,hf2,hg2⟩;have R2:=aj hf2;have abz:But (λk=>k=b\/k=m) w w2:=((But.of_below (ah Q3) _).trans ((ah HB1).mono (λk _ e=>Or.inl e))).trans ((But.aB hg2).mono (λk _ e=>Or.inr (by cases e;rfl)));have R3:=aj abz;clear hf2 hg2 abz
    go_wp2_with fail
    refine ah7 (v:=.bool true) (by simp[results,results134,go_sem]) rfl ⟨Or.inr ⟨x,rfl,hx2,yH.1 (ah hun),?_⟩,ah R3⟩;rw[adb,ah hmod];exact ah R2
theorem Il(W:World)(x:Int)(bi:Bool)(bk k:Nat)(p:Option Addr)(l c C:Nat)(hC:W.cell? ⟨C,0,none⟩=some (.int .i64 k)) :
  Calls prog 179 #[.int .i64 x,.agg #[.bool bi,.int .i64 bk,.slice p l c],.pointer (some ⟨C,0,none⟩)] W λe w'=>e=.returned (.bool (decide (k<=bk)))/\W.grownBy w' none:=by
 have hlt:=af5 W _ hC;have hC2:=(ae9 W (.cells #[.bool bi,.int .i64 bk,.slice p l c] 229) none).cell hC (by simp);have e:decide (k<=bk)=decide ((k:Int)<=(bk:Int)):=by rw[decide_eq_decide];omega
 rw[e];clear e
 go_enter func179,ntmps179
 go_wp2_with fail
 go_ret
 exact⟨rfl,ae9 _ _ none⟩
def aaD(k:Nat)(v:Option Value):Bool:=match v with
 |some (Value.int _ z)=>decide ((k:Int)<=z)
 |_=>false
def G9(k:Nat)(_:Lit)(d:DataW Value):Bool:=match d with
 |.held (Value.agg cs)=>aaD k cs[1]?
 |_=>false
theorem P6{es:List (Lit×DataW Value)}{kl:Lit}{d:DataW Value}(hat:∀zd,(DataW.map es).atKey kl zd=d):∃p∈es,p.1=kl/\p.2=d:=by
 cases e:es.find? (λp=>p.1.sameKey kl)with
 |none=>
  have h1:=hat .nil;have h2:=hat (.held undef);simp only[DataW.atKey,e]at h1 h2;rw[<-h1]at h2;cases h2
 |some p=>
  have h0:=hat .nil;simp only[DataW.atKey,e]at h0;exact⟨p,List.mem_of_find?_eq_some e,WideAt.sameKey_eq (by have h:=List.find?_some e;exact h),h0⟩
theorem UZ(w:World)(m k C:Nat)(τ:List Tr)(hM:lY w m τ)(hC:w.cell? ⟨C,0,none⟩=some (.int .i64 k)) :
  Calls prog 178 #[.map (some m),.func (.func 179) #[] #[.pointer (some ⟨C,0,none⟩)]] w λe w'=>e=.returned (.tuple #[])/\(∃es,es.Perm ((ents τ).filter λp=>!G9 k p.1 p.2)/\w'.ownsMap prog 3 wM m τ.length (.map es))/\w.grownBy w' (some m):=by
 obtain⟨es0,hown,hpe⟩:=hM.map;obtain⟨es',ees,hap,hkeys⟩:=hown.entries iH;cases ees;have hsub:Hid (∀left kl d,(∀zd,(Fk (G9 k) es0 left).atKey kl zd=d)->∃(bi:Bool) (bk:Nat) (p:Option Addr) (l c:Nat),d=.held (.agg #[.bool bi,.int .i64 bk,.slice p l c])):=λleft kl d hat=>by
  obtain⟨p,hp,_,h2⟩:=P6 hat;have hp2:=hpe.mem_iff.1 (ak2.1 hp).1;obtain⟨⟨q,j⟩,hq,rfl⟩:=ah3.1 hp2;have hj:=(au1 hq).2.2;obtain⟨p,l,c,e⟩:=hM.shape q (by rw[hj];simp);exact⟨q.2.1,j,p,l,c,by rw[<-h2];simp[KP,pO,e]⟩
 have hnC:C≠m:=λe=>by
  obtain⟨e1,c1,h4,_⟩:=hown;subst e;simp[World.cell?,h4]at hC
 have HPE:=aj hpe;have HC:=aj hC;clear hpe hC hM
 go_enter func178,ntmps178
 go_wp2_with (first
  |(at_range;refine wpList_range_own _ rfl _ 159 rfl 3 229 iH underlying159 wM m τ.length _ rfl hown ?_;intro w0 hrg0 hg0 hs0)
  |go_in)
 go_frame
 go_loopw [8] (λ_ wr=>∃(left:Lit->Bool) (cnt:Nat),wr.ranges prog 3 wM m w.heap.size τ.length (Fk (G9 k) es0 left) left cnt/\w.grownBy wr (some m))
  (λ_ wr=>wr.rangeLeft m w.heap.size)
 case atStart=>exact⟨_,_,by rw[Fk_start hkeys];exact hrg0,hg0.but _⟩
 case round=>
  obtain⟨left,cnt,hrg,hgw⟩:=hrel
  go_wp2_with (first
   |(at_next;refine wpList_next_ranges _ rfl _ rfl 3 iH wM (Value.int .i64) id (λkey kl h=>He h) (λv _ _=>⟨v,rfl⟩) m w.heap.size τ.length _ _ _ rfl hrg ?_ ?_)
   |go_in)
  ·intro _ hl0
   go_wp2
   go_end0
   refine⟨rfl,⟨_,(ah HPE).filter _,?_⟩,hgw⟩;have:=hrg.owns;rw[Fk_end hl0]at this;exact this
  ·intro x c kl yd yp w1 cnt1 hkey hlx hv hat hrg1 hlt hg1 hs1 hen;obtain⟨bi,bk,bp,bl,bc,hd⟩:=ah hsub left kl yd hat;have hcv:c=.agg #[.bool bi,.int .i64 bk,.slice bp bl bc]:=by
    unfold wM at hv;rw[hd]at hv;simp at hv;exact hv.1
   subst hcv;have hgw1:=hgw.andThen hg1 (λj hj=>by cases hj;exact Or.inl (af0 _));have hp0:G9 k kl yd=decide (k<=bk):=by
    rw[hd]
    show decide ((k:Int)<=(bk:Int))=_
    rw[decide_eq_decide];omega
   have hCw:w1.cell? ⟨C,0,none⟩=some (.int .i64 k):=hgw1.cell (ah HC) (by simpa using hnC);have hgA:w1.grownBy (w1.alloc (.cells #[.bool bi,.int .i64 bk,.slice bp bl bc] 229)) none:=ae9 _ _ none;have hc:=Il (w1.alloc (.cells #[.bool bi,.int .i64 bk,.slice bp bl bc] 229)) x bi bk k bp bl bc C (hgA.cell hCw (by simp));have hbl:=hrg1.owns.lt;have hrl:=hrg1.lt;have aaU:=hrg1.kept hgA (by simp) (by simp);have HCW:=aj hCw;clear hCw hs1;cases hp:decide (k<=bk)<;>rw[hp]at hc hp0
   ·go_wp2_with fail
    refine hc.mono ?_;rintro e w2 ⟨rfl,hg2⟩;have hrg2:=aaU.kept hg2 (by simp) (by simp)
    go_wp2_with fail
    go_roundw
    case rel=>exact⟨_,cnt1,by rw[<-Fk_stays hap (iH.key hkey) hlx hp0 hat];exact hrg2,(hgw1.andThen hgA (λj hj=>by cases hj)).andThen hg2 (λj hj=>by cases hj)⟩
    case measure=>rw[hrg2.left_eq,hrg.left_eq];exact hlt
   ·go_wp2_with fail
    refine hc.mono ?_;rintro e w2 ⟨rfl,hg2⟩;have hrg2:=aaU.kept hg2 (by simp) (by simp)
    go_wp2_with (first
     |(at_delete;refine wpList_delete_ranges _ rfl _ _ 159 3 rfl 229 iH underlying159 wM m w.heap.size τ.length _ _ _ rfl hrg2 _ _ rfl hkey ?_;intro w3 cnt3 hrg3 hle hturn;go_frame)
     |go_in)
    rw[strike_twice]at hrg3
    go_roundw
    case rel=>exact⟨_,cnt3,by rw[<-Fk_struck hap (iH.key hkey) hlx hp0 hat];exact hrg3,((hgw1.andThen hgA (λj hj=>by cases hj)).andThen hg2 (λj hj=>by cases hj)).andThen hturn.grown (λj hj=>by cases hj;exact Or.inr rfl)⟩
    case measure=>rw[hrg3.left_eq,hrg.left_eq];omega
theorem zh(k:Nat):∀(τ:List Tr) (s:Nat),(τ.zipIdx s).filter (λp=>decide (p.2<k))=(τ.take (k-s)).zipIdx s
 |[],s=>by simp
 |q::τ,s=>by
  rw[List.zipIdx_cons,List.filter_cons];by_cases h:s<k
  ·have e:k-s=(k-(s+1))+1:=(by omega);rw[e,List.take_succ_cons,List.zipIdx_cons];simp only[h,decide_true,am9];rw[zh k τ (s+1)]
  ·have e:k-s=0:=(by omega);have e2:k-(s+1)=0:=(by omega);have ih:=zh k τ (s+1);rw[e2,ar8]at ih;simp only[h,decide_false,aq0,aq3,e,ar8];exact ih
theorem P7(τ:List Tr)(k:Nat):((ents τ).filter λp=>!G9 k p.1 p.2)=ents (τ.take k):=by
 unfold ents;rw[List.filter_map];have h:=zh k τ 0;rw[Nat.sub_zero]at h;rw[<-h]
 congr 1
 refine List.filter_congr λp _=>?_
 show(!decide ((k:Int)<=(p.2:Int)))=decide (p.2<k)
 by_cases e:k<=p.2
 ·have e1:(k:Int)<=(p.2:Int):=by omega
  have e2:¬p.2<k:=by omega
  simp[e1,e2]
 ·have e1:¬(k:Int)<=(p.2:Int):=by omega
  have e2:p.2<k:=by omega
  simp[e1,e2]
theorem Jw{w:World}{m n n':Nat}{es:List (Lit×DataW Value)}(h:w.ownsMap prog 3 wM m n (.map es))(hn:es.length=n'):w.ownsMap prog 3 wM m n' (.map es):=by
 obtain⟨e,c,h1,h2,h3,h4⟩:=h;refine⟨e,c,h1,h2,?_,h4⟩;cases h4;rw[length_sorted]at hn;simp at hn;omega
theorem ZF(i:Bool)(k:Int)(v:Value)(w:World):(Instr.field 229 (.agg #[.bool i,.int .i64 k,v]) 1).run prog w=.ok (.int .i64 k) w:=by kernel_rfl
theorem KH(w:World)(b U:Nat)(rv ov:Value)(tp:List UInt8)(m:Nat)(τ:List Tr)(x k:Nat)(q:Tr)(h:o9 w b U rv ov tp (some m))(hB:bZ w m τ)(hx:x<=1000)(hf:nK τ x=some (q,k)) :
  Calls prog 137 #[.pointer (some ⟨b,0,none⟩),.int .i64 x] w λe w'=>(∃v,e=.returned v)/\bZ w' m (τ.take k)/\w.grownBy w' (some m):=by
 obtain⟨c0,c1,c2,c3,c4⟩:=h.cells;have hrun:=hB.look1 hx;obtain⟨p,l,c,hq⟩:=hB.m.shape q (by obtain⟨_,hk,e⟩:=dS hf;rw[<-e];exact af4 hk);have hlv:wF τ x=.agg #[.bool q.2.1,.int .i64 k,.slice p l c]:=by simp[wF,hf,pO,hq]
 rw[hlv]at hrun;have hgA:w.grownBy (w.alloc (.cells #[.int .i64 k] 3)) none:=ae9 _ _ none;have hdel:=UZ (w.alloc (.cells #[.int .i64 k] 3)) m k w.heap.size τ (hB.m.kept (hgA.block m hB.lt (by simp))) (by simp[go_sem]);have hc4:(w.alloc (.cells #[.int .i64 k] 3)).cell? ⟨b,4,none⟩=some (.map (some m)):=hgA.cell c4 (by simp);have hnm:kH w m:=hB.pz;have hfd:=ZF q.2.1 k (.slice p l c) w;have HB:=aj hB;have HGA:=aj hgA;have HN:=aj hnm;clear hlv hB hgA hnm
 go_enter func137,ntmps137
 go_wp2_with fail
 refine hdel.mono ?_;rintro e w1 ⟨rfl,⟨es,hp,hown⟩,hg1⟩;have hg:w.grownBy w1 (some m):=(ah HGA).but (some m)|>.trans hg1;rw[P7]at hp;have hB1:bZ w1 m (τ.take k):=by
  have hb:=But.aB hg;have hS:∀j,some j=some m->kH w j:=λj e=>by cases e;exact ah HN
  have hel:es.length=(τ.take k).length:=by rw[hp.length_eq];simp[ents]
  exact⟨⟨es,Jw hown hel,hp⟩,λq hq=>(ah HB).le q (ao1 hq),λq hq=>((ah HB).Qm q (ao1 hq)).but hb hS,by rw[List.map_take];exact(ah HB).nodup.sublist (List.take_sublist _ _)⟩
 have Q1:=aj hB1;have Q2:=aj hg;clear hB1 hg hg1 hp hown
 go_wp2_with fail
 go_end0
 exact⟨⟨_,rfl⟩,ah Q1,ah Q2⟩
end
section
open au (put)
theorem uY{α:Type}[BEq α][LawfulBEq α]{l:List α}{a x:α}:x∈put l a↔x∈l\/x=a:=by
 unfold put;by_cases h:l.contains a=true
 ·rw[af9 h];constructor
  ·exact Or.inl
  ·rintro(h1|rfl)
   ·exact h1
   ·simpa using h
 ·rw[af6 h];simp
def pR(B:List Nat)(r:Rule):List Nat:=r.foldl (λb v=>put b v.1) B
theorem qF{r:Rule}:∀{B:List Nat} {x:Nat},x∈pR B r↔x∈B\/∃v∈r,v.1=x:=by
 induction r with
 |nil=>intro B x;simp[pR]
 |cons v r ih=>
  intro B x
  show x∈pR (put B v.1) r↔_
  rw[ih,uY];constructor
  ·rintro((h|h)|⟨u,hu,h⟩)
   ·exact Or.inl h
   ·exact Or.inr ⟨v,by simp,h.symm⟩
   ·exact Or.inr ⟨u,by simp[hu],h⟩
  ·rintro(h|⟨u,hu,h⟩)
   ·exact Or.inl (Or.inl h)
   ·rcases aj8.1 hu with e|hu
    ·subst e;exact Or.inl (Or.inr h.symm)
    ·exact Or.inr ⟨u,hu,h⟩
def nM(q:Tr)(st:List Nat×Rule):List Nat×Rule:=
 if st.1.contains q.1 then(pR st.1 q.2.2.2,if q.2.2.2.isEmpty then st.2++[(q.1,!q.2.1)]else st.2)else st
def bst(τ:List Tr)(br:Rule):Nat->List Nat×Rule
 |0=>(pR [] br,[])
 |k+1=>match τ[τ.length-1-k]? with
  |some q=>nM q (bst τ br k)
  |none=>bst τ br k
theorem IC{τ:List Tr}{br:Rule}{k:Nat}(h:k<τ.length):bst τ br (k+1)=nM (τ[τ.length-1-k]'(by omega)) (bst τ br k):=by
 show(match τ[τ.length-1-k]? with|some q=>nM q (bst τ br k)|none=>bst τ br k)=_
 rw[af2 (by omega)]
structure BLI(τ:List Tr)(br:Rule)(k:Nat):Prop where
 ch:∀u∈(bst τ br k).2,∃t,τ.length<=t+k/\∃ht:t<τ.length,τ[t].1=u.1/\τ[t].2.1=!u.2/\τ[t].2.2.2=[]
 dn:(bst τ br k).2.Pairwise (λu v=>∃s t,t<s/\∃(hs:s<τ.length) (ht:t<τ.length),τ[s].1=u.1/\τ[t].1=v.1)
 cl:∀t (ht:t<τ.length),τ.length<=t+k->τ[t].1∈(bst τ br k).1->(∀v∈τ[t].2.2.2,v.1∈(bst τ br k).1)/\(τ[t].2.2.2=[]->(τ[t].1,!τ[t].2.1)∈(bst τ br k).2)
 br:∀v∈br,v.1∈(bst τ br k).1
theorem Fz{τ:List Tr}{br:Rule}(hn:(τ.map (·.1)).Nodup){ak:List Rule}(hI:Sat.BInv ak (bel τ) τ.length):∀k,k<=τ.length->BLI τ br k:=by
 intro k
 induction k with
 |zero=>
  intro _;refine⟨λu hu=>(by cases hu),List.Pairwise.nil,λt ht h=>by omega,λv hv=>?_⟩;exact qF.2 (Or.inr ⟨v,hv,rfl⟩)
 |succ k ih=>
  intro hk;have h:=ih (by omega);have hk':k<τ.length:=by omega
  obtain⟨t0,ht0⟩:∃t0,t0=τ.length-1-k:=⟨_,rfl⟩;have ht0':t0<τ.length:=by omega
  have hst:=IC (br:=br) hk';have hbel:bel τ τ[t0].1=some (τ[t0].2.1,t0,τ[t0].2.2.2):=by
   unfold bel;rw[jQ hn ht0'];rfl
  have hq:bst τ br (k+1)=nM τ[t0] (bst τ br k):=by rw[hst];congr 1;simp[ht0]
  clear hst;generalize hB:(bst τ br k).1=B at h;by_cases hc:B.contains τ[t0].1=true
  ·have hm:τ[t0].1∈B:=(by simpa using hc);have h1:(bst τ br (k+1)).1=pR B τ[t0].2.2.2:=(by rw[hq];unfold nM;rw[hB,af9 hc]);have h2:(bst τ br (k+1)).2=if τ[t0].2.2.2.isEmpty then(bst τ br k).2++[(τ[t0].1,!τ[t0].2.1)]else(bst τ br k).2:=by rw[hq];unfold nM;rw[hB,af9 hc]
   have hnew:∀x,x∈pR B τ[t0].2.2.2->x∈B\/∃b,bel τ x=some b/\b.2.1<t0:=by
    intro x hx;rcases qF.1 hx with hx|⟨v,hv,rfl⟩
    ·exact Or.inl hx
    ·by_cases hne:τ[t0].2.2.2=[]
     ·rw[hne]at hv;cases hv
     ·obtain⟨_,_,h3⟩:=hI.Qm _ _ _ _ hbel hne;by_cases e:v=(τ[t0].1,τ[t0].2.1)
      ·left;rw[e];exact hm
      ·obtain⟨b,g1,_,g3⟩:=h3 v hv e;exact Or.inr ⟨b,g1,g3⟩
   refine⟨?_,?_,?_,?_⟩
   ·intro u hu;rw[h2]at hu;split at hu
    ·rename_i he;rcases ai3.1 hu with hu|hu
     ·obtain⟨t,a1,a2⟩:=h.ch u (by rw[<-hB]at *;exact hu);exact⟨t,by omega,a2⟩
     ·rw[ah6.1 hu];exact⟨t0,by omega,ht0',rfl,by simp,by simpa using he⟩
    ·obtain⟨t,a1,a2⟩:=h.ch u hu;exact⟨t,by omega,a2⟩
   ·rw[h2];split
    ·refine List.pairwise_append.2 ⟨h.dn,by simp,λu hu v hv=>?_⟩;obtain⟨t,a1,ht,a2,_⟩:=h.ch u hu;rw[ah6.1 hv];exact⟨t,t0,by omega,ht,ht0',a2,rfl⟩
    ·exact h.dn
   ·intro t ht htk hx;rw[h1]at hx ⊢;by_cases e:t=t0
    ·subst e;refine⟨λv hv=>qF.2 (Or.inr ⟨v,hv,rfl⟩),λhe=>?_⟩;rw[h2,af9 (by simp[he])];simp
    ·have hxB:τ[t].1∈B:=by
      rcases hnew _ hx with hx|⟨b,g1,g2⟩
      ·exact hx
      ·exfalso;have:bel τ τ[t].1=some (τ[t].2.1,t,τ[t].2.2.2):=(by unfold bel;rw[jQ hn ht];rfl);rw[this]at g1;cases g1;simp at g2;omega
     obtain⟨a1,a2⟩:=h.cl t ht (by omega) (by rw[hB];exact hxB);rw[hB]at a1;refine⟨λv hv=>qF.2 (Or.inl (a1 v hv)),λhe=>?_⟩;rw[h2];split
     ·exact ak9 _ (a2 he)
     ·exact a2 he
   ·intro v hv;rw[h1];have:=h.br v hv;rw[hB]at this;exact qF.2 (Or.inl this)
  ·have h1:bst τ br (k+1)=bst τ br k:=(by rw[hq];unfold nM;rw[hB,af6 hc]);refine⟨λu hu=>?_,by rw[h1];exact h.dn,λt ht htk hx=>?_,by rw[h1];exact h.br⟩
   ·rw[h1]at hu;obtain⟨t,a1,a2⟩:=h.ch u hu;exact⟨t,by omega,a2⟩
   ·rw[h1]at hx ⊢;by_cases e:t=t0
    ·subst e;rw[hB]at hx;exact absurd (by simpa using hx) hc
    ·exact h.cl t ht (by omega) hx
def tY(τ:List Tr)(br:Rule):Rule:=(bst τ br τ.length).2
theorem D5{τ:List Tr}{br:Rule}(hn:(τ.map (·.1)).Nodup){ak:List Rule}(hI:Sat.BInv ak (bel τ) τ.length)(hb:br∈ak)(hw:∀v∈br,Sat.wrong (bel τ) v)(α:Nat->Bool)(hα:∀r∈ak,Sat.keeps α r):Sat.keeps α (tY τ br):=by
 have h:=Fz (br:=br) hn hI τ.length (af0 _);have at_:∀x i k r,bel τ x=some (i,k,r)->∃hk:k<τ.length,τ[k].1=x/\τ[k].2.1=i/\τ[k].2.2.2=r:=λx i k r hx=>by
  unfold bel at hx;cases e:nK τ x with
  |none=>rw[e]at hx;cases hx
  |some q=>
   obtain⟨q,j⟩:=q;rw[e]at hx;cases hx;obtain⟨h1,hk,h2⟩:=dS e;exact⟨hk,by rw[h2];exact h1,by rw[h2],by rw[h2]⟩
 refine hI.blame hb hw (λx=>x∈(bst τ br τ.length).1) h.br (λx i k r hs hx u hu=>?_) (tY τ br) (λx i k hs hx=>?_) α hα
 ·obtain⟨hk,e1,e2,e3⟩:=at_ x i k r hx;exact(h.cl k hk (by omega) (by rw[e1];exact hs)).1 u (by rw[e3];exact hu)
 ·obtain⟨hk,e1,e2,e3⟩:=at_ x i k [] hx;have:=(h.cl k hk (by omega) (by rw[e1];exact hs)).2 e3;rw[e1,e2]at this;exact this
theorem Lp{τ:List Tr}{br:Rule}(hn:(τ.map (·.1)).Nodup){ak:List Rule}(hI:Sat.BInv ak (bel τ) τ.length){u:View}{C:Rule}(hC:tY τ br=u::C):∃(k:Nat) (q:Tr),nK τ u.1=some (q,k)/\Sat.fQ (bel τ) (tY τ br) u.1 (!u.2) k:=by
 have h:=Fz (br:=br) hn hI τ.length (af0 _);have hch:=h.ch;have hdn:=h.dn;change ∀u∈tY τ br,_ at hch;change(tY τ br).Pairwise _ at hdn;obtain⟨t,_,ht,e1,e2,e3⟩:=hch u (by rw[hC];simp);have hf:=jQ hn ht;have hbel:∀s (hs:s<τ.length),bel τ τ[s].1=some (τ[s].2.1,s,τ[s].2.2.2):=λs hs=>by unfold bel;rw[jQ hn hs];rfl
 refine⟨t,τ[t],by rw[<-e1];exact hf,⟨by rw[<-e1,hbel t ht,e2,e3],by rw[hC];simp,λv hv=>?_⟩⟩;rw[hC]at hv;rcases aj8.1 hv with rfl|hv'
 ·left;simp
 ·right;obtain⟨s,_,hs,f1,f2,f3⟩:=hch v (by rw[hC];exact hv);rw[hC]at hdn;obtain⟨a,b,hab,ha,hb,g1,g2⟩:=(List.pairwise_cons.1 hdn).1 v hv';have inj:∀i j (hi:i<τ.length) (hj:j<τ.length),τ[i].1=τ[j].1->i=j:=λi j hi hj e=>by
   have q1:=jQ hn hi;rw[e,jQ hn hj]at q1;simp at q1;exact q1.2.symm
  have ea:=inj a t ha ht (by rw[g1,e1]);have eb:=inj b s hb hs (by rw[g2,f1]);refine⟨!v.2,s,by rw[<-f1,hbel s hs,f2,f3],by simp,by omega⟩
theorem Vz{τ:List Tr}{br:Rule}(hn:(τ.map (·.1)).Nodup){ak:List Rule}(hI:Sat.BInv ak (bel τ) τ.length):(tY τ br).Nodup/\(∀u∈tY τ br,∃q∈τ,q.1=u.1/\q.2.1=!u.2)/\((tY τ br).map (·.1)).Nodup:=by
 have h:=Fz (br:=br) hn hI τ.length (af0 _);have hch:=h.ch;have hdn:=h.dn;change ∀u∈tY τ br,_ at hch;change(tY τ br).Pairwise _ at hdn;have inj:∀i j (hi:i<τ.length) (hj:j<τ.length),τ[i].1=τ[j].1->i=j:=λi j hi hj e=>by
  have q1:=jQ hn hi;rw[e,jQ hn hj]at q1;simp at q1;exact q1.2.symm
 have h3:((tY τ br).map (·.1)).Nodup:=by
  refine List.pairwise_map.2 (hdn.imp ?_);rintro u v ⟨s,t,hst,hs,ht,e1,e2⟩ e;have:=inj s t hs ht (by rw[e1,e2];exact e);omega
 refine⟨?_,λu hu=>?_,h3⟩
 ·refine(List.pairwise_map.1 h3).imp ?_;intro u v h1 e;subst e;exact h1 rfl
 ·obtain⟨t,_,ht,e1,e2,_⟩:=hch u hu;exact⟨τ[t],af4 ht,e1,e2⟩
end
namespace au
structure gy(cs:List (Int×Nat))(ps:List Key):Prop where
 letter:∀q∈ps,q.1=80\/q.1=81->∃h:q.2.1<cs.length,cs[q.2.1].1=q.1
 has:∀c (h:c<cs.length),(cs[c].1,c,0)∈ps
def isAtom(c:Int):Bool:=decide (c=61\/c=80\/c=81)
def cnt(p:Int->Bool)(ps:List Key):Nat:=ps.countP λq=>p q.1
theorem Bj(p:Int->Bool)(ps:List Key)(q:Key):cnt p (put ps q)<=cnt p ps+(if p q.1 then 1 else 0):=by
 unfold cnt put;split
 ·omega
 ·rw[List.countP_append];simp only[ar9,List.countP_nil,ap0];exact af0 _
def Gm(a:Nat)(cs:List (Int×Nat))(ps:List Key):RP->Prop
 |.error _=>True
 |.ok (a1,_,cs1,ps1,_)=>a<a1/\6*cnt aA ps1+3+a<=6*cnt aA ps+a1/\3*(cnt aA ps1+cnt isAtom ps1)+a<=3*(cnt aA ps+cnt isAtom ps)+a1/\(gy cs ps->gy cs1 ps1)
theorem gy.wO{cs:List (Int×Nat)}{ps:List Key}(h:gy cs ps){q:Key}(hq:¬(q.1=80\/q.1=81)):gy cs (put ps q):=by
 refine⟨λp hp hc=>?_,λc hc=>?_⟩
 ·unfold put at hp;split at hp
  ·exact h.letter p hp hc
  ·rcases ai3.1 hp with hp|hp
   ·exact h.letter p hp hc
   ·rw[ah6.1 hp]at hc;exact absurd hc hq
 ·unfold put;split
  ·exact h.has c hc
  ·exact ak9 _ (h.has c hc)
theorem gy.OA{cs:List (Int×Nat)}{ps:List Key}(h:gy cs ps)(k:Int×Nat):gy (put cs k) (put ps (k.1,cs.idxOf k,0)):=by
 have hsub:∀c (hc:c<cs.length),∃h':c<(put cs k).length,(put cs k)[c]=cs[c]:=λc hc=>by
  unfold put;split
  ·exact⟨hc,rfl⟩
  ·exact⟨by simp;omega,al5 hc⟩
 have hidx:∃h':cs.idxOf k<(put cs k).length,(put cs k)[cs.idxOf k]=k:=by
  unfold put;split
  ·rename_i hc;have hm:k∈cs:=(by simpa using hc);exact⟨am1.2 hm,aj6 _⟩
  ·rename_i hc;have hm:k∉cs:=(by simpa using hc);have e:=ak0 hm;refine⟨by rw[e];simp,?_⟩;simp[e]
 have hpm:∀p,p∈put ps (k.1,cs.idxOf k,0)↔p∈ps\/p=(k.1,cs.idxOf k,0):=λp=>by
  unfold put;split
  ·rename_i hc;constructor
   ·exact Or.inl
   ·rintro(h1|rfl)
    ·exact h1
    ·simpa using hc
  ·simp
 refine⟨λq hq hc=>?_,λc hc=>?_⟩
 ·rcases(hpm q).1 hq with hq|rfl
  ·obtain⟨h1,h2⟩:=h.letter q hq hc;obtain⟨h3,h4⟩:=hsub _ h1;exact⟨h3,by rw[h4];exact h2⟩
  ·obtain⟨h1,h2⟩:=hidx;exact⟨h1,by simp only;rw[h2]⟩
 ·by_cases hlt:c<cs.length
  ·obtain⟨h3,h4⟩:=hsub c hlt;rw[h4];exact(hpm _).2 (Or.inl (h.has c hlt))
  ·have hn:¬cs.contains k=true:=by
    intro hc2;unfold put at hc;rw[af9 hc2]at hc;exact hlt hc
   have hm:k∉cs:=(by simpa using hn);have hle:c=cs.length:=by
    unfold put at hc;rw[af6 hn]at hc;simp at hc;omega
   have e:=ak0 hm;obtain⟨h1,h2⟩:=hidx;have e2:c=cs.idxOf k:=(by omega);subst e2;refine(hpm _).2 (Or.inr ?_);rw[h2]
section
variable {pk:Nat->Int} {N:Nat}
theorem uD{a a1:Nat}{cs cs1:List (Int×Nat)}{ps ps1 aK:List Key}{q:Key}(h1:a<a1)
 (hj:6*(cnt aA ps1+(if aA q.1 then 1 else 0))+3+a<=6*cnt aA ps+a1)
 (hs:3*(cnt aA ps1+(if aA q.1 then 1 else 0)+(cnt isAtom ps1+(if isAtom q.1 then 1 else 0)))+a<=3*(cnt aA ps+cnt isAtom ps)+a1)
 (hk:gy cs ps->gy cs1 (put ps1 q)):Gm a cs ps (sF (.ok (a1,aK,cs1,ps1,q))):=by
 have e1:=Bj aA ps1 q;have e2:=Bj isAtom ps1 q;exact⟨h1,by omega,by omega,hk⟩
theorem Rl(hpk:∀a,pk a≠0->a<N):∀(n a d:Nat) (ts:List Key) (cs:List (Int×Nat)) (ps:List Key),a<=N->Gm a cs ps (jq pk n a d ts cs ps):=by
 intro n
 induction n with
 |zero=>intro a d ts cs ps _;trivial
 |succ n ih=>
  intro a d ts cs ps ha;unfold jq;split
  ·rename_i e;have hl:=hpk a (by omega);have h:=ih (a+1) d ts cs ps (by omega);rcases hR:jq pk n (a+1) d ts cs ps with e|⟨a1,aK,cs1,ps1,m⟩
   ·trivial
   ·rw[hR]at h;obtain⟨h1,h2,h3,h4⟩:=h;refine uD (by omega) (by simp[aA];omega) (by simp[aA,isAtom];omega) (λhk=>(h4 hk).wO (by simp))
  ·split
   ·rename_i e;have hl:=hpk a (by omega);unfold Oy;split
    ·trivial
    ·have h:=ih (a+1) (d+1) ts cs ps (by omega);have hF:=ou hpk n (a+1) (d+1) ts cs (by omega);rw[<-lM pk n (a+1) (d+1) ts cs ps]at hF;rcases hR:jq pk n (a+1) (d+1) ts cs ps with e|⟨a1,aK,cs1,ps1,m1⟩
     ·trivial
     ·rw[hR]at h hF;obtain⟨h1,h2,h3,h4⟩:=h;obtain⟨g1,g2,_⟩:=hF
      show Gm a cs ps (sF (if aA (pk a1)=true then _ else _))
      split
      ·rename_i hj;have hl1:=hpk a1 (λe=>by rw[e]at hj;simp[aA]at hj);have h':=ih (a1+1) (d+1) aK cs1 ps1 (by omega);rcases hR2:jq pk n (a1+1) (d+1) aK cs1 ps1 with e|⟨a2,ts2,cs2,ps2,m2⟩
       ·trivial
       ·rw[hR2]at h';obtain⟨k1,k2,k3,k4⟩:=h'
        show Gm a cs ps (sF (if pk a2=41 then _ else _))
        split
        ·have hna:isAtom (pk a1)=false:=by
          simp[aA]at hj;simp[isAtom];omega
         have hn8:¬(pk a1=80\/pk a1=81):=by
          simp[aA]at hj;omega
         exact uD (by omega) (by simp only[hj,am9];omega) (by simp only[hj,hna,am9];simp;omega) (λhk=>(k4 (h4 hk)).wO hn8)
        ·trivial
      ·trivial
   ·split
    ·rename_i e8;have hl:=hpk a (by omega);have h':=jd hpk (rec:=fF pk (n+1)) (a:=a+1) (d:=d) (ts:=ts) (by omega) (λh40=>dI hpk _ _ _ _ (by have:=hpk (a+1) (by omega);omega));have h4:∀a1 aK m,arg1 pk (fF pk (n+1)) (a+1) d ts=.ok (a1,aK,m)->a+4<=a1:=by
      intro a1 aK m hA;unfold arg1 at hA;split at hA
      ·rename_i h40;have hl2:=hpk (a+1) (by omega);have h5:=dI hpk (n+1) (a+1+1) (d+1) ts (by omega);split at hA
       ·cases hA
       ·rcases hR3:fF pk (n+1) (a+1+1) (d+1) ts with e|⟨b1,us1,m3⟩
        ·rw[hR3]at hA;cases hA
        ·rw[hR3]at hA h5;obtain⟨p1,_⟩:=h5;simp only at hA;split at hA
         ·cases hA;omega
         ·cases hA
      ·cases hA
     unfold Wv;rcases hR:arg1 pk (fF pk (n+1)) (a+1) d ts with e|⟨a1,aK,m⟩
     ·trivial
     ·have h5:=h4 _ _ _ hR;have hnj:aA (pk a)=false:=by
       rcases e8 with e|e<;>(rw[e];decide)
      have hat:isAtom (pk a)=true:=by
       rcases e8 with e|e<;>(rw[e];decide)
      exact uD (by omega) (by simp only[hnj];simp;omega) (by simp only[hnj,hat,am9];simp;omega) (λhk=>hk.OA _)
    ·have h:=dI hpk (n+1) a d ts ha;unfold Eh;rcases hR:fF pk (n+1) a d ts with e|⟨a1,aK,m1⟩
     ·trivial
     ·rw[hR]at h;obtain⟨p1,p2,p3,p4,p5⟩:=h
      show Gm a cs ps (sF (if pk a1=61 then _ else _))
      split
      ·rename_i h61;have hl1:=hpk a1 (by omega);have h2:=dI hpk (n+1) (a1+1) d aK (by omega);rcases hR2:fF pk (n+1) (a1+1) d aK with e|⟨a2,ts2,m2⟩
       ·trivial
       ·rw[hR2]at h2;obtain⟨q1,q2,q3,q4,q5⟩:=h2;exact uD (by omega) (by simp[aA];omega) (by simp[aA,isAtom];omega) (λhk=>hk.wO (by simp))
      ·trivial
end
end au
end Go.Proofs.YthcppbmkacbbiaaGreat
