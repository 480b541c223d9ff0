import Derived.Test.YthcppbmkacbbiabGreatVAV
import Derived.Test.YthcppbmkacbbiabGreatVAT
import Derived.Lib.SlMapFilter
import Derived.Maps.RangeWalk
import Derived.Laws.IdiomRangeMap
import Derived.Deep.LoopGhost
set_option linter.unusedSimpArgs false
set_option maxHeartbeats 4000000
set_option maxRecDepth 100000
namespace Go.Proofs.YthcppbmkacbbiabGreat
open Go.Proofs.Tryz
open Sat (View Rule og dN)
section
open Go.RowKit Go.Maps Go.WideMaps
def opn(τ:List Tr)(k:Nat):List Int:=((List.range k).filter λx=>!sS τ x).map fun(x:Nat)=>(x:Int)
theorem acp(τ:List Tr)(k:Nat):opn τ (k+1)=opn τ k++if sS τ k then []else [(k:Int)]:=by
 unfold opn;rw[aA8,ay6,au0];cases h:sS τ k<;>simp[h]
theorem X8(τ:List Tr)(k:Nat):(opn τ k).length<=k:=by
 unfold opn;rw[au3];exact ap3 (List.length_filter_le _ _) R
theorem dM.Jk{w:World}{rv':Value}{ak:List Rule}(h:dM w rv' ak){b U:Nat}{rv ov:Value}{tp:List UInt8}{m:Option Nat}(hB:xB w b U rv ov tp m):∀k,rv'.ownBlock=some k->k≠b:=by
 obtain⟨vs,⟨I,M⟩,h3⟩:=h;intro k hk e;subst e;obtain⟨rfl,_⟩|⟨g,cap,cur,rfl,q2,q3,q4⟩:=M
 ·cases hk
 ·cases hk;have:=hB.out.symm.trans q3;simp at this
theorem xB.yE{w:World}{b U:Nat}{rv ov:Value}{tp:List UInt8}{n:Option Nat}(h:xB w b U rv ov tp n){m:Nat}{τ:List Tr}(hB:dJ w m τ):b≠m:=λe=>by
 obtain⟨es,⟨e1,c1,h4,_⟩,_⟩:=hB.map;have:=h.out;rw[e,h4]at this;cases this
theorem FI.ama{w w':World}{b U:Nat}{rv ov:Value}{tp tp':List UInt8}{m:Nat}{τ:List Tr}{ak:List Rule}(h:FI w b U rv ov tp m τ ak)(hs:xB w' b U rv ov tp' (some m))(hb:But (λk=>k=b) w w'):FI w' b U rv ov tp' m τ ak:=by
 have hn:∀k,k=b->o9 w k:=λk e=>by rw[e];exact h.Ey.xG
 exact⟨hs,h.rows.but hb hn (λk hk=>h.rows.Jk h.Ey k hk),h.bs.but hb hn (λe=>h.Ey.yE h.bs e.symm),h.inv,h.lt⟩
def chE(w:World)(b U:Nat)(rv ov:Value)(tp:List UInt8)(m:Nat)(τ:List Tr)(ak:List Rule)(e:Ending):Prop:=
 (e=.returned (.bool false)/\(∀x,x<U->sS τ x=true)/\FI w b U rv ov tp m τ ak)\/
 ∃x,e=.returned (.bool true)/\x<U/\bel τ x=none/\FI w b U rv ov tp.tail m (τ++[(x,decide (dg tp%2=1),.slice none 0 0,[])]) ak
theorem Xg(w:World)(b U:Nat)(rv ov:Value)(tp:List UInt8)(m:Nat)(τ:List Tr)(ak:List Rule)(h:FI w b U rv ov tp m τ ak)(hd:Hl tp)(hU:U<=500)(hD:Sat.Done ak (bel τ)) :
  Calls prog 116 #[Aa b 0] w λe w'=>chE w' b U rv ov tp m τ ak e/\But (λk=>k=b\/k=m) w w':=by
 obtain⟨i0,gK,jR,ig,jy⟩:=au5 Sm;obtain⟨c0,_,_,_,c4⟩:=h.Ey.cells;have mg:=h.Ey.lt;have qJ:Hid (∀W:World,Below w.heap.size w W->∀x,x<U->(Instr.lookup 128 (.map (some m)) (A x) true).run prog W=.ok (.tuple #[Ez τ x,.bool (sS τ x)]) W):=λW hW x hx=>
  (h.grown (dX hW)).bs.look O
 have HSH:=F (λx=>h.bs.Ny x);have H:=F h;have HD:=F hD;have hτ:=h.len;clear h hD
 go_in
 go_wp2_with fail
 go_loopw [3,12] (λo i wr=>∃(k:Nat) (p:Option Addr) (cap:Nat),k<=U/\i=A k/\o=.slice p (opn τ k).length cap/\wr.ownsRow w.heap.size 3 1 (.slice p (opn τ k).length cap) (opn τ k).length ((opn τ k).map vI)/\Ag w wr) (λ_ i _=>U-(intOf i).toNat)
 case atStart=>exact⟨0,none,0,ap7 _,rfl,rfl,aw9 _ _ _ _,aq1 _ _⟩
 case round=>
  obtain⟨k,p,cap,hk,rfl,rfl,aS,rQ⟩:=hrel;by_cases hlt:k<U
  ·have iF:(k:Int)<(U:Int):=O;have Tz:wr.cell? (J b 4)=some (.map (some m)):=(by rw[rQ.cell (p:=(J b 4)) mg];exact c4);have iW:=Z qJ wr rQ k hlt;have VU:=acp τ k;have hol:=X8 τ k;obtain⟨bi,bk,bp,bl,bc,hsh,_⟩:=Z HSH k;rw[hsh]at iW;have HOP:=F VU;have jo:=F aS;have FV:=F rQ;clear hsh VU aS rQ;cases hko:sS τ k
   ·rw[hko]at HOP iW;simp only[ay7,az0]at HOP;clear hko
    go_wp2_with (at_builtin;refine av6 _ rfl _ _ 164 rfl w.heap.size 3 i0 (A 0) 1 8 underlying164 gK jR ig jy rfl ane (.slice p (opn τ k).length cap) (opn τ k).length ((opn τ k).map vI) rfl (by exact aw7 (by exact aw7 (by exact Z jo) _) _) (J (wr.heap.size+1) 0) 1 1 [vI (k:Int)] rfl rfl (Dw _ _ _ _ R) (aeZ _) anj O (by have:=(Z FV).size;simp;omega) ?_;intro v' w3 aH dG fC AB;obtain⟨b2,p2,BD⟩:=oC aH;subst BD)
    have jS:wr.grownBy _ none:=(an1 wr (.cells #[.bool bi,A bk,.slice bp bl bc] 215) none).trans (an1 _ (.cells #[vI (k:Int)] 3) none);have hlo:∀j,(Value.slice p (opn τ k).length cap).ownBlock=some j->w.heap.size<=j:=λj e=>((Z jo).lt j e).1;have iR:Below w.heap.size w w3:=((Z FV).grown jS (Z FV).size (λj e=>by cases e)).grown dG (by have:=(Z FV).size;have:=jS.size;omega) hlo;refine⟨⟨k+1,b2,p2,hlt,by go_num,?_,?_,iR⟩,by simp[intOf];omega⟩
    ·rw[Z HOP];simp
    ·rw[Z HOP,ap4,au0];exact aH
   ·rw[hko]at HOP iW;simp only[av8,av7]at HOP;clear hko
    go_wp2_with fail
    refine⟨⟨k+1,p,cap,hlt,by go_num,by rw[Z HOP],by rw[Z HOP];exact(Z jo).alloc _,(Z FV).alloc (Z FV).size _⟩,by simp[intOf];omega⟩
  ·have gW:k=U:=O;have iF:¬(k:Int)<(U:Int):=O;have hf:=(Z H).grown (dX rQ);rw[gW]at aS ⊢;have hln:=X8 τ U;by_cases hz:(opn τ U).length=0
   ·have aX:∀x,x<U->sS τ x=true:=λx hx=>by
     cases e:sS τ x
     ·exfalso;have I:(x:Int)∈opn τ U:=ap6.2 ⟨x,as6.2 ⟨as2.2 hx,by simp[e]⟩,rfl⟩;rw[aq9 hz]at I;cases I
     ·rfl
    have Q1:=F aX;have Q2:=F hf;have Q3:=F (But.of_below rQ (λk=>k=b\/k=m));rw[hz];clear aX hf rQ aS gW
    go_wp2_with fail
    exact aq0 (v:=.bool false) (by simp[results,results116,go_sem]) rfl ⟨Or.inl ⟨rfl,Z Q1,Z Q2⟩,Z Q3⟩
   ·have hzi:((opn τ U).length:Int)≠0:=O;have hdg:=F (Oc wr b U rv ov tp (some m) hf.Ey hd);have hj:dg tp/2%(opn τ U).length<(opn τ U).length:=Nat.mod_lt _ O;have Tq:dg tp<=9:=by
     cases tp with
     |nil=>simp[dg]
     |cons c tp=>have:=hd c R;simp[dg];omega
    have hx:∃x:Nat,(opn τ U)[dg tp/2%(opn τ U).length]=(x:Int)/\x<U/\sS τ x=false:=by
     obtain⟨x,I,M⟩:=ap6.1 (an5 hj);have h3:=as6.1 I;exact⟨x,M.symm,as2.1 h3.1,by simpa using h3.2⟩
    obtain⟨x,nN,mM,qh⟩:=hx;obtain⟨g,bG,dh⟩:∃g,p=some (J g 0)/\∀W:World,W.heap[g]?=wr.heap[g]?->W.cell? ⟨g,dg tp/2%(opn τ U).length,none⟩=some (A x):=by
     obtain⟨_,M⟩:=aS;obtain⟨e,e2⟩|⟨g,xO,cur,e,_,q3,q4,q5,q6,q7⟩:=M
     ·omega
     ·cases e;refine⟨g,rfl,λW hW=>?_⟩;rw[cell_of (hW.trans q3)];have I:((opn τ U).map vI)[dg tp/2%(opn τ U).length]?=some (A x):=by
       rw[as1,an3 hj,nN];rfl
      rw[<-q7,av5,ao4 O]at I;simpa using I
    subst bG;have fD:g≠b:=λe=>by have:=(aS.lt g rfl).1;omega
    have D5:g<wr.heap.size:=(aS.lt g rfl).2;have Q2:=F hf;have Q3:=F rQ;have HX3:=F qh;have HG2:=F dh;have HX1:=F nN;clear hf rQ aS gW nN qh dh
    go_wp2_with fail
    refine(Z hdg).mono ?_;rintro e w1 ⟨rfl,oI,iD⟩;have Ik:=(Z Q2).ama oI iD;have zN:=Z HG2 w1 (iD.block g D5 fD);have hrd:(dg tp:Int)/2%((opn τ U).length:Int)<((opn τ U).length:Int):=Int.emod_lt_of_pos _ O;have hrn:0<=(dg tp:Int)/2%((opn τ U).length:Int):=Int.emod_nonneg _ hzi;have UM:Hid (∀W,w1.grownBy W none->Calls prog 156 #[Aa b 0,.agg #[A x,.bool (decide (dg tp%2=1))],.slice none 0 0] W λe w'=>(∃v,e=.returned v)/\FI w' b U rv ov tp.tail m (τ++[(x,decide (dg tp%2=1),.slice none 0 0,[])]) ak/\W.grownBy w' (some m)):=λW hW=>by
     have hq:x∉τ.map (·.1):=oW.1 (by simpa[sS]using Z HX3);have tX:=Ik.grown hW;refine(Gy W b U _ ov _ m τ (x,decide (dg tp%2=1),.slice none 0 0,[]) tX.Ey tX.bs O ang hq (Or.inl ⟨rfl,rfl⟩)).mono ?_;rintro e w2 ⟨e1,e2,e3⟩;refine⟨e1,tX.more e3 e2 ?_ mM,e3⟩;rw[Ul (q:=(x,decide (dg tp%2=1),.slice none 0 0,[])) hq];exact tX.inv.choose (Z HD) _ (KC.2 hq)
    have aaE:Hid (decide (dg tp%2=1)=decide ((dg tp:Int)%2=1)):=by
     unfold Hid;by_cases e:dg tp%2=1
     ·have e':(dg tp:Int)%2=1:=O;simp[e,e']
     ·have e':¬(dg tp:Int)%2=1:=O;simp[e,e']
    have MW:=F oI;have HB1:=F iD;have HF1:=F Ik;clear oI iD Ik HX1;generalize hon:(opn τ U).length=n at hj zN hrd hrn hzi hz hln;generalize alB:dg tp=d at Tq hrd hrn zN hj UM aaE;have hun:Hid (unk τ (x,false)=true):=(by simp[Hid,unk,Z HX3]);clear hon;rw[Z aaE]at UM
    go_wp2_with fail
    refine(Z UM _ (as8 _ _)).mono ?_;rintro e w2 ⟨⟨v2,rfl⟩,tX,dh⟩;have R2:=F tX;have ajV:But (λk=>k=b\/k=m) w w2:=((But.of_below (Z Q3) _).trans ((Z HB1).mono (λk _ e=>Or.inl e))).trans ((But.aC dh).mono (λk _ e=>Or.inr (by cases e;rfl)));have R3:=F ajV;clear tX dh ajV
    go_wp2_with fail
    refine aq0 (v:=.bool true) (by simp[results,results116,go_sem]) rfl ⟨Or.inr ⟨x,rfl,mM,Ho.1 (Z hun),?_⟩,Z R3⟩;rw[alB,Z aaE];exact Z R2
theorem TT(W:World)(x:Int)(bi:Bool)(bk k:Nat)(p:Option Addr)(l c C:Nat)(hC:W.cell? (J C 0)=some (A k)) :
  Calls prog 159 #[A x,.agg #[.bool bi,A bk,.slice p l c],Aa C 0] W λe w'=>e=.returned (.bool (decide (k<=bk)))/\W.grownBy w' none:=by
 have hlt:=an4 W _ hC;have jG:=(an1 W (.cells #[.bool bi,A bk,.slice p l c] 215) none).cell hC R;have e:decide (k<=bk)=decide ((k:Int)<=(bk:Int)):=by rw[aB7];omega
 rw[e]
 go_in
 go_wp2_with fail
 go_ret
 exact⟨rfl,an1 _ _ none⟩
def aiI(k:Nat)(v:Option Value):Bool:=match v with
 |some (Value.int _ z)=>decide ((k:Int)<=z)
 |_=>false
def RV(k:Nat)(_:Lit)(d:DataW Value):Bool:=match d with
 |.held (Value.agg cs)=>aiI k cs[1]?
 |_=>false
theorem aaS{es:List (Lit×DataW Value)}{kl:Lit}{d:DataW Value}(gU:∀zd,(DataW.map es).atKey kl zd=d):∃p∈es,p.1=kl/\p.2=d:=by
 cases e:es.find? (λp=>p.1.sameKey kl)with
 |none=>
  have I:=gU .nil;have M:=gU (.held undef);simp only[DataW.atKey,e]at I M;rw[<-I]at M;cases M
 |some p=>
  have h0:=gU .nil;simp only[DataW.atKey,e]at h0;exact⟨p,List.mem_of_find?_eq_some e,WideAt.sameKey_eq (by have h:=List.find?_some e;exact h),h0⟩
theorem adR(w:World)(m k C:Nat)(τ:List Tr)(hM:rZ w m τ)(hC:w.cell? (J C 0)=some (A k)) :
  Calls prog 158 #[.map (some m),.func (.func 159) #[] #[Aa C 0]] w λe w'=>e=.returned (.tuple #[])/\(∃es,es.Perm ((ents τ).filter λp=>!RV k p.1 p.2)/\w'.ownsMap prog 3 ES m τ.length (.map es))/\w.grownBy w' (some m):=by
 obtain⟨es0,aH,hpe⟩:=hM.map;obtain⟨es',ees,MF,ajF⟩:=aH.entries iO;cases ees;have Ar:Hid (∀left kl d,(∀zd,(Fk (RV k) es0 left).atKey kl zd=d)->∃(bi:Bool) (bk:Nat) (p:Option Addr) (l c:Nat),d=.held (.agg #[.bool bi,.int .i64 bk,.slice p l c])):=λleft kl d gU=>by
  obtain⟨p,hp,_,M⟩:=aaS gU;have uZ:=hpe.mem_iff.1 (as6.1 hp).1;obtain⟨⟨q,j⟩,hq,rfl⟩:=ap6.1 uZ;have hj:=(aC0 hq).2.2;obtain⟨p,l,c,e⟩:=hM.shape q (by rw[hj];simp);exact⟨q.2.1,j,p,l,c,by rw[<-M];simp[WU,xP,e]⟩
 have hnC:C≠m:=λe=>by
  obtain⟨e1,c1,h4,_⟩:=aH;subst e;simp[World.cell?,h4]at hC
 have HPE:=F hpe;have HC:=F hC
 go_in
 go_wp2_with (first
  |(at_range;refine wpList_range_own _ rfl _ 128 rfl 3 215 iO underlying128 ES m τ.length _ rfl aH ?_;intro w0 ald Ql hs0)
  |go_in)
 go_frame
 go_loopw [8] (λ_ wr=>∃(left:Lit->Bool) (cnt:Nat),wr.ranges prog 3 ES m w.heap.size τ.length (Fk (RV k) es0 left) left cnt/\w.grownBy wr (some m))
  (λ_ wr=>wr.rangeLeft m w.heap.size)
 case atStart=>exact⟨_,_,by rw[Fk_start ajF];exact ald,Ql.but _⟩
 case round=>
  obtain⟨left,cnt,Yn,EF⟩:=hrel
  go_wp2_with (first
   |(at_next;refine wpList_next_ranges _ rfl _ rfl 3 iO ES (Value.int .i64) id (λkey kl h=>RX h) (λv _ _=>⟨v,rfl⟩) m w.heap.size τ.length _ _ _ rfl Yn ?_ ?_)
   |go_in)
  ·intro _ NS
   go_wp2
   go_end0
   refine⟨rfl,⟨_,(Z HPE).filter _,?_⟩,EF⟩;have:=Yn.owns;rw[Fk_end NS]at this;exact this
  ·intro x c kl yd yp w1 al9 aV hlx hv gU agZ hlt bG oI hen;obtain⟨bi,bk,bp,bl,bc,hd⟩:=Z Ar left kl yd gU;have hcv:c=.agg #[.bool bi,.int .i64 bk,.slice bp bl bc]:=by
    unfold ES at hv;rw[hd]at hv;simp at hv;exact hv.1
   subst hcv;have ahf:=EF.andThen bG (λj hj=>by cases hj;exact Or.inl (an2 _));have hp0:RV k kl yd=decide (k<=bk):=by
    rw[hd]
    show decide ((k:Int)<=(bk:Int))=_
    rw[aB7];omega
   have hCw:w1.cell? (J C 0)=some (A k):=ahf.cell (Z HC) (by simpa using hnC);have jd:w1.grownBy (w1.alloc (.cells #[.bool bi,.int .i64 bk,.slice bp bl bc] 215)) none:=an1 _ _ none;have hc:=TT (w1.alloc (.cells #[.bool bi,.int .i64 bk,.slice bp bl bc] 215)) x bi bk k bp bl bc C (jd.cell hCw R);have mg:=agZ.owns.lt;have OW:=agZ.lt;have aja:=agZ.kept jd R R;have HCW:=F hCw;cases hp:decide (k<=bk)<;>rw[hp]at hc hp0
   ·go_wp2_with fail
    refine hc.mono ?_;rintro e w2 ⟨rfl,dh⟩;have LY:=aja.kept dh R R
    go_wp2_with fail
    go_roundw
    case rel=>exact⟨_,al9,by rw[<-Fk_stays MF (iO.key aV) hlx hp0 gU];exact LY,(ahf.andThen jd (λj hj=>by cases hj)).andThen dh (λj hj=>by cases hj)⟩
    case measure=>rw[LY.left_eq,Yn.left_eq];exact hlt
   ·go_wp2_with fail
    refine hc.mono ?_;rintro e w2 ⟨rfl,dh⟩;have LY:=aja.kept dh R R
    go_wp2_with (first
     |(at_delete;refine wpList_delete_ranges _ rfl _ _ 128 3 rfl 215 iO underlying128 ES m w.heap.size τ.length _ _ _ rfl LY _ _ rfl aV ?_;intro w3 al8 BI hle aiT;go_frame)
     |go_in)
    rw[strike_twice]at BI
    go_roundw
    case rel=>exact⟨_,al8,by rw[<-Fk_struck MF (iO.key aV) hlx hp0 gU];exact BI,((ahf.andThen jd (λj hj=>by cases hj)).andThen dh (λj hj=>by cases hj)).andThen aiT.grown (λj hj=>by cases hj;exact Or.inr rfl)⟩
    case measure=>rw[BI.left_eq,Yn.left_eq];omega
theorem IG(k:Nat):∀(τ:List Tr) (s:Nat),(τ.zipIdx s).filter (λp=>decide (p.2<k))=(τ.take (k-s)).zipIdx s
 |[],s=>R
 |q::τ,s=>by
  rw[List.zipIdx_cons,List.filter_cons];by_cases h:s<k
  ·have e:k-s=(k-(s+1))+1:=O;rw[e,List.take_succ_cons,List.zipIdx_cons];simp only[h,decide_true,av8];rw[IG k τ (s+1)]
  ·have e:k-s=0:=O;have e2:k-(s+1)=0:=O;have ih:=IG k τ (s+1);rw[e2,az5]at ih;simp only[h,decide_false,ay7,az0,e,az5];exact ih
theorem aaT(τ:List Tr)(k:Nat):((ents τ).filter λp=>!RV k p.1 p.2)=ents (τ.take k):=by
 unfold ents;rw[List.filter_map];have h:=IG k τ 0;rw[Nat.sub_zero]at h;rw[<-h]
 congr 1
 refine List.filter_congr λp _=>?_
 show(!decide ((k:Int)<=(p.2:Int)))=decide (p.2<k)
 by_cases e:k<=p.2
 ·have e1:(k:Int)<=(p.2:Int):=O
  have e2:¬p.2<k:=O
  simp[e1,e2]
 ·have e1:¬(k:Int)<=(p.2:Int):=O
  have e2:p.2<k:=O
  simp[e1,e2]
theorem Vr{w:World}{m n n':Nat}{es:List (Lit×DataW Value)}(h:w.ownsMap prog 3 ES m n (.map es))(hn:es.length=n'):w.ownsMap prog 3 ES m n' (.map es):=by
 obtain⟨e,c,I,M,h3,h4⟩:=h;refine⟨e,c,I,M,?_,h4⟩;cases h4;rw[length_sorted]at hn;simp at hn;omega
theorem ahR(i:Bool)(k:Int)(v:Value)(w:World):(Instr.field 215 (.agg #[.bool i,A k,v]) 1).run prog w=.ok (A k) w:=by kernel_rfl
theorem WO(w:World)(b U:Nat)(rv ov:Value)(tp:List UInt8)(m:Nat)(τ:List Tr)(x k:Nat)(q:Tr)(h:xB w b U rv ov tp (some m))(hB:dJ w m τ)(hx:x<=1000)(hf:uS τ x=some (q,k)) :
  Calls prog 119 #[Aa b 0,A x] w λe w'=>(∃v,e=.returned v)/\dJ w' m (τ.take k)/\w.grownBy w' (some m):=by
 obtain⟨c0,c1,c2,c3,c4⟩:=h.cells;have iW:=hB.look1 hx;obtain⟨p,l,c,hq⟩:=hB.m.shape q (by obtain⟨_,hk,e⟩:=fV hf;rw[<-e];exact an5 hk);have hlv:Ez τ x=.agg #[.bool q.2.1,A k,.slice p l c]:=by simp[Ez,hf,xP,hq]
 rw[hlv]at iW;have jd:w.grownBy (w.alloc (.cells #[A k] 3)) none:=an1 _ _ none;have alC:=adR (w.alloc (.cells #[A k] 3)) m k w.heap.size τ (hB.m.kept (jd.block m hB.lt R)) (by simp[go_sem]);have Tz:(w.alloc (.cells #[A k] 3)).cell? (J b 4)=some (.map (some m)):=jd.cell c4 R;have Lh:o9 w m:=hB.xG;have hfd:=ahR q.2.1 k (.slice p l c) w;have HB:=F hB;have HGA:=F jd;have HN:=F Lh
 go_in
 go_wp2_with fail
 refine alC.mono ?_;rintro e w1 ⟨rfl,⟨es,hp,aH⟩,bG⟩;have hg:w.grownBy w1 (some m):=(Z HGA).but (some m)|>.trans bG;rw[aaT]at hp;have NZ:dJ w1 m (τ.take k):=by
  have hb:=But.aC hg;have hS:∀j,some j=some m->o9 w j:=λj e=>by cases e;exact Z HN
  have hel:es.length=(τ.take k).length:=by rw[hp.length_eq];simp[ents]
  exact⟨⟨es,Vr aH hel,hp⟩,λq hq=>(Z HB).le q (au8 hq),λq hq=>((Z HB).by_ q (au8 hq)).but hb hS,by rw[List.map_take];exact(Z HB).nodup.sublist (List.take_sublist _ _)⟩
 have Q1:=F NZ;have Q2:=F hg
 go_wp2_with fail
 go_end0
 exact⟨⟨_,rfl⟩,Z Q1,Z Q2⟩
end
open au (put)
theorem DC{α:Type}[BEq α][LawfulBEq α]{l:List α}{a x:α}:x∈put l a↔x∈l\/x=a:=by
 unfold put;by_cases h:l.contains a=true
 ·rw[ao4 h];constructor
  ·exact Or.inl
  ·rintro(I|rfl)
   ·exact I
   ·simpa using h
 ·rw[an8 h];simp
def xQ(B:List Nat)(r:Rule):List Nat:=r.foldl (λb v=>put b v.1) B
theorem yG{r:Rule}:∀{B:List Nat} {x:Nat},x∈xQ B r↔x∈B\/∃v∈r,v.1=x:=by
 induction r with
 |nil=>intro B x;simp[xQ]
 |cons v r ih=>
  intro B x
  show x∈xQ (put B v.1) r↔_
  rw[ih,DC];constructor
  ·rintro((h|h)|⟨u,hu,h⟩)
   ·exact Or.inl h
   ·exact Or.inr ⟨v,R,h.symm⟩
   ·exact Or.inr ⟨u,by simp[hu],h⟩
  ·rintro(h|⟨u,hu,h⟩)
   ·exact Or.inl (Or.inl h)
   ·obtain e|hu:=ar9.1 hu
    ·subst e;exact Or.inl (Or.inr h.symm)
    ·exact Or.inr ⟨u,hu,h⟩
def uU(q:Tr)(st:List Nat×Rule):List Nat×Rule:=
 if st.1.contains q.1 then(xQ st.1 q.2.2.2,if q.2.2.2.isEmpty then st.2++[(q.1,!q.2.1)]else st.2)else st
def bst(τ:List Tr)(br:Rule):Nat->List Nat×Rule
 |0=>(xQ [] br,[])
 |k+1=>match τ[τ.length-1-k]? with
  |some q=>uU q (bst τ br k)
  |none=>bst τ br k
theorem Ui{τ:List Tr}{br:Rule}{k:Nat}(h:k<τ.length):bst τ br (k+1)=uU (τ[τ.length-1-k]'O) (bst τ br k):=by
 show(match τ[τ.length-1-k]? with|some q=>uU q (bst τ br k)|none=>bst τ br k)=_
 rw[an3 O]
structure BLI(τ:List Tr)(br:Rule)(k:Nat):Prop where
 ch:∀u∈(bst τ br k).2,∃t,τ.length<=t+k/\∃ht:t<τ.length,τ[t].1=u.1/\τ[t].2.1=!u.2/\τ[t].2.2.2=[]
 dn:(bst τ br k).2.Pairwise (λu v=>∃s t,t<s/\∃(hs:s<τ.length) (ht:t<τ.length),τ[s].1=u.1/\τ[t].1=v.1)
 cl:∀t (ht:t<τ.length),τ.length<=t+k->τ[t].1∈(bst τ br k).1->(∀v∈τ[t].2.2.2,v.1∈(bst τ br k).1)/\(τ[t].2.2.2=[]->(τ[t].1,!τ[t].2.1)∈(bst τ br k).2)
 br:∀v∈br,v.1∈(bst τ br k).1
theorem Qc{τ:List Tr}{br:Rule}(hn:(τ.map (·.1)).Nodup){ak:List Rule}(hI:Sat.BInv ak (bel τ) τ.length):∀k,k<=τ.length->BLI τ br k:=by
 intro k
 induction k with
 |zero=>
  intro _;refine⟨λu hu=>(by cases hu),List.Pairwise.nil,λt ht h=>O,λv hv=>?_⟩;exact yG.2 (Or.inr ⟨v,hv,rfl⟩)
 |succ k ih=>
  intro hk;have h:=ih O;have iQ:k<τ.length:=O
  obtain⟨t0,ht0⟩:∃t0,t0=τ.length-1-k:=⟨_,rfl⟩;have agQ:t0<τ.length:=O
  have oP:=Ui (br:=br) iQ;have JQ:bel τ τ[t0].1=some (τ[t0].2.1,t0,τ[t0].2.2.2):=by
   unfold bel;rw[nU hn agQ];rfl
  have hq:bst τ br (k+1)=uU τ[t0] (bst τ br k):=by rw[oP];congr 1;simp[ht0]
  generalize hB:(bst τ br k).1=B at h;by_cases hc:B.contains τ[t0].1=true
  ·have hm:τ[t0].1∈B:=(by simpa using hc);have I:(bst τ br (k+1)).1=xQ B τ[t0].2.2.2:=(by rw[hq];unfold uU;rw[hB,ao4 hc]);have M:(bst τ br (k+1)).2=if τ[t0].2.2.2.isEmpty then(bst τ br k).2++[(τ[t0].1,!τ[t0].2.1)]else(bst τ br k).2:=by rw[hq];unfold uU;rw[hB,ao4 hc]
   have OZ:∀x,x∈xQ B τ[t0].2.2.2->x∈B\/∃b,bel τ x=some b/\b.2.1<t0:=by
    intro x hx;obtain hx|⟨v,hv,rfl⟩:=yG.1 hx
    ·exact Or.inl hx
    ·by_cases bg:τ[t0].2.2.2=[]
     ·rw[bg]at hv;cases hv
     ·obtain⟨_,_,h3⟩:=hI.by_ _ _ _ _ JQ bg;by_cases e:v=(τ[t0].1,τ[t0].2.1)
      ·left;rw[e];exact hm
      ·obtain⟨b,g1,_,g3⟩:=h3 v hv e;exact Or.inr ⟨b,g1,g3⟩
   refine⟨?_,?_,?_,?_⟩
   ·intro u hu;rw[M]at hu;split at hu
    ·rename_i he;obtain hu|hu:=aq7.1 hu
     ·obtain⟨t,a1,a2⟩:=h.ch u (by rw[<-hB]at *;exact hu);exact⟨t,O,a2⟩
     ·rw[ap8.1 hu];exact⟨t0,O,agQ,rfl,R,by simpa using he⟩
    ·obtain⟨t,a1,a2⟩:=h.ch u hu;exact⟨t,O,a2⟩
   ·rw[M];split
    ·refine List.pairwise_append.2 ⟨h.dn,R,λu hu v hv=>?_⟩;obtain⟨t,a1,ht,a2,_⟩:=h.ch u hu;rw[ap8.1 hv];exact⟨t,t0,O,ht,agQ,a2,rfl⟩
    ·exact h.dn
   ·intro t ht kT hx;rw[I]at hx ⊢;by_cases e:t=t0
    ·subst e;refine⟨λv hv=>yG.2 (Or.inr ⟨v,hv,rfl⟩),λhe=>?_⟩;rw[M,ao4 (by simp[he])];simp
    ·have hxB:τ[t].1∈B:=by
      obtain hx|⟨b,g1,g2⟩:=OZ _ hx
      ·exact hx
      ·exfalso;have:bel τ τ[t].1=some (τ[t].2.1,t,τ[t].2.2.2):=(by unfold bel;rw[nU hn ht];rfl);rw[this]at g1;cases g1;simp at g2;omega
     obtain⟨a1,a2⟩:=h.cl t ht O (by rw[hB];exact hxB);rw[hB]at a1;refine⟨λv hv=>yG.2 (Or.inl (a1 v hv)),λhe=>?_⟩;rw[M];split
     ·exact as9 _ (a2 he)
     ·exact a2 he
   ·intro v hv;rw[I];have:=h.br v hv;rw[hB]at this;exact yG.2 (Or.inl this)
  ·have I:bst τ br (k+1)=bst τ br k:=(by rw[hq];unfold uU;rw[hB,an8 hc]);refine⟨λu hu=>?_,by rw[I];exact h.dn,λt ht kT hx=>?_,by rw[I];exact h.br⟩
   ·rw[I]at hu;obtain⟨t,a1,a2⟩:=h.ch u hu;exact⟨t,O,a2⟩
   ·rw[I]at hx ⊢;by_cases e:t=t0
    ·subst e;rw[hB]at hx;exact absurd (by simpa using hx) hc
    ·exact h.cl t ht O hx
def Cj(τ:List Tr)(br:Rule):Rule:=(bst τ br τ.length).2
theorem Oi{τ:List Tr}{br:Rule}(hn:(τ.map (·.1)).Nodup){ak:List Rule}(hI:Sat.BInv ak (bel τ) τ.length)(hb:br∈ak)(hw:∀v∈br,Sat.wrong (bel τ) v)(α:Nat->Bool)(hα:∀r∈ak,Sat.keeps α r):Sat.keeps α (Cj τ br):=by
 have h:=Qc (br:=br) hn hI τ.length (an2 _);have at_:∀x i k r,bel τ x=some (i,k,r)->∃hk:k<τ.length,τ[k].1=x/\τ[k].2.1=i/\τ[k].2.2.2=r:=λx i k r hx=>by
  unfold bel at hx;cases e:uS τ x with
  |none=>rw[e]at hx;cases hx
  |some q=>
   obtain⟨q,j⟩:=q;rw[e]at hx;cases hx;obtain⟨I,hk,M⟩:=fV e;exact⟨hk,by rw[M];exact I,by rw[M],by rw[M]⟩
 refine hI.blame hb hw (λx=>x∈(bst τ br τ.length).1) h.br (λx i k r hs hx u hu=>?_) (Cj τ br) (λx i k hs hx=>?_) α hα
 ·obtain⟨hk,e1,e2,e3⟩:=at_ x i k r hx;exact(h.cl k hk O (by rw[e1];exact hs)).1 u (by rw[e3];exact hu)
 ·obtain⟨hk,e1,e2,e3⟩:=at_ x i k [] hx;have:=(h.cl k hk O (by rw[e1];exact hs)).2 e3;rw[e1,e2]at this;exact this
theorem Xk{τ:List Tr}{br:Rule}(hn:(τ.map (·.1)).Nodup){ak:List Rule}(hI:Sat.BInv ak (bel τ) τ.length){u:View}{C:Rule}(hC:Cj τ br=u::C):∃(k:Nat) (q:Tr),uS τ u.1=some (q,k)/\Sat.jq (bel τ) (Cj τ br) u.1 (!u.2) k:=by
 have h:=Qc (br:=br) hn hI τ.length (an2 _);have Qn:=h.ch;have hdn:=h.dn;change ∀u∈Cj τ br,_ at Qn;change(Cj τ br).Pairwise _ at hdn;obtain⟨t,_,ht,e1,e2,e3⟩:=Qn u (by rw[hC];simp);have hf:=nU hn ht;have JQ:∀s (hs:s<τ.length),bel τ τ[s].1=some (τ[s].2.1,s,τ[s].2.2.2):=λs hs=>by unfold bel;rw[nU hn hs];rfl
 refine⟨t,τ[t],by rw[<-e1];exact hf,⟨by rw[<-e1,JQ t ht,e2,e3],by rw[hC];simp,λv hv=>?_⟩⟩;rw[hC]at hv;obtain rfl|Sr:=ar9.1 hv
 ·left;simp
 ·right;obtain⟨s,_,hs,f1,f2,f3⟩:=Qn v (by rw[hC];exact hv);rw[hC]at hdn;obtain⟨a,b,hab,ha,hb,g1,g2⟩:=(List.pairwise_cons.1 hdn).1 v Sr;have inj:∀i j (hi:i<τ.length) (hj:j<τ.length),τ[i].1=τ[j].1->i=j:=λi j hi hj e=>by
   have q1:=nU hn hi;rw[e,nU hn hj]at q1;simp at q1;exact q1.2.symm
  have ea:=inj a t ha ht (by rw[g1,e1]);have eb:=inj b s hb hs (by rw[g2,f1]);refine⟨!v.2,s,by rw[<-f1,JQ s hs,f2,f3],R,O⟩
theorem ael{τ:List Tr}{br:Rule}(hn:(τ.map (·.1)).Nodup){ak:List Rule}(hI:Sat.BInv ak (bel τ) τ.length):(Cj τ br).Nodup/\(∀u∈Cj τ br,∃q∈τ,q.1=u.1/\q.2.1=!u.2)/\((Cj τ br).map (·.1)).Nodup:=by
 have h:=Qc (br:=br) hn hI τ.length (an2 _);have Qn:=h.ch;have hdn:=h.dn;change ∀u∈Cj τ br,_ at Qn;change(Cj τ br).Pairwise _ at hdn;have inj:∀i j (hi:i<τ.length) (hj:j<τ.length),τ[i].1=τ[j].1->i=j:=λi j hi hj e=>by
  have q1:=nU hn hi;rw[e,nU hn hj]at q1;simp at q1;exact q1.2.symm
 have h3:((Cj τ br).map (·.1)).Nodup:=by
  refine List.pairwise_map.2 (hdn.imp ?_);rintro u v ⟨s,t,oP,hs,ht,e1,e2⟩ e;have:=inj s t hs ht (by rw[e1,e2];exact e);omega
 refine⟨?_,λu hu=>?_,h3⟩
 ·refine(List.pairwise_map.1 h3).imp ?_;intro u v I e;subst e;exact I rfl
 ·obtain⟨t,_,ht,e1,e2,_⟩:=Qn u hu;exact⟨τ[t],an5 ht,e1,e2⟩
end Go.Proofs.YthcppbmkacbbiabGreat
