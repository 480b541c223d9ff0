import Derived.Test.YthcppbmkacbbiaaGreatXAT
set_option linter.unusedSimpArgs false
set_option maxHeartbeats 4000000
set_option maxRecDepth 100000
namespace Go.Proofs.YthcppbmkacbbiaaGreat
open Go.Proofs.Tryz
open Go.RowKit Go.Maps Go.WideMaps
section
open Sat (View Rule je bG)
def unk(τ:List Tr)(v:View):Bool:=!kT τ v.1
def Eb(τ:List Tr)(v:View):Bool:=match lZ τ v.1 with
 |some q=>q.1.2.1==v.2
 |none=>false
def dN(τ:List Tr)(r:Rule):View:=(r.filter (unk τ)).getLastD (0,false)
theorem Gz{τ:List Tr}{r:Rule}{k:Nat}(hk:k<r.length):dN τ (r.take (k+1))=if unk τ r[k]then r[k]else dN τ (r.take k):=by
 unfold dN;rw[af6,ab4 hk,al0];by_cases h:unk τ r[k]=true<;>simp[h]
theorem MP{τ:List Tr}{r:Rule}{k:Nat}(hk:k<r.length):((r.take (k+1)).filter (unk τ)).length=((r.take k).filter (unk τ)).length+if unk τ r[k]then 1 else 0:=by
 rw[af6,ab4 hk,al0];by_cases h:unk τ r[k]=true<;>simp[h]
theorem Nb{α:Type}{p:α->Bool}{r:List α}{k:Nat}(hk:k<r.length):(r.take (k+1)).any p=((r.take k).any p||p r[k]):=by
 rw[af6,ab4 hk,List.any_append];simp
theorem bD.Au{w:World}{m:Nat}{τ:List Tr}(h:bD w m τ)(x:Nat):∃bi bk p l c,uh τ x=.agg #[.bool bi,.int .i64 bk,.slice p l c]/\∀i,Eb τ (x,i)=(kT τ x&&(bi==i)):=by
 cases e:lZ τ x with
 |none=>exact⟨false,0,none,0,0,by simp[uh,e],λi=>by simp[Eb,kT,e]⟩
 |some q=>
  obtain⟨q,k⟩:=q;obtain⟨h1,hk,h2⟩:=dH e;obtain⟨p,c,h3⟩:=(h.MW q (h2▸ab5 hk)).len;exact⟨q.2.1,k,p,q.2.2.2.length,c,by simp[uh,e,og,h3],λi=>by simp[Eb,kT,e]⟩
def opE(τ:List Tr)(r:Rule)(e:Ending):Prop:=
 (r.any (Eb τ)=true/\∃v:View,e=.returned (.tuple #[.agg #[.int .i64 v.1,.bool v.2],.int .i64 (-1)]))\/
 (r.any (Eb τ)=false/\e=.returned (.tuple #[.agg #[.int .i64 (dN τ r).1,.bool (dN τ r).2],.int .i64 (r.filter (unk τ)).length]))
theorem open_any(w:World)(b U:Nat)(rv ov:Value)(tp:List UInt8)(m:Nat)(τ:List Tr)(h:nN w b U rv ov tp (some m))(hB:bD w m τ)(v:Value)(r:Rule)(hv:aP w v r)(hr:r≠[])(hr5:r.length<=1000)(hx:∀u∈r,u.1<=1000) :
  Calls prog 175 #[.pointer (some ⟨b,0,none⟩),v] w λe w'=>opE τ r e/\Below w.heap.size w w':=by
 rcases hv with⟨hv,_⟩|⟨g,cap,cur,x,rfl,hg,_,hcur⟩
 ·exact absurd hv hr
 have hgl:g<w.heap.size:=(ab1.1 hg).1;have hc:∀W:World,Below w.heap.size w W->∀k (hk:k<r.length),W.cell? ⟨g,k*2,none⟩=some (.int .i64 r[k].1)/\W.cell? ⟨g,k*2+1,none⟩=some (.bool r[k].2):=λW hW k hk=>by
  rw[hW.cell (p:=⟨g,_,none⟩) hgl,hW.cell (p:=⟨g,_,none⟩) hgl,cell_of hg,cell_of hg];exact hcur k hk
 have hc4:∀W:World,Below w.heap.size w W->W.cell? ⟨b,4,none⟩=some (.map (some m)):=λW hW=>by
  rw[hW.cell (p:=⟨b,_,none⟩) h.lt];exact h.cells.2.2.2.2
 have hlook:∀W:World,Below w.heap.size w W->∀k (hk:k<r.length),(Instr.lookup 159 (.map (some m)) (.int .i64 r[k].1) true).run prog W=.ok (.tuple #[uh τ r[k].1,.bool (kT τ r[k].1)]) W:=λW hW k hk=>
  (hB.but (But.of_below hW (λ_=>False)) (λ_ h=>h.elim) (λh=>h)).look (hx _ (ab5 hk))
 have hsh:=λx=>hB.Au x;have HSH:=aj hsh;clear hsh;have HC:=aj hc;have HC4:=aj hc4;have HL:=aj hlook;have hbl:=h.lt;clear hc hc4 hlook hcur hg hB h hx
 go_enter func175,ntmps175
 go_wp2_with fail
 go_loopw [5,12] (λo i wr=>∃k:Nat,k<=r.length/\i=.int .i64 k/\o=.int .i64 ((r.take k).filter (unk τ)).length/\(r.take k).any (Eb τ)=false/\wr.heap[w.heap.size]?=some (.cells #[.int .i64 (dN τ (r.take k)).1,.bool (dN τ (r.take k)).2] 214 (0,0))/\Below w.heap.size w wr) (λ_ i _=>r.length-(intOf i).toNat)
 case atStart=>
  refine⟨0,af4 _,rfl,rfl,rfl,?_,(af0 _ _).alloc (ab3 _) _⟩;rw[ac4];rfl
 case round=>
  obtain⟨k,hk,rfl,rfl,hany,hlast,hbw⟩:=hrel;by_cases hlt:k<r.length
  ·have hbd:(k:Int)<(r.length:Int):=(by omega);obtain⟨d0,d1⟩:=ah HC wr hbw k hlt;have hl1:=Gz (τ:=τ) hlt;have hl2:=MP (τ:=τ) hlt;have hl3:=Nb (p:=Eb τ) hlt;rw[hany,Bool.false_or]at hl3;have HL1:=aj hl1;have HL2:=aj hl2;have HL3:=aj hl3;have HBW:=aj hbw;have HLA:=aj hlast;clear hl1 hl2 hl3 hbw hlast hany;have hlk:Hid (∀W:World,Below w.heap.size w W->(Instr.lookup 159 (.map (some m)) (.int .i64 r[k].1) true).run prog W=.ok (.tuple #[uh τ r[k].1,.bool (kT τ r[k].1)]) W):=λW hW=>ah HL W hW k hlt;generalize r[k]=u at d0 d1 HL1 HL2 HL3 hlk;obtain⟨ux,ui⟩:=u;simp only at d0 d1 hlk;obtain⟨bi,bk,bp,bl,bc,hsh,hrg⟩:=ah HSH ux;rw[hsh]at hlk;have HRG:=aj hrg;have hun:unk τ (ux,ui)=!kT τ ux:=rfl;rw[hun]at HL1 HL2;rw[hrg]at HL3;clear hsh hrg hun;generalize kT τ ux=ko at hlk HRG HL1 HL2 HL3
   go_wp2_with fail
   obtain⟨W1,hW1⟩:∃W1,wr.alloc (.cells #[.int .i64 ux,.bool ui] 214)=W1:=⟨_,rfl⟩;have hbW:Below w.heap.size w W1:=(by rw[<-hW1];exact(ah HBW).alloc (ah HBW).size _);have hsW:W1.heap.size=wr.heap.size+1:=(by rw[<-hW1];simp);have k0:W1.cell? ⟨wr.heap.size,0,none⟩=some (.int .i64 ux):=(by rw[<-hW1];simp[go_sem]);have k1:W1.cell? ⟨wr.heap.size,1,none⟩=some (.bool ui):=(by rw[<-hW1];simp[go_sem]);have hlW:W1.heap[w.heap.size]?=some (.cells #[.int .i64 (dN τ (r.take k)).1,.bool (dN τ (r.take k)).2] 214 (0,0)):=by
    rw[<-hW1,ac1 _ _ _ (ab1.1 (ah HLA)).1];exact ah HLA
   have hwl:w.heap.size<wr.heap.size:=(ab1.1 (ah HLA)).1;have HLW:=aj hlW;have hc4:=ah HC4 W1 hbW;have HSW:=aj hsW;have WJ:=aj hbW;rw[hW1];clear hW1 hlW hsW hbW HLA HBW d0 d1;refine ae9 (S:=λW'=>W1.grownBy W' none) rfl ?_;have hS0:W1.grownBy W1.drew none:=⟨rfl,rfl,rfl,ab3 _,λ_ _ _=>rfl⟩;have hSb:Hid (∀W',W1.grownBy W' none->Below w.heap.size w W'):=λW' h=>(ah WJ).grown h (ah WJ).size (λk e=>by cases e);simp only[ac0,ab9,ac9,Nat.reduceAdd,ab8,ab7,ac3,ac6,ac5];change wpAnyH prog .any _ _ _ _ _ _ W1.drew;refine tH 0 (.pointer (some ⟨b,0,none⟩)) (λw' hS=>?_) hS0 ?_
   ·go_simp
   simp only[aC];refine tH 1 (.pointer (some ⟨b,0,none⟩)) (λw' hS=>?_) hS0 ?_
   ·go_simp
   simp only[aC];refine tH 2 (.pointer (some ⟨b,4,none⟩)) (λw' hS=>?_) hS0 ?_
   ·go_simp
   simp only[aC];refine tH 3 (.map (some m)) (λw' hS=>?_) hS0 ?_
   ·have q:=hS.cell hc4 (by simp);go_simp
   simp only[aC];refine tH 4 (.pointer (some ⟨wr.heap.size,0,none⟩)) (λw' hS=>?_) hS0 ?_
   ·go_simp
   simp only[aC];refine tH 5 (.int .i64 ux) (λw' hS=>?_) hS0 ?_
   ·have q:=hS.cell k0 (by simp);go_simp
   simp only[aC];refine tH 6 (.tuple #[.agg #[.bool bi,.int .i64 bk,.slice bp bl bc],.bool ko]) (λw' hS=>?_) hS0 ?_
   ·have q:=ah hlk w' (ah hSb w' hS);go_simp
   simp only[aC];refine tH 7 (.tuple #[.agg #[.bool bi,.int .i64 bk,.slice bp bl bc],.bool ko]) (λw' hS=>?_) hS0 ?_
   ·go_simp
   simp only[aC];refine tH 8 (.agg #[.bool bi,.int .i64 bk,.slice bp bl bc]) (λw' hS=>?_) hS0 ?_
   ·go_simp
   simp only[aC];refine tH 9 (.bool ko) (λw' hS=>?_) hS0 ?_
   ·go_simp
   simp only[aC];refine oH 10 (λK hK=>?_);go_simp;have hS1:W1.grownBy (W1.alloc (.cells #[.bool false,.int .i64 0,.slice none 0 0] 229)).drew none:=(ab2 _ _ none).trans ⟨rfl,rfl,rfl,ab3 _,λ_ _ _=>rfl⟩;refine hK.out _ _ hS1 ?_;clear hK K;refine oH 11 (λK hK=>?_);go_simp;have hS2:W1.grownBy (W1.alloc (.cells #[.bool bi,.int .i64 bk,.slice bp bl bc] 229)).drew none:=(ab2 _ _ none).trans ⟨rfl,rfl,rfl,ab3 _,λ_ _ _=>rfl⟩;refine hK.out _ _ hS2 ?_;clear hK K;refine oH 12 (λK hK=>?_);go_simp;refine hK.out _ _ hS2 (ae4 (by kernel_rfl) ?_ _);clear hK K;obtain⟨W2,hW2⟩:∃W2,(W1.alloc (.cells #[.bool bi,.int .i64 bk,.slice bp bl bc] 229)).drew=W2:=⟨_,rfl⟩;have n0:W2.cell? ⟨W1.heap.size,0,none⟩=some (.bool bi):=(by rw[<-hW2];simp[go_sem]);have b2:Below w.heap.size w W2:=(by rw[<-hW2];exact ah hSb _ hS2);have q0:W2.cell? ⟨wr.heap.size,0,none⟩=some (.int .i64 ux):=(by rw[<-hW2];exact hS2.cell k0 (by simp));have q1:W2.cell? ⟨wr.heap.size,1,none⟩=some (.bool ui):=(by rw[<-hW2];exact hS2.cell k1 (by simp));have hl2:W2.heap[w.heap.size]?=some (.cells #[.int .i64 (dN τ (r.take k)).1,.bool (dN τ (r.take k)).2] 214 (0,0)):=by
    rw[<-hW2,hS2.block _ (by have:=ah HSW;omega) (by simp)];exact ah HLW
   have fz0:W2.frozen? ⟨w.heap.size,0,none⟩=false:=(by simp[World.frozen?,hl2]);have fz1:W2.frozen? ⟨w.heap.size,1,none⟩=false:=(by simp[World.frozen?,hl2]);have lc0:W2.cell? ⟨w.heap.size,0,none⟩=some (.int .i64 (dN τ (r.take k)).1):=(by rw[cell_of hl2];rfl);have lc1:W2.cell? ⟨w.heap.size,1,none⟩=some (.bool (dN τ (r.take k)).2):=(by rw[cell_of hl2];rfl);have HB2:=aj b2;have HL4:=aj hl2;rw[hW2];clear hW2 hS0 hS1 hS2 k0 k1 hc4 b2 hl2;cases ko
   ·simp only[Bool.not_false,ah9,Bool.false_and]at HL1 HL2 HL3
    go_wp2_with fail
    refine⟨⟨k+1,hlt,by go_num,?_,ah HL3,?_,((ah HB2).setCell (ab3 _) _).setCell (ab3 _) _⟩,by simp[intOf];omega⟩
    ·have hcb:((r.take k).filter (unk τ)).length<=1000:=ad6 (List.length_filter_le _ _) (ad6 (List.length_take_le' _ _) hr5);rw[ah HL2];congr 1;unfold wrap64;omega
    ·rw[ah HL1,heap_setCell_same (heap_setCell_same (ah HL4))];rfl
   ·simp only[Bool.not_true,al1,al3,Bool.true_and]at HL1 HL2 HL3;cases hbb:bi==ui
    ·rw[hbb]at HL3;have hbn:(bi=ui)=False:=by simpa using hbb
     go_wp2_with fail
     exact⟨⟨k+1,hlt,by go_num,by rw[ah HL2];rfl,ah HL3,by rw[ah HL1];exact ah HL4,ah HB2⟩,by simp[intOf];omega⟩
    ·rw[hbb]at HL3;obtain rfl:bi=ui:=(by simpa using hbb);clear hbb;have hany:r.any (Eb τ)=true:=by
      rw[<-List.take_append_drop (k+1) r,List.any_append,ah HL3];rfl
     have HA:=aj hany;clear hany
     go_wp2_with fail
     have hF:=heap_setCell_same (i:=1) (u:=.bool bi) (heap_setCell_same (i:=0) (u:=.int .i64 ux) (ah HL4));have hbF:=((ah HB2).setCell (p:=⟨w.heap.size,0,none⟩) (ab3 _) (.int .i64 ux)).setCell (p:=⟨w.heap.size,1,none⟩) (ab3 _) (.bool bi);generalize (W2.setCell ⟨w.heap.size,0,none⟩ (.int .i64 ux)).setCell ⟨w.heap.size,1,none⟩ (.bool bi)=WF at hF hbF ⊢;have f0:WF.cell? ⟨w.heap.size,0,none⟩=some (.int .i64 ux):=(by rw[cell_of hF];rfl);have f1:WF.cell? ⟨w.heap.size,1,none⟩=some (.bool bi):=(by rw[cell_of hF];rfl);refine ae3 (v:=.tuple #[.agg #[.int .i64 ux,.bool bi],.int .i64 (-1)]) (by simp[results,results175,go_sem,f0,f1]) rfl ⟨Or.inl ⟨ah HA,(ux,bi),rfl⟩,hbF⟩
  ·have hkk:k=r.length:=(by omega);have hbd:¬(k:Int)<(r.length:Int):=(by omega);rw[hkk,ag9]at hany hlast;have lc0:wr.cell? ⟨w.heap.size,0,none⟩=some (.int .i64 (dN τ r).1):=(by rw[cell_of hlast];rfl);have lc1:wr.cell? ⟨w.heap.size,1,none⟩=some (.bool (dN τ r).2):=(by rw[cell_of hlast];rfl);have fz0:wr.frozen? ⟨w.heap.size,0,none⟩=false:=(by simp[World.frozen?,hlast]);have fz1:wr.frozen? ⟨w.heap.size,1,none⟩=false:=(by simp[World.frozen?,hlast]);have HA:=aj hany;have HBW:=aj hbw;have hfl:(List.filter (unk τ) (r.take k)).length=(r.filter (unk τ)).length:=(by rw[hkk,ag9]);rw[hfl];have HLA:=aj hlast;clear hany hlast hbw hfl hkk;generalize hlu:dN τ r=lu at lc0 lc1 HLA;generalize hcu:(r.filter (unk τ)).length=cu;have HLU:=aj hlu;have HCU:=aj hcu;clear hlu hcu;obtain⟨lx,li⟩:=lu;simp only at lc0 lc1 HLA
   go_wp2_with fail
   have hF:=heap_setCell_same (i:=1) (u:=.bool li) (heap_setCell_same (i:=0) (u:=.int .i64 lx) (ah HLA));have hbF:=((ah HBW).setCell (p:=⟨w.heap.size,0,none⟩) (ab3 _) (.int .i64 lx)).setCell (p:=⟨w.heap.size,1,none⟩) (ab3 _) (.bool li);generalize (wr.setCell ⟨w.heap.size,0,none⟩ (.int .i64 lx)).setCell ⟨w.heap.size,1,none⟩ (.bool li)=WF at hF hbF ⊢;have f0:WF.cell? ⟨w.heap.size,0,none⟩=some (.int .i64 lx):=(by rw[cell_of hF];rfl);have f1:WF.cell? ⟨w.heap.size,1,none⟩=some (.bool li):=(by rw[cell_of hF];rfl);refine ae3 (v:=.tuple #[.agg #[.int .i64 lx,.bool li],.int .i64 cu]) (by simp[results,results175,go_sem,f0,f1]) rfl ⟨Or.inr ⟨ah HA,?_⟩,hbF⟩;rw[ah HLU,ah HCU]
def bF(w:World)(rv:Value)(ak:List Rule):Prop:=
 ∃vs:List Value,w.ownsRow 0 161 1 rv ak.length vs/\∀i (hi:i<ak.length),∃v,vs[i]?=some v/\aP w v ak[i]
theorem bJ{w w':World}(h:Below w.heap.size w w'):w.grownBy w' none:=⟨h.os,h.tape,h.output,h.size,λk hk _=>h.block k hk⟩
theorem bF.but{S:Nat->Prop}{w w':World}{rv:Value}{ak:List Rule}(h:bF w rv ak)(hb:But S w w')(hS:∀k,S k->jv w k)(hr:∀k,rv.ownBlock=some k->¬S k):bF w' rv ak:=by
 obtain⟨vs,⟨h1,h2⟩,h3⟩:=h;refine⟨vs,⟨h1,?_⟩,λi hi=>?_⟩
 ·rcases h2 with h2|⟨g,cap,cur,rfl,q2,q3,q4⟩
  ·exact Or.inl h2
  ·have hlt:g<w.heap.size:=(ab1.1 q3).1;exact Or.inr ⟨g,cap,cur,rfl,q2,(hb.block g hlt (hr g rfl)).trans q3,q4⟩
 ·obtain⟨v,q1,q2⟩:=h3 i hi;exact⟨v,q1,q2.but hb hS⟩
theorem bF.oW{w:World}{rv:Value}{ak:List Rule}(h:bF w rv ak){m:Nat}{τ:List Tr}(hB:bD w m τ):∀k,rv.ownBlock=some k->k≠m:=by
 obtain⟨es,⟨e1,c1,h4,_⟩,_⟩:=hB.map;obtain⟨vs,⟨h1,h2⟩,h3⟩:=h;intro k hk e;subst e;rcases h2 with⟨rfl,_⟩|⟨g,cap,cur,rfl,q2,q3,q4⟩
 ·cases hk
 ·cases hk;rw[h4]at q3;cases q3
structure FI(w:World)(b U:Nat)(rv ov:Value)(tp:List UInt8)(m:Nat)(τ:List Tr)(ak:List Rule):Prop where
 ug:nN w b U rv ov tp (some m)
 rows:bF w rv ak
 bs:bD w m τ
 inv:Sat.BInv ak (bel τ) τ.length
 lt:∀q∈τ,q.1<U
structure RG(U:Nat)(ak:List Rule):Prop where
 ne:∀r∈ak,r≠[]
 nodup:∀r∈ak,r.Nodup
 lt:∀r∈ak,∀u∈r,u.1<U
 len:∀r∈ak,r.length<=1000
theorem iW:∀(U:Nat) (l:List Nat),l.Nodup->(∀x∈l,x<U)->l.length<=U:=by
 intro U
 induction U with
 |zero=>
  intro l _ h;cases l with
  |nil=>simp
  |cons a l=>have:=h a (by simp);omega
 |succ U ih=>
  intro l hn h;have h1:=ih (l.filter (·!= U)) (hn.sublist List.filter_sublist) (λx hx=>by
   have h2:=ag5.1 hx;have h3:=h x h2.1;have h4:x≠U:=(by simpa using h2.2);omega)
  have h2:l.length<=(l.filter (·!= U)).length+1:=by
   have h3:=List.length_eq_countP_add_countP (p:=λx=>x != U) (l:=l);rw[List.countP_eq_length_filter]at h3;have h4:l.countP (λx=>decide ¬(x != U)=true)<=1:=by
    have h5:l.countP (λx=>decide ¬(x != U)=true)=l.count U:=by
     unfold List.count
     congr 1
     funext x;by_cases e:x=U<;>simp[e]
    rw[h5];exact List.nodup_iff_count.1 hn U
   omega
  omega
theorem FI.len{w:World}{b U:Nat}{rv ov:Value}{tp:List UInt8}{m:Nat}{τ:List Tr}{ak:List Rule}(h:FI w b U rv ov tp m τ ak):τ.length<=U:=by
 have:=iW U (τ.map (·.1)) h.bs.nodup (λx hx=>by
  obtain⟨q,hq,rfl⟩:=ad9.1 hx;exact h.lt q hq)
 simpa using this
theorem FI.grown{w w':World}{b U:Nat}{rv ov:Value}{tp:List UInt8}{m:Nat}{τ:List Tr}{ak:List Rule}(h:FI w b U rv ov tp m τ ak)(hg:w.grownBy w' none):FI w' b U rv ov tp m τ ak:=by
 have hb:=But.aA hg;have hn:∀k,some k=none->jv w k:=λk e=>by cases e
 exact⟨h.ug.kept (hg.block b h.ug.lt (by simp)),h.rows.but hb hn (λk _=>by simp),h.bs.but hb hn (by simp),h.inv,h.lt⟩
theorem FI.more{w w':World}{b U:Nat}{rv ov:Value}{tp:List UInt8}{m:Nat}{τ:List Tr}{ak:List Rule}(h:FI w b U rv ov tp m τ ak)(hg:w.grownBy w' (some m)){q:Tr}(hB:bD w' m (τ++[q]))
 (hi:Sat.BInv ak (bel (τ++[q])) (τ.length+1))(hq:q.1<U):FI w' b U rv ov tp m (τ++[q]) ak:=by
 have hb:=But.aA hg;have hn:∀k,some k=some m->jv w k:=λk e=>by cases e;exact h.bs.nU
 have hbm:b≠m:=λe=>by
  obtain⟨es,⟨e1,c1,h4,_⟩,_⟩:=h.bs.map;have:=h.ug.out;rw[e,h4]at this;cases this
 refine⟨h.ug.kept (hg.block b h.ug.lt (by simpa using hbm)),h.rows.but hb hn (λk hk e=>h.rows.oW h.bs k hk (by cases e;rfl)),hB,by rw[ae0];exact hi,λp hp=>?_⟩;rcases ae6.1 hp with hp|hp
 ·exact h.lt p hp
 ·rw[ad8.1 hp];exact hq
theorem Ry{τ:List Tr}{v:View}:Eb τ v=true↔Sat.right (bel τ) v:=by
 unfold Eb Sat.right bel;cases lZ τ v.1 with
 |none=>simp
 |some q=>simp
theorem wP{τ:List Tr}{v:View}:unk τ v=true↔bel τ v.1=none:=by
 unfold unk kT bel;cases lZ τ v.1<;>simp
theorem Dv{τ:List Tr}{v:View}(h1:Eb τ v=false)(h2:unk τ v=false):Sat.wrong (bel τ) v:=by
 unfold Eb unk kT at *;unfold Sat.wrong bel;cases e:lZ τ v.1 with
 |none=>rw[e]at h2;simp at h2
 |some q=>rw[e]at h1;exact⟨_,rfl,by simpa using h1⟩
theorem Iz{τ:List Tr}{r:Rule}(h1:r.any (Eb τ)=false)(h2:(r.filter (unk τ)).length=0):∀v∈r,Sat.wrong (bel τ) v:=by
 intro v hv;refine Dv ?_ ?_
 ·have:=List.any_eq_false.1 h1 v hv;simpa using this
 ·have h3:=af7 h2;have:=List.filter_eq_nil_iff.1 h3 v hv;simpa using this
theorem FZ{τ:List Tr}{r:Rule}(h1:r.any (Eb τ)=false)(h2:(r.filter (unk τ)).length=1):dN τ r∈r/\bel τ (dN τ r).1=none/\∀u∈r,u≠dN τ r->Sat.wrong (bel τ) u:=by
 obtain⟨a,ha⟩:=List.length_eq_one_iff.1 h2;have hl:dN τ r=a:=by unfold dN;rw[ha];rfl
 have hm:a∈r.filter (unk τ):=by rw[ha];simp
 rw[hl];refine⟨(ag5.1 hm).1,wP.1 (ag5.1 hm).2,λu hu hne=>Dv ?_ ?_⟩
 ·have:=List.any_eq_false.1 h1 u hu;simpa using this
 ·cases e:unk τ u
  ·rfl
  ·have:u∈r.filter (unk τ):=ag5.2 ⟨hu,e⟩;rw[ha]at this;exact absurd (ad8.1 this) hne
def Zo(ρ:List Tr):Prop:=∀q∈ρ,q.2.2.2≠[]
def Ext(τ σ:List Tr):Prop:=∃ρ,σ=τ++ρ/\Zo ρ
theorem Ext.refl(τ:List Tr):Ext τ τ:=⟨[],by simp,λq h=>by(cases h)⟩
theorem Ext.snoc{τ σ:List Tr}(h:Ext τ σ){q:Tr}(hq:q.2.2.2≠[]):Ext τ (σ++[q]):=by
 obtain⟨ρ,rfl,h1⟩:=h;refine⟨ρ++[q],by simp,λp hp=>?_⟩;rcases ae6.1 hp with hp|hp
 ·exact h1 p hp
 ·rw[ad8.1 hp];exact hq
def still(τ:List Tr)(r:Rule):Prop:=r.any (Eb τ)=true\/2<=(r.filter (unk τ)).length
theorem TJ{τ:List Tr}{ak:List Rule}(hn:∀r∈ak,r.Nodup)(h:∀i (hi:i<ak.length),still τ ak[i]):Sat.Done ak (bel τ):=by
 intro r hr;obtain⟨i,hi,rfl⟩:=ag2 hr;rcases h i hi with h|h
 ·obtain⟨v,hv,h1⟩:=ak7.1 h;exact Or.inl ⟨v,hv,Ry.1 h1⟩
 ·right;have hnd:(ak[i].filter (unk τ)).Nodup:=(hn _ hr).sublist List.filter_sublist;generalize hf:ak[i].filter (unk τ)=l at h hnd
  match l,h,hnd with
  |u::v::l,_,hnd=>
   have hu:u∈ak[i].filter (unk τ):=(by rw[hf];simp);have hv:v∈ak[i].filter (unk τ):=(by rw[hf];simp);exact⟨u,(ag5.1 hu).1,v,(ag5.1 hv).1,λe=>by subst e;simp at hnd,wP.1 (ag5.1 hu).2,wP.1 (ag5.1 hv).2⟩
end
open aB (Key put RT zF RF RP RQ)
theorem xP{w w':World}{base b e k n:Nat}{v:Value}{xs:List Value}(h:w.ownsRow base e k v n xs)(hb:Below b w w')(hlt:w.heap.size<=b):w'.ownsRow base e k v n xs:=
 h.kept (row:=none) ⟨hb.os,hb.tape,hb.output,hb.size,λj hj _=>hb.block j (ac7 hj hlt)⟩ (by
  cases v<;>first|exact Or.inl rfl|skip
  rename_i p n c;cases p
  ·exact Or.inl rfl
  ·exact Or.inr (by simp[Value.ownBlock]))
theorem jC{w:World}{base e k n X i:Nat}{v x:Value}{xs:List Value}(h:w.ownsRow base e k v n xs)(hX:X<base):(w.setCell ⟨X,i,none⟩ x).ownsRow base e k v n xs:=by
 have hg:w.grownBy (w.setCell ⟨X,i,none⟩ x) (some X):=⟨rfl,rfl,rfl,by simp[World.setCell],λj _ hj=>ad5 _ _ _ _ (λe=>hj (by rw[e]))⟩;refine h.kept hg ?_;rcases h.2 with⟨rfl,_⟩|⟨g,cap,cur,rfl,hb,_⟩
 ·exact Or.inl rfl
 ·refine Or.inr (λe=>?_);simp only[Value.ownBlock,ag8]at e;omega
section
variable (w:World) (s:ByteArray)
theorem Rz(hs:s.size<=100)(a1:Nat)(ts:List Key)(cs:List (Int×Nat))(ps:List Key)(m:Nat)(HR:Hid (aB.iL (pk s) (s.size+1) 0 0 [] [] []=.ok (a1,ts,cs,ps,m)))(heq:a1=s.size)(h7:ts.length<=7)(h4:cs.length<=4)
 (hnT:ts.Nodup)(hnC:cs.Nodup)(hnP:ps.Nodup)(hp:ps.length<=100)(hvT:∀x∈ts,∃l,keyOf prog 87 (aQ x)=some l)(hvC:∀x∈cs,∃l,keyOf prog 90 (iT x)=some l)(hvP:∀x∈ps,∃l,keyOf prog 93 (aQ x)=some l) :
  Calls prog 30 #[.string s] w λe w'=>∃GT GC GP,e=.returned (.tuple #[fv GT GC GP ts.length cs.length ps.length,.int .i64 0,.int .i64 0])/\Below w.heap.size w w'/\FR w' (w.heap.size+1) GT GC GP ts cs ps:=by
 have hmm:=@ap4 prog;have hb:decide ((100:Int)<(s.size:Int))=false:=by simp;omega
 go_enter func30,ntmps30
 go_wp2_with fail
 refine(jo _ _ _ _ s hs (s.size+1) (start w s) 0 0 [] [] [] (by omega) (by omega) (by simp) (by simp) (by simp) (by omega) (rU w s)).mono ?_;rw[ah HR];rintro e w1 ⟨k1,rfl,h1⟩
 go_wp2_with fail
 refine(Jz w1 _ _ _ _ s a1 0 ts cs ps heq h1).mono ?_;rintro e w2 ⟨rfl,h2,k2⟩;have k3:=k1.trans k2;have r0:=eX k3 0;have r1:=eX k3 1;have r2:=eX k3 2;have q0:=dJ k3 0;have q1:=dJ k3 1;have q2:=dJ k3 2;simp at r0 r1 r2;have c4:=h2.c4;have c5:=h2.c5;have c6:=h2.c6;have LV:=h2.lt;have mt:=aj h2.mt;have mc:=aj h2.mc;have mp:=aj h2.mp;obtain⟨D,hown,hsz,hall,_⟩:=h2.mt;obtain⟨D2,hown2,hsz2,Pv,_⟩:=h2.mc;have nR:=aj hsz;have WC:=aj hsz2;clear hall Pv hsz hsz2;have hb7:decide ((7:Int)<(Maps.size D:Int))=false:=by rw[ah nR];simp;omega
 have hb4:decide ((4:Int)<(Maps.size D2:Int))=false:=by rw[ah WC];simp;omega
 have hl2:=λty=>hown2.len underlying78 ty
 go_wp2_with (at_len;refine wpList_len_own _ rfl (.tmp 33) 76 rfl 87 3 underlying76 _ _ ts.length D rfl hown ?_)
 have hsz3:w.heap.size+5<=w2.heap.size:=by have:=k3.size;rw[mO]at this;exact this
 clear hb7 hb4 hl2 hown hown2;refine ae9 (S:=λW'=>W'.cell? ⟨w.heap.size+1+1+1+1,4,none⟩=some (.map (some (w.heap.size+1)))/\W'.cell? ⟨w.heap.size+1+1+1+1,5,none⟩=some (.map (some (w.heap.size+1+1)))/\W'.cell? ⟨w.heap.size+1+1+1+1,6,none⟩=some (.map (some (w.heap.size+1+1+1)))) rfl ?_;have hS0:w2.drew.cell? ⟨w.heap.size+1+1+1+1,4,none⟩=some (.map (some (w.heap.size+1)))/\w2.drew.cell? ⟨w.heap.size+1+1+1+1,5,none⟩=some (.map (some (w.heap.size+1+1)))/\w2.drew.cell? ⟨w.heap.size+1+1+1+1,6,none⟩=some (.map (some (w.heap.size+1+1+1))):=⟨c4,c5,c6⟩;change wpAnyH prog .any _ _ _ 13 #[false,false,false,false,false,false,false,false,false,false,false,false,false] _ w2.drew;refine tH 0 (.pointer (some ⟨w.heap.size+1+1+1+1,4,none⟩)) (λw' hS=>?_) hS0 ?_
 ·obtain⟨s4,s5,s6⟩:=hS;go_simp
 simp only[aC];refine tH 1 (.map (some (w.heap.size+1))) (λw' hS=>?_) hS0 ?_
 ·obtain⟨s4,s5,s6⟩:=hS;go_simp
 simp only[aC];refine tH 3 (.pointer (some ⟨w.heap.size+1+1+1+1,5,none⟩)) (λw' hS=>?_) hS0 ?_
 ·obtain⟨s4,s5,s6⟩:=hS;go_simp
 simp only[aC];refine tH 4 (.map (some (w.heap.size+1+1))) (λw' hS=>?_) hS0 ?_
 ·obtain⟨s4,s5,s6⟩:=hS;go_simp
 simp only[aC];refine tH 6 (.pointer (some ⟨w.heap.size+1+1+1+1,6,none⟩)) (λw' hS=>?_) hS0 ?_
 ·obtain⟨s4,s5,s6⟩:=hS;go_simp
 simp only[aC];refine tH 7 (.map (some (w.heap.size+1+1+1))) (λw' hS=>?_) hS0 ?_
 ·obtain⟨s4,s5,s6⟩:=hS;go_simp
 simp only[aC];refine oH 2 (λK hK=>?_);go_simp;refine(KL (w.heap.size+1) ts _ (by omega) hnT (by exact(ah mt).kept rfl) hvT).mono ?_;rintro e w3 ⟨GT,rfl,hGT,bT,rowT⟩;have hST:w3.cell? ⟨w.heap.size+1+1+1+1,4,none⟩=some (.map (some (w.heap.size+1)))/\w3.cell? ⟨w.heap.size+1+1+1+1,5,none⟩=some (.map (some (w.heap.size+1+1)))/\w3.cell? ⟨w.heap.size+1+1+1+1,6,none⟩=some (.map (some (w.heap.size+1+1+1))):=⟨(bT.cell (p:=⟨w.heap.size+1+1+1+1,4,none⟩) (ab6 _ _ hS0.1)).trans hS0.1,(bT.cell (p:=⟨w.heap.size+1+1+1+1,5,none⟩) (ab6 _ _ hS0.2.1)).trans hS0.2.1,(bT.cell (p:=⟨w.heap.size+1+1+1+1,6,none⟩) (ab6 _ _ hS0.2.2)).trans hS0.2.2⟩;refine hK.out _ _ hST ?_;clear hK K;have mc3:aH w3 90 (w.heap.size+1+1) iT cs:=(ah mc).kept (bT.block _ (ah mc).lt);refine oH 5 (λK hK=>?_);go_simp;refine(KN (w.heap.size+1+1) cs w3 (by omega) hnC mc3 hvC).mono ?_;rintro e w4 ⟨GC,rfl,hGC,bC,UY⟩;have hSC:w4.cell? ⟨w.heap.size+1+1+1+1,4,none⟩=some (.map (some (w.heap.size+1)))/\w4.cell? ⟨w.heap.size+1+1+1+1,5,none⟩=some (.map (some (w.heap.size+1+1)))/\w4.cell? ⟨w.heap.size+1+1+1+1,6,none⟩=some (.map (some (w.heap.size+1+1+1))):=⟨(bC.cell (p:=⟨w.heap.size+1+1+1+1,4,none⟩) (ab6 _ _ hST.1)).trans hST.1,(bC.cell (p:=⟨w.heap.size+1+1+1+1,5,none⟩) (ab6 _ _ hST.2.1)).trans hST.2.1,(bC.cell (p:=⟨w.heap.size+1+1+1+1,6,none⟩) (ab6 _ _ hST.2.2)).trans hST.2.2⟩;refine hK.out _ _ hSC ?_;clear hK K;have mp4:aH w4 93 (w.heap.size+1+1+1) aQ ps:=(ah mp).kept ((bC.block _ (ac7 (ah mp).lt bT.size)).trans (bT.block _ (ah mp).lt));refine oH 8 (λK hK=>?_);go_simp;refine(Az (w.heap.size+1+1+1) ps w4 (by omega) hnP mp4 hvP).mono ?_;rintro e w5 ⟨GP,rfl,hGP,bP,rowP⟩;have hSP:w5.cell? ⟨w.heap.size+1+1+1+1,4,none⟩=some (.map (some (w.heap.size+1)))/\w5.cell? ⟨w.heap.size+1+1+1+1,5,none⟩=some (.map (some (w.heap.size+1+1)))/\w5.cell? ⟨w.heap.size+1+1+1+1,6,none⟩=some (.map (some (w.heap.size+1+1+1))):=⟨(bP.cell (p:=⟨w.heap.size+1+1+1+1,4,none⟩) (ab6 _ _ hSC.1)).trans hSC.1,(bP.cell (p:=⟨w.heap.size+1+1+1+1,5,none⟩) (ab6 _ _ hSC.2.1)).trans hSC.2.1,(bP.cell (p:=⟨w.heap.size+1+1+1+1,6,none⟩) (ab6 _ _ hSC.2.2)).trans hSC.2.2⟩;refine hK.out _ _ hSP ?_;clear hK K;have sT:=bT.size;have sC:=bC.size;have sP:=bP.size;have sT':w2.heap.size<=w3.heap.size:=sT;have hb5:Below w2.heap.size w2 w5:=(⟨bT.os,bT.tape,bT.output,bT.size,bT.block⟩:Below w2.heap.size w2 w3).trans ((bC.mono sT').trans (bP.mono (ad6 sT' sC)));have r0':w5.cell? ⟨w.heap.size,0,none⟩=some (.slice none 0 0):=(hb5.cell (p:=⟨w.heap.size,0,none⟩) (by show w.heap.size<w2.heap.size;omega)).trans r0;have r1':w5.cell? ⟨w.heap.size,1,none⟩=some (.slice none 0 0):=(hb5.cell (p:=⟨w.heap.size,1,none⟩) (by show w.heap.size<w2.heap.size;omega)).trans r1;have r2':w5.cell? ⟨w.heap.size,2,none⟩=some (.slice none 0 0):=(hb5.cell (p:=⟨w.heap.size,2,none⟩) (by show w.heap.size<w2.heap.size;omega)).trans r2;have q0':w5.frozen? ⟨w.heap.size,0,none⟩=false:=(ag6 (hb5.block _ (by show w.heap.size<w2.heap.size;omega))).trans q0;have q1':w5.frozen? ⟨w.heap.size,1,none⟩=false:=(ag6 (hb5.block _ (by show w.heap.size<w2.heap.size;omega))).trans q1;have q2':w5.frozen? ⟨w.heap.size,2,none⟩=false:=(ag6 (hb5.block _ (by show w.heap.size<w2.heap.size;omega))).trans q2;refine oH 9 (λK hK=>?_);go_simp;refine hK.out _ _ hSP ?_;clear hK K;refine oH 10 (λK hK=>?_);go_simp;have hSF:∀(a b c:Value),(((w5.setCell ⟨w.heap.size,0,none⟩ a).setCell ⟨w.heap.size,1,none⟩ b).setCell ⟨w.heap.size,2,none⟩ c).cell? ⟨w.heap.size+1+1+1+1,4,none⟩=some (.map (some (w.heap.size+1)))/\
   (((w5.setCell ⟨w.heap.size,0,none⟩ a).setCell ⟨w.heap.size,1,none⟩ b).setCell ⟨w.heap.size,2,none⟩ c).cell? ⟨w.heap.size+1+1+1+1,5,none⟩=some (.map (some (w.heap.size+1+1)))/\
   (((w5.setCell ⟨w.heap.size,0,none⟩ a).setCell ⟨w.heap.size,1,none⟩ b).setCell ⟨w.heap.size,2,none⟩ c).cell? ⟨w.heap.size+1+1+1+1,6,none⟩=some (.map (some (w.heap.size+1+1+1))):=λa b c=>by
  have hk:∀(u:World) (i j:Nat) (x:Value),(u.setCell ⟨w.heap.size,i,none⟩ x).cell? ⟨w.heap.size+1+1+1+1,j,none⟩=u.cell? ⟨w.heap.size+1+1+1+1,j,none⟩:=λu i j x=>ac8 (ad5 _ _ _ _ (by show w.heap.size+1+1+1+1≠w.heap.size;omega));simp only[hk];exact hSP
 refine hK.out _ _ (hSF _ _ _) ?_;clear hK K;refine oH 11 (λK hK=>?_);go_simp;refine hK.out _ _ (hSF _ _ _) ?_;clear hK K;refine oH 12 (λK hK=>?_);go_simp;refine hK.out _ _ (hSF _ _ _) (ae4 (by kernel_rfl) ?_ _);clear hK K
 go_wp2_with fail
 have hbw:Below w.heap.size w w5:=(lJ k3).trans (hb5.mono (by omega));refine ae3 (v:=.tuple #[fv GT GC GP ts.length cs.length ps.length,.int .i64 0,.int .i64 0]) (by simp[results,results30,go_sem,fv,r0',r1',r2']) rfl ⟨GT,GC,GP,rfl,?_,?_⟩
 ·exact((hbw.setCell (ab3 _) _).setCell (ab3 _) _).setCell (ab3 _) _
 ·have gT:w.heap.size+1<=w2.heap.size:=by omega
  have g3:w.heap.size+1<=w3.heap.size:=by omega
  have g4:w.heap.size+1<=w4.heap.size:=by omega
  refine⟨jC (jC (jC (fH (xP (xP rowT bC (ab3 _)) bP (ab3 _)) gT) (by omega)) (by omega)) (by omega),
   jC (jC (jC (fH (xP UY bP (ab3 _)) g3) (by omega)) (by omega)) (by omega),jC (jC (jC (fH rowP g4) (by omega)) (by omega)) (by omega)⟩
end
theorem qU(w:World)(s:ByteArray)(hs:s.size<=100)(ts:List Key)(cs:List (Int×Nat))(ps:List Key)(m:Nat)(hR:aB.iL (pk s) (s.size+1) 0 0 [] [] []=.ok (s.size,ts,cs,ps,m))(h7:ts.length<=7)(h4:cs.length<=4)
 (hi:aB.Inv ts)(hic:aB.jA ts cs)(hnc:cs.Nodup)(mG:aB.aO ts.length cs.length ps)(hp:ps.length<=100) :
  Calls prog 30 #[.string s] w λe w'=>∃GT GC GP,e=.returned (.tuple #[fv GT GC GP ts.length cs.length ps.length,.int .i64 0,.int .i64 0])/\Below w.heap.size w w'/\FR w' (w.heap.size+1) GT GC GP ts cs ps:=
 Rz w s hs s.size ts cs ps m (aj hR) rfl h7 h4 hi.nodup hnc mG.nd hp (Sv hi h7) (MQ hic h7) (Ku mG (by omega) (by omega) (by omega))
theorem NU(w:World)(s:ByteArray)(hm:s.size<=maxLen) :
  Calls prog 30 #[.string s] w λe w'=>(∃p0 n0 c0 p1 n1 c1 p2 n2 c2,e=.returned (.tuple #[.agg #[.slice p0 n0 c0,.slice p1 n1 c1,.slice p2 n2 c2],.int .i64 (chk s).1,.int .i64 (chk s).2]))/\Below w.heap.size w w':=by
 by_cases hs:100<s.size
 ·unfold chk;rw[ad3 hs];refine(Kq w s hs hm).mono ?_;rintro e w' ⟨rfl,h⟩;exact⟨⟨_,_,_,_,_,_,_,_,_,rfl⟩,h⟩
 ·have hs':s.size<=100:=by omega
  by_cases h0:(chk s).1=0
  ·obtain⟨ts,cs,ps,hR,h7,h4,hi,hic,_,_,_,hnc,mG,_,hp⟩:=kS s hs' h0;have h1:(chk s).2=0:=by
    unfold chk aB.check;rw[ac2 hs,<-aB.kD (pk s) (s.size+1) 0 0 [] [] [],hR];simp[aB.less,show ¬(7<ts.length\/4<cs.length) by omega]
   rw[h0,h1];refine(qU w s hs' ts cs ps _ hR h7 h4 hi hic hnc mG hp).mono ?_;rintro e w' ⟨GT,GC,GP,rfl,h,_⟩;exact⟨⟨_,_,_,_,_,_,_,_,_,rfl⟩,h⟩
  ·revert h0;unfold chk;rw[ac2 hs];have hok:=aB.qh (pk:=pk s) (N:=s.size) (λa h=>bI h) (s.size+1) 0 0 [] [] (by omega);have hls:=aB.kD (pk s) (s.size+1) 0 0 [] [] [];unfold aB.check;rw[<-hls]at hok ⊢;rcases hR:aB.iL (pk s) (s.size+1) 0 0 [] [] []with⟨E,p⟩|⟨a1,ts,cs,ps,m⟩
   ·intro _;refine(NV w s hs' E p (aj hR)).mono ?_;rintro e w' ⟨rfl,h⟩;exact⟨⟨_,_,_,_,_,_,_,_,_,rfl⟩,h⟩
   ·rw[hR]at hok;obtain⟨p1,p2,p3,p4,p5⟩:=hok;simp only[aB.less];by_cases h1:a1<s.size
    ·simp only[ad3 h1];intro _;refine(NT w s hs' a1 ts cs ps m (aj hR) h1).mono ?_;rintro e w' ⟨rfl,h⟩;exact⟨⟨_,_,_,_,_,_,_,_,_,rfl⟩,h⟩
    ·simp only[ac2 h1];by_cases h2:7<ts.length\/4<cs.length
     ·simp only[ad3 h2];intro _;refine(Ko w s hs' a1 ts cs ps m (aj hR) (by omega) h2).mono ?_;rintro e w' ⟨rfl,h⟩;exact⟨⟨_,_,_,_,_,_,_,_,_,rfl⟩,h⟩
     ·simp only[ac2 h2];intro h;exact absurd (by simp) h
end Go.Proofs.YthcppbmkacbbiaaGreat
