import Derived.Test.YthcppbmkacbbiaaGreatYAO
set_option linter.unusedSimpArgs false
set_option maxHeartbeats 4000000
set_option maxRecDepth 100000
namespace Go.Proofs.YthcppbmkacbbiaaGreat
open Go.Proofs.Tryz
section
open Go.RowKit Go.Maps Go.WideMaps
open Sat (View Rule jl bH)
theorem wH(w:World)(b U:Nat)(rv ov:Value)(tp:List UInt8)(m:Nat)(τ:List Tr)(q:Tr)(h:nV w b U rv ov tp (some m))(hB:bF w m τ)(hl:τ.length<=1000)(hx:q.1<=1000)(hq:q.1∉τ.map (·.1))(hv:aQ w q.2.2.1 q.2.2.2) :
  Calls prog 176 #[.pointer (some ⟨b,0,none⟩),.agg #[.int .i64 q.1,.bool q.2.1],q.2.2.1] w λe w'=>(∃v,e=.returned v)/\bF w' m (τ++[q])/\w.grownBy w' (some m):=by
 obtain⟨x,i,v,r⟩:=q;obtain⟨rp,rc,hvr⟩:=hv.len;simp only at hvr;subst hvr;obtain⟨W1,hW1⟩:∃W1,(w.alloc (.cells #[.int .i64 x,.bool i] 214)).drew=W1:=⟨_,rfl⟩;have hg0:w.grownBy (w.alloc (.cells #[.int .i64 x,.bool i] 214)) none:=JD _ _ none;have hg1:w.grownBy W1 none:=by rw[<-hW1];exact hg0.trans ⟨rfl,rfl,rfl,SH _,λ_ _ _=>rfl⟩
 have hb1:=But.aA hg1;have hno:∀k,some k=none->jI w k:=λk e=>by cases e
 have hB1:bF W1 m τ:=hB.but hb1 hno (by simp);have h1:nV W1 b U rv ov tp (some m):=h.kept (hg1.block b h.lt (by simp));obtain⟨c0,c1,c2,c3,c4⟩:=h1.cells;have k0:W1.cell? ⟨w.heap.size,0,none⟩=some (.int .i64 x):=by rw[<-hW1];simp[go_sem]
 have k1:W1.cell? ⟨w.heap.size,1,none⟩=some (.bool i):=by rw[<-hW1];simp[go_sem]
 have hlen:=hB1.len 3;obtain⟨w2,hrun,hB2,hg2⟩:=hB1.put (q:=(x,i,.slice rp r.length rc,r)) hl hx hq (hv.but hb1 hno);have HB2:=aj hB2;have HG2:=aj ((hg1.but (some m)).trans hg2);clear hB hB1 h h1 hv hno hb1 hg0 hg1 hB2 hg2 hq
 go_enter func176,ntmps176
 go_wp2_with fail
 refine wp_region_any rfl (jm (S:=λW'=>W'=W1) (z:=15) _ _ _ _ ?_);have hS0:W1=W1:=rfl;simp only[ab7,ab5,ac2,Nat.reduceAdd,ab4,ab3,ab8,ac1,ac0];change wpAnyL prog .any _ _ _ _ _ _ _ (w.alloc (.cells #[.int .i64 x,.bool i] 214)).drew;rw[hW1];clear hW1;refine tL 0 (.pointer (some ⟨b,0,none⟩)) (λw' hS=>?_) hS0 ?_
 ·subst hS;go_simp
 simp only[aC];refine tL 1 (.pointer (some ⟨b,0,none⟩)) (λw' hS=>?_) hS0 ?_
 ·subst hS;go_simp
 simp only[aC];refine tL 2 (.pointer (some ⟨b,4,none⟩)) (λw' hS=>?_) hS0 ?_
 ·subst hS;go_simp
 simp only[aC];refine tL 3 (.map (some m)) (λw' hS=>?_) hS0 ?_
 ·subst hS;go_simp
 simp only[aC];refine tL 4 (.pointer (some ⟨w.heap.size,0,none⟩)) (λw' hS=>?_) hS0 ?_
 ·subst hS;go_simp
 simp only[aC];refine tL 5 (.int .i64 x) (λw' hS=>?_) hS0 ?_
 ·subst hS;go_simp
 simp only[aC];refine tL 6 (.pointer (some ⟨w.heap.size,1,none⟩)) (λw' hS=>?_) hS0 ?_
 ·subst hS;go_simp
 simp only[aC];refine tL 7 (.bool i) (λw' hS=>?_) hS0 ?_
 ·subst hS;go_simp
 simp only[aC];refine tL 8 (.pointer (some ⟨b,0,none⟩)) (λw' hS=>?_) hS0 ?_
 ·subst hS;go_simp
 simp only[aC];refine tL 9 (.pointer (some ⟨b,0,none⟩)) (λw' hS=>?_) hS0 ?_
 ·subst hS;go_simp
 simp only[aC];refine tL 10 (.pointer (some ⟨b,4,none⟩)) (λw' hS=>?_) hS0 ?_
 ·subst hS;go_simp
 simp only[aC];refine tL 11 (.map (some m)) (λw' hS=>?_) hS0 ?_
 ·subst hS;go_simp
 simp only[aC];refine tL 12 (.int .i64 τ.length) (λw' hS=>?_) hS0 ?_
 ·subst hS;simp[execOp,resolve,invoke,builtin,hlen,Result.andThen,go_sem]
 simp only[aC];refine tL 13 (.slice rp r.length rc) (λw' hS=>?_) hS0 ?_
 ·subst hS;go_simp
 simp only[aC];refine tL 14 (.agg #[.bool i,.int .i64 τ.length,.slice rp r.length rc]) (λw' hS=>?_) hS0 ?_
 ·subst hS;go_simp
 simp only[aC];refine oL 15 (λK hK=>?_);have hrun':(Instr.mapUpdate 159 (.map (some m)) (.int .i64 x) (.agg #[.bool i,.int .i64 τ.length,.slice rp r.length rc])).run prog W1=.ok () w2:=hrun;clear hrun;go_simp;refine hK.out _ _ (λh=>absurd rfl h) (jA (by kernel_rfl) ?_ _)
 go_end0
 exact⟨⟨_,rfl⟩,ah HB2,ah HG2⟩
def unk(τ:List Tr)(v:View):Bool:=!kZ τ v.1
def Ed(τ:List Tr)(v:View):Bool:=match mD τ v.1 with
 |some q=>q.1.2.1==v.2
 |none=>false
def dP(τ:List Tr)(r:Rule):View:=(r.filter (unk τ)).getLastD (0,false)
theorem GK{τ:List Tr}{r:Rule}{k:Nat}(hk:k<r.length):dP τ (r.take (k+1))=if unk τ r[k]then r[k]else dP τ (r.take k):=by
 unfold dP;rw[ae6,SI hk,ak8];by_cases h:unk τ r[k]=true<;>simp[h]
theorem MQ{τ:List Tr}{r:Rule}{k:Nat}(hk:k<r.length):((r.take (k+1)).filter (unk τ)).length=((r.take k).filter (unk τ)).length+if unk τ r[k]then 1 else 0:=by
 rw[ae6,SI hk,ak8];by_cases h:unk τ r[k]=true<;>simp[h]
theorem Nc{α:Type}{p:α->Bool}{r:List α}{k:Nat}(hk:k<r.length):(r.take (k+1)).any p=((r.take k).any p||p r[k]):=by
 rw[ae6,SI hk,List.any_append];simp
theorem bF.AP{w:World}{m:Nat}{τ:List Tr}(h:bF w m τ)(x:Nat):∃bi bk p l c,uG τ x=.agg #[.bool bi,.int .i64 bk,.slice p l c]/\∀i,Ed τ (x,i)=(kZ τ x&&(bi==i)):=by
 cases e:mD τ x with
 |none=>exact⟨false,0,none,0,0,by simp[uG,e],λi=>by simp[Ed,kZ,e]⟩
 |some q=>
  obtain⟨q,k⟩:=q;obtain⟨h1,hk,h2⟩:=dK e;obtain⟨p,c,h3⟩:=(h.MX q (h2▸ab2 hk)).len;exact⟨q.2.1,k,p,q.2.2.2.length,c,by simp[uG,e,oz,h3],λi=>by simp[Ed,kZ,e]⟩
def opE(τ:List Tr)(r:Rule)(e:Ending):Prop:=
 (r.any (Ed τ)=true/\∃v:View,e=.returned (.tuple #[.agg #[.int .i64 v.1,.bool v.2],.int .i64 (-1)]))\/
 (r.any (Ed τ)=false/\e=.returned (.tuple #[.agg #[.int .i64 (dP τ r).1,.bool (dP τ r).2],.int .i64 (r.filter (unk τ)).length]))
theorem open_any(w:World)(b U:Nat)(rv ov:Value)(tp:List UInt8)(m:Nat)(τ:List Tr)(h:nV w b U rv ov tp (some m))(hB:bF w m τ)(v:Value)(r:Rule)(hv:aQ w v r)(hr:r≠[])(hr5:r.length<=1000)(hx:∀u∈r,u.1<=1000) :
  Calls prog 175 #[.pointer (some ⟨b,0,none⟩),v] w λe w'=>opE τ r e/\Below w.heap.size w w':=by
 rcases hv with⟨hv,_⟩|⟨g,cap,cur,x,rfl,hg,_,hcur⟩
 ·exact absurd hv hr
 have hgl:g<w.heap.size:=(Js.1 hg).1;have hc:∀W:World,Below w.heap.size w W->∀k (hk:k<r.length),W.cell? ⟨g,k*2,none⟩=some (.int .i64 r[k].1)/\W.cell? ⟨g,k*2+1,none⟩=some (.bool r[k].2):=λW hW k hk=>by
  rw[hW.cell (p:=⟨g,_,none⟩) hgl,hW.cell (p:=⟨g,_,none⟩) hgl,cell_of hg,cell_of hg];exact hcur k hk
 have hc4:∀W:World,Below w.heap.size w W->W.cell? ⟨b,4,none⟩=some (.map (some m)):=λW hW=>by
  rw[hW.cell (p:=⟨b,_,none⟩) h.lt];exact h.cells.2.2.2.2
 have hlook:∀W:World,Below w.heap.size w W->∀k (hk:k<r.length),(Instr.lookup 159 (.map (some m)) (.int .i64 r[k].1) true).run prog W=.ok (.tuple #[uG τ r[k].1,.bool (kZ τ r[k].1)]) W:=λW hW k hk=>
  (hB.but (But.of_below hW (λ_=>False)) (λ_ h=>h.elim) (λh=>h)).look (hx _ (ab2 hk))
 have hsh:=λx=>hB.AP x;have HSH:=aj hsh;clear hsh;have HC:=aj hc;have HC4:=aj hc4;have HL:=aj hlook;have hbl:=h.lt;clear hc hc4 hlook hcur hg hB h hx
 go_enter func175,ntmps175
 go_wp2_with fail
 go_loopw [5,12] (λo i wr=>∃k:Nat,k<=r.length/\i=.int .i64 k/\o=.int .i64 ((r.take k).filter (unk τ)).length/\(r.take k).any (Ed τ)=false/\wr.heap[w.heap.size]?=some (.cells #[.int .i64 (dP τ (r.take k)).1,.bool (dP τ (r.take k)).2] 214 (0,0))/\Below w.heap.size w wr) (λ_ i _=>r.length-(intOf i).toNat)
 case atStart=>
  refine⟨0,ae7 _,rfl,rfl,rfl,?_,(ae1 _ _).alloc (SH _) _⟩;rw[ac3];rfl
 case round=>
  obtain⟨k,hk,rfl,rfl,hany,hlast,hbw⟩:=hrel;by_cases hlt:k<r.length
  ·have hbd:(k:Int)<(r.length:Int):=(by omega);obtain⟨d0,d1⟩:=ah HC wr hbw k hlt;have hl1:=GK (τ:=τ) hlt;have hl2:=MQ (τ:=τ) hlt;have hl3:=Nc (p:=Ed τ) hlt;rw[hany,Bool.false_or]at hl3;have HL1:=aj hl1;have HL2:=aj hl2;have HL3:=aj hl3;have HBW:=aj hbw;have HLA:=aj hlast;clear hl1 hl2 hl3 hbw hlast hany;have hlk:Hid (∀W:World,Below w.heap.size w W->(Instr.lookup 159 (.map (some m)) (.int .i64 r[k].1) true).run prog W=.ok (.tuple #[uG τ r[k].1,.bool (kZ τ r[k].1)]) W):=λW hW=>ah HL W hW k hlt;generalize r[k]=u at d0 d1 HL1 HL2 HL3 hlk;obtain⟨ux,ui⟩:=u;simp only at d0 d1 hlk;obtain⟨bi,bk,bp,bl,bc,hsh,hrg⟩:=ah HSH ux;rw[hsh]at hlk;have HRG:=aj hrg;have hun:unk τ (ux,ui)=!kZ τ ux:=rfl;rw[hun]at HL1 HL2;rw[hrg]at HL3;clear hsh hrg hun;generalize kZ τ ux=ko at hlk HRG HL1 HL2 HL3
   go_wp2_with fail
   obtain⟨W1,hW1⟩:∃W1,wr.alloc (.cells #[.int .i64 ux,.bool ui] 214)=W1:=⟨_,rfl⟩;have hbW:Below w.heap.size w W1:=(by rw[<-hW1];exact(ah HBW).alloc (ah HBW).size _);have hsW:W1.heap.size=wr.heap.size+1:=(by rw[<-hW1];simp);have k0:W1.cell? ⟨wr.heap.size,0,none⟩=some (.int .i64 ux):=(by rw[<-hW1];simp[go_sem]);have k1:W1.cell? ⟨wr.heap.size,1,none⟩=some (.bool ui):=(by rw[<-hW1];simp[go_sem]);have hlW:W1.heap[w.heap.size]?=some (.cells #[.int .i64 (dP τ (r.take k)).1,.bool (dP τ (r.take k)).2] 214 (0,0)):=by
    rw[<-hW1,ab6 _ _ _ (Js.1 (ah HLA)).1];exact ah HLA
   have hwl:w.heap.size<wr.heap.size:=(Js.1 (ah HLA)).1;have HLW:=aj hlW;have hc4:=ah HC4 W1 hbW;have HSW:=aj hsW;have WQ:=aj hbW;rw[hW1];clear hW1 hlW hsW hbW HLA HBW d0 d1;refine ae5 (S:=λW'=>W1.grownBy W' none) rfl ?_;have hS0:W1.grownBy W1.drew none:=⟨rfl,rfl,rfl,SH _,λ_ _ _=>rfl⟩;have hSb:Hid (∀W',W1.grownBy W' none->Below w.heap.size w W'):=λW' h=>(ah WQ).grown h (ah WQ).size (λk e=>by cases e);simp only[ab7,ab5,ac2,Nat.reduceAdd,ab4,ab3,ab8,ac1,ac0];change wpAnyH prog .any _ _ _ _ _ _ W1.drew;refine tH 0 (.pointer (some ⟨b,0,none⟩)) (λw' hS=>?_) hS0 ?_
   ·go_simp
   simp only[aC];refine tH 1 (.pointer (some ⟨b,0,none⟩)) (λw' hS=>?_) hS0 ?_
   ·go_simp
   simp only[aC];refine tH 2 (.pointer (some ⟨b,4,none⟩)) (λw' hS=>?_) hS0 ?_
   ·go_simp
   simp only[aC];refine tH 3 (.map (some m)) (λw' hS=>?_) hS0 ?_
   ·have q:=hS.cell hc4 (by simp);go_simp
   simp only[aC];refine tH 4 (.pointer (some ⟨wr.heap.size,0,none⟩)) (λw' hS=>?_) hS0 ?_
   ·go_simp
   simp only[aC];refine tH 5 (.int .i64 ux) (λw' hS=>?_) hS0 ?_
   ·have q:=hS.cell k0 (by simp);go_simp
   simp only[aC];refine tH 6 (.tuple #[.agg #[.bool bi,.int .i64 bk,.slice bp bl bc],.bool ko]) (λw' hS=>?_) hS0 ?_
   ·have q:=ah hlk w' (ah hSb w' hS);go_simp
   simp only[aC];refine tH 7 (.tuple #[.agg #[.bool bi,.int .i64 bk,.slice bp bl bc],.bool ko]) (λw' hS=>?_) hS0 ?_
   ·go_simp
   simp only[aC];refine tH 8 (.agg #[.bool bi,.int .i64 bk,.slice bp bl bc]) (λw' hS=>?_) hS0 ?_
   ·go_simp
   simp only[aC];refine tH 9 (.bool ko) (λw' hS=>?_) hS0 ?_
   ·go_simp
   simp only[aC];refine oH 10 (λK hK=>?_);go_simp;have hS1:W1.grownBy (W1.alloc (.cells #[.bool false,.int .i64 0,.slice none 0 0] 229)).drew none:=(JD _ _ none).trans ⟨rfl,rfl,rfl,SH _,λ_ _ _=>rfl⟩;refine hK.out _ _ hS1 ?_;clear hK K;refine oH 11 (λK hK=>?_);go_simp;have hS2:W1.grownBy (W1.alloc (.cells #[.bool bi,.int .i64 bk,.slice bp bl bc] 229)).drew none:=(JD _ _ none).trans ⟨rfl,rfl,rfl,SH _,λ_ _ _=>rfl⟩;refine hK.out _ _ hS2 ?_;clear hK K;refine oH 12 (λK hK=>?_);go_simp;refine hK.out _ _ hS2 (ae0 (by kernel_rfl) ?_ _);clear hK K;obtain⟨W2,hW2⟩:∃W2,(W1.alloc (.cells #[.bool bi,.int .i64 bk,.slice bp bl bc] 229)).drew=W2:=⟨_,rfl⟩;have n0:W2.cell? ⟨W1.heap.size,0,none⟩=some (.bool bi):=(by rw[<-hW2];simp[go_sem]);have b2:Below w.heap.size w W2:=(by rw[<-hW2];exact ah hSb _ hS2);have q0:W2.cell? ⟨wr.heap.size,0,none⟩=some (.int .i64 ux):=(by rw[<-hW2];exact hS2.cell k0 (by simp));have q1:W2.cell? ⟨wr.heap.size,1,none⟩=some (.bool ui):=(by rw[<-hW2];exact hS2.cell k1 (by simp));have hl2:W2.heap[w.heap.size]?=some (.cells #[.int .i64 (dP τ (r.take k)).1,.bool (dP τ (r.take k)).2] 214 (0,0)):=by
    rw[<-hW2,hS2.block _ (by have:=ah HSW;omega) (by simp)];exact ah HLW
   have fz0:W2.frozen? ⟨w.heap.size,0,none⟩=false:=(by simp[World.frozen?,hl2]);have fz1:W2.frozen? ⟨w.heap.size,1,none⟩=false:=(by simp[World.frozen?,hl2]);have lc0:W2.cell? ⟨w.heap.size,0,none⟩=some (.int .i64 (dP τ (r.take k)).1):=(by rw[cell_of hl2];rfl);have lc1:W2.cell? ⟨w.heap.size,1,none⟩=some (.bool (dP τ (r.take k)).2):=(by rw[cell_of hl2];rfl);have HB2:=aj b2;have HL4:=aj hl2;rw[hW2];clear hW2 hS0 hS1 hS2 k0 k1 hc4 b2 hl2;cases ko
   ·simp only[Bool.not_false,ai4,Bool.false_and]at HL1 HL2 HL3
    go_wp2_with fail
    refine⟨⟨k+1,hlt,by go_num,?_,ah HL3,?_,((ah HB2).setCell (SH _) _).setCell (SH _) _⟩,by simp[intOf];omega⟩
    ·have hcb:((r.take k).filter (unk τ)).length<=1000:=ac9 (List.length_filter_le _ _) (ac9 (List.length_take_le' _ _) hr5);rw[ah HL2];congr 1;unfold wrap64;omega
    ·rw[ah HL1,heap_setCell_same (heap_setCell_same (ah HL4))];rfl
   ·simp only[Bool.not_true,ak9,al1,Bool.true_and]at HL1 HL2 HL3;cases hbb:bi==ui
    ·rw[hbb]at HL3;have hbn:(bi=ui)=False:=by simpa using hbb
     go_wp2_with fail
     exact⟨⟨k+1,hlt,by go_num,by rw[ah HL2];rfl,ah HL3,by rw[ah HL1];exact ah HL4,ah HB2⟩,by simp[intOf];omega⟩
    ·rw[hbb]at HL3;obtain rfl:bi=ui:=(by simpa using hbb);clear hbb;have hany:r.any (Ed τ)=true:=by
      rw[<-List.take_append_drop (k+1) r,List.any_append,ah HL3];rfl
     have HA:=aj hany;clear hany
     go_wp2_with fail
     have hF:=heap_setCell_same (i:=1) (u:=.bool bi) (heap_setCell_same (i:=0) (u:=.int .i64 ux) (ah HL4));have hbF:=((ah HB2).setCell (p:=⟨w.heap.size,0,none⟩) (SH _) (.int .i64 ux)).setCell (p:=⟨w.heap.size,1,none⟩) (SH _) (.bool bi);generalize (W2.setCell ⟨w.heap.size,0,none⟩ (.int .i64 ux)).setCell ⟨w.heap.size,1,none⟩ (.bool bi)=WF at hF hbF ⊢;have f0:WF.cell? ⟨w.heap.size,0,none⟩=some (.int .i64 ux):=(by rw[cell_of hF];rfl);have f1:WF.cell? ⟨w.heap.size,1,none⟩=some (.bool bi):=(by rw[cell_of hF];rfl);refine ad8 (v:=.tuple #[.agg #[.int .i64 ux,.bool bi],.int .i64 (-1)]) (by simp[results,results175,go_sem,f0,f1]) rfl ⟨Or.inl ⟨ah HA,(ux,bi),rfl⟩,hbF⟩
  ·have hkk:k=r.length:=(by omega);have hbd:¬(k:Int)<(r.length:Int):=(by omega);rw[hkk,ag4]at hany hlast;have lc0:wr.cell? ⟨w.heap.size,0,none⟩=some (.int .i64 (dP τ r).1):=(by rw[cell_of hlast];rfl);have lc1:wr.cell? ⟨w.heap.size,1,none⟩=some (.bool (dP τ r).2):=(by rw[cell_of hlast];rfl);have fz0:wr.frozen? ⟨w.heap.size,0,none⟩=false:=(by simp[World.frozen?,hlast]);have fz1:wr.frozen? ⟨w.heap.size,1,none⟩=false:=(by simp[World.frozen?,hlast]);have HA:=aj hany;have HBW:=aj hbw;have hfl:(List.filter (unk τ) (r.take k)).length=(r.filter (unk τ)).length:=(by rw[hkk,ag4]);rw[hfl];have HLA:=aj hlast;clear hany hlast hbw hfl hkk;generalize hlu:dP τ r=lu at lc0 lc1 HLA;generalize hcu:(r.filter (unk τ)).length=cu;have HLU:=aj hlu;have HCU:=aj hcu;clear hlu hcu;obtain⟨lx,li⟩:=lu;simp only at lc0 lc1 HLA
   go_wp2_with fail
   have hF:=heap_setCell_same (i:=1) (u:=.bool li) (heap_setCell_same (i:=0) (u:=.int .i64 lx) (ah HLA));have hbF:=((ah HBW).setCell (p:=⟨w.heap.size,0,none⟩) (SH _) (.int .i64 lx)).setCell (p:=⟨w.heap.size,1,none⟩) (SH _) (.bool li);generalize (wr.setCell ⟨w.heap.size,0,none⟩ (.int .i64 lx)).setCell ⟨w.heap.size,1,none⟩ (.bool li)=WF at hF hbF ⊢;have f0:WF.cell? ⟨w.heap.size,0,none⟩=some (.int .i64 lx):=(by rw[cell_of hF];rfl);have f1:WF.cell? ⟨w.heap.size,1,none⟩=some (.bool li):=(by rw[cell_of hF];rfl);refine ad8 (v:=.tuple #[.agg #[.int .i64 lx,.bool li],.int .i64 cu]) (by simp[results,results175,go_sem,f0,f1]) rfl ⟨Or.inr ⟨ah HA,?_⟩,hbF⟩;rw[ah HLU,ah HCU]
end
namespace aB
structure fH(cs:List (Int×Nat))(ps:List Key):Prop where
 letter:∀q∈ps,q.1=80\/q.1=81->∃h:q.2.1<cs.length,cs[q.2.1].1=q.1
 has:∀c (h:c<cs.length),(cs[c].1,c,0)∈ps
def isAtom(c:Int):Bool:=decide (c=61\/c=80\/c=81)
def cnt(p:Int->Bool)(ps:List Key):Nat:=ps.countP λq=>p q.1
theorem zi(p:Int->Bool)(ps:List Key)(q:Key):cnt p (put ps q)<=cnt p ps+(if p q.1 then 1 else 0):=by
 unfold cnt put;split
 ·omega
 ·rw[List.countP_append];simp only[am9,List.countP_nil,aj9];exact SH _
def D8(a:Nat)(cs:List (Int×Nat))(ps:List Key):RP->Prop
 |.error _=>True
 |.ok (a1,_,cs1,ps1,_)=>a<a1/\6*cnt au ps1+3+a<=6*cnt au ps+a1/\3*(cnt au ps1+cnt isAtom ps1)+a<=3*(cnt au ps+cnt isAtom ps)+a1/\(fH cs ps->fH cs1 ps1)
theorem fH.uO{cs:List (Int×Nat)}{ps:List Key}(h:fH cs ps){q:Key}(hq:¬(q.1=80\/q.1=81)):fH cs (put ps q):=by
 refine⟨λp hp hc=>?_,λc hc=>?_⟩
 ·unfold put at hp;split at hp
  ·exact h.letter p hp hc
  ·rcases ae4.1 hp with hp|hp
   ·exact h.letter p hp hc
   ·rw[ad4.1 hp]at hc;exact absurd hc hq
 ·unfold put;split
  ·exact h.has c hc
  ·exact ag2 _ (h.has c hc)
theorem fH.Kw{cs:List (Int×Nat)}{ps:List Key}(h:fH cs ps)(k:Int×Nat):fH (put cs k) (put ps (k.1,cs.idxOf k,0)):=by
 have hsub:∀c (hc:c<cs.length),∃h':c<(put cs k).length,(put cs k)[c]=cs[c]:=λc hc=>by
  unfold put;split
  ·exact⟨hc,rfl⟩
  ·exact⟨by simp;omega,ah2 hc⟩
 have hidx:∃h':cs.idxOf k<(put cs k).length,(put cs k)[cs.idxOf k]=k:=by
  unfold put;split
  ·rename_i hc;have hm:k∈cs:=(by simpa using hc);exact⟨ai0.2 hm,af9 _⟩
  ·rename_i hc;have hm:k∉cs:=(by simpa using hc);have e:=ag5 hm;refine⟨by rw[e];simp,?_⟩;simp[e]
 have hpm:∀p,p∈put ps (k.1,cs.idxOf k,0)↔p∈ps\/p=(k.1,cs.idxOf k,0):=λp=>by
  unfold put;split
  ·rename_i hc;constructor
   ·exact Or.inl
   ·rintro(h1|rfl)
    ·exact h1
    ·simpa using hc
  ·simp
 refine⟨λq hq hc=>?_,λc hc=>?_⟩
 ·rcases(hpm q).1 hq with hq|rfl
  ·obtain⟨h1,h2⟩:=h.letter q hq hc;obtain⟨h3,h4⟩:=hsub _ h1;exact⟨h3,by rw[h4];exact h2⟩
  ·obtain⟨h1,h2⟩:=hidx;exact⟨h1,by simp only;rw[h2]⟩
 ·by_cases hlt:c<cs.length
  ·obtain⟨h3,h4⟩:=hsub c hlt;rw[h4];exact(hpm _).2 (Or.inl (h.has c hlt))
  ·have hn:¬cs.contains k=true:=by
    intro hc2;unfold put at hc;rw[ac8 hc2]at hc;exact hlt hc
   have hm:k∉cs:=(by simpa using hn);have hle:c=cs.length:=by
    unfold put at hc;rw[ac5 hn]at hc;simp at hc;omega
   have e:=ag5 hm;obtain⟨h1,h2⟩:=hidx;have e2:c=cs.idxOf k:=(by omega);subst e2;refine(hpm _).2 (Or.inr ?_);rw[h2]
section
variable {pk:Nat->Int} {N:Nat}
theorem su{a a1:Nat}{cs cs1:List (Int×Nat)}{ps ps1 aF:List Key}{q:Key}(h1:a<a1)
 (hj:6*(cnt au ps1+(if au q.1 then 1 else 0))+3+a<=6*cnt au ps+a1)
 (hs:3*(cnt au ps1+(if au q.1 then 1 else 0)+(cnt isAtom ps1+(if isAtom q.1 then 1 else 0)))+a<=3*(cnt au ps+cnt isAtom ps)+a1)
 (hk:fH cs ps->fH cs1 (put ps1 q)):D8 a cs ps (rG (.ok (a1,aF,cs1,ps1,q))):=by
 have e1:=zi au ps1 q;have e2:=zi isAtom ps1 q;exact⟨h1,by omega,by omega,hk⟩
theorem NJ(hpk:∀a,pk a≠0->a<N):∀(n a d:Nat) (ts:List Key) (cs:List (Int×Nat)) (ps:List Key),a<=N->D8 a cs ps (iQ pk n a d ts cs ps):=by
 intro n
 induction n with
 |zero=>intro a d ts cs ps _;trivial
 |succ n ih=>
  intro a d ts cs ps ha;unfold iQ;split
  ·rename_i e;have hl:=hpk a (by omega);have h:=ih (a+1) d ts cs ps (by omega);rcases hR:iQ pk n (a+1) d ts cs ps with e|⟨a1,aF,cs1,ps1,m⟩
   ·trivial
   ·rw[hR]at h;obtain⟨h1,h2,h3,h4⟩:=h;refine su (by omega) (by simp[au];omega) (by simp[au,isAtom];omega) (λhk=>(h4 hk).uO (by simp))
  ·split
   ·rename_i e;have hl:=hpk a (by omega);unfold Ku;split
    ·trivial
    ·have h:=ih (a+1) (d+1) ts cs ps (by omega);have hF:=ni hpk n (a+1) (d+1) ts cs (by omega);rw[<-kL pk n (a+1) (d+1) ts cs ps]at hF;rcases hR:iQ pk n (a+1) (d+1) ts cs ps with e|⟨a1,aF,cs1,ps1,m1⟩
     ·trivial
     ·rw[hR]at h hF;obtain⟨h1,h2,h3,h4⟩:=h;obtain⟨g1,g2,_⟩:=hF
      show D8 a cs ps (rG (if au (pk a1)=true then _ else _))
      split
      ·rename_i hj;have hl1:=hpk a1 (λe=>by rw[e]at hj;simp[au]at hj);have h':=ih (a1+1) (d+1) aF cs1 ps1 (by omega);rcases hR2:iQ pk n (a1+1) (d+1) aF cs1 ps1 with e|⟨a2,ts2,cs2,ps2,m2⟩
       ·trivial
       ·rw[hR2]at h';obtain⟨k1,k2,k3,k4⟩:=h'
        show D8 a cs ps (rG (if pk a2=41 then _ else _))
        split
        ·have hna:isAtom (pk a1)=false:=by
          simp[au]at hj;simp[isAtom];omega
         have hn8:¬(pk a1=80\/pk a1=81):=by
          simp[au]at hj;omega
         exact su (by omega) (by simp only[hj,ai4];omega) (by simp only[hj,hna,ai4];simp;omega) (λhk=>(k4 (h4 hk)).uO hn8)
        ·trivial
      ·trivial
   ·split
    ·rename_i e8;have hl:=hpk a (by omega);have h':=iH hpk (rec:=eF pk (n+1)) (a:=a+1) (d:=d) (ts:=ts) (by omega) (λh40=>cZ hpk _ _ _ _ (by have:=hpk (a+1) (by omega);omega));have h4:∀a1 aF m,arg1 pk (eF pk (n+1)) (a+1) d ts=.ok (a1,aF,m)->a+4<=a1:=by
      intro a1 aF m hA;unfold arg1 at hA;split at hA
      ·rename_i h40;have hl2:=hpk (a+1) (by omega);have h5:=cZ hpk (n+1) (a+1+1) (d+1) ts (by omega);split at hA
       ·cases hA
       ·rcases hR3:eF pk (n+1) (a+1+1) (d+1) ts with e|⟨b1,us1,m3⟩
        ·rw[hR3]at hA;cases hA
        ·rw[hR3]at hA h5;obtain⟨p1,_⟩:=h5;simp only at hA;split at hA
         ·cases hA;omega
         ·cases hA
      ·cases hA
     unfold Rz;rcases hR:arg1 pk (eF pk (n+1)) (a+1) d ts with e|⟨a1,aF,m⟩
     ·trivial
     ·have h5:=h4 _ _ _ hR;have hnj:au (pk a)=false:=by
       rcases e8 with e|e<;>(rw[e];decide)
      have hat:isAtom (pk a)=true:=by
       rcases e8 with e|e<;>(rw[e];decide)
      exact su (by omega) (by simp only[hnj];simp;omega) (by simp only[hnj,hat,ai4];simp;omega) (λhk=>hk.Kw _)
    ·have h:=cZ hpk (n+1) a d ts ha;unfold BJ;rcases hR:eF pk (n+1) a d ts with e|⟨a1,aF,m1⟩
     ·trivial
     ·rw[hR]at h;obtain⟨p1,p2,p3,p4,p5⟩:=h
      show D8 a cs ps (rG (if pk a1=61 then _ else _))
      split
      ·rename_i h61;have hl1:=hpk a1 (by omega);have h2:=cZ hpk (n+1) (a1+1) d aF (by omega);rcases hR2:eF pk (n+1) (a1+1) d aF with e|⟨a2,ts2,m2⟩
       ·trivial
       ·rw[hR2]at h2;obtain⟨q1,q2,q3,q4,q5⟩:=h2;exact su (by omega) (by simp[au];omega) (by simp[au,isAtom];omega) (λhk=>hk.uO (by simp))
      ·trivial
end
end aB
end Go.Proofs.YthcppbmkacbbiaaGreat
