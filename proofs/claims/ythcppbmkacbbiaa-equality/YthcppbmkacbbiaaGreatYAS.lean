import Derived.Test.YthcppbmkacbbiaaGreatYAQ
import Derived.Test.YthcppbmkacbbiaaGreatYAP
set_option linter.unusedSimpArgs false
set_option maxHeartbeats 4000000
set_option maxRecDepth 100000
namespace Go.Proofs.YthcppbmkacbbiaaGreat
open Go.Proofs.Tryz
section
open Go.RowKit Go.Maps Go.WideMaps
open Sat (View Rule jw bI)
theorem wO(w:World)(b U:Nat)(rv ov:Value)(tp:List UInt8)(m:Nat)(τ:List Tr)(q:Tr)(h:oI w b U rv ov tp (some m))(hB:bG w m τ)(hl:τ.length<=1000)(hx:q.1<=1000)(hq:q.1∉τ.map (·.1))(hv:aQ w q.2.2.1 q.2.2.2) :
  Calls prog 176 #[.pointer (some ⟨b,0,none⟩),.agg #[.int .i64 q.1,.bool q.2.1],q.2.2.1] w λe w'=>(∃v,e=.returned v)/\bG w' m (τ++[q])/\w.grownBy w' (some m):=by
 obtain⟨x,i,v,r⟩:=q;obtain⟨rp,rc,hvr⟩:=hv.len;simp only at hvr;subst hvr;obtain⟨W1,hW1⟩:∃W1,(w.alloc (.cells #[.int .i64 x,.bool i] 214)).drew=W1:=⟨_,rfl⟩;have hg0:w.grownBy (w.alloc (.cells #[.int .i64 x,.bool i] 214)) none:=ac1 _ _ none;have hg1:w.grownBy W1 none:=by rw[<-hW1];exact hg0.trans ⟨rfl,rfl,rfl,ac2 _,λ_ _ _=>rfl⟩
 have hb1:=But.aA hg1;have hno:∀k,some k=none->jI w k:=λk e=>by cases e
 have hB1:bG W1 m τ:=hB.but hb1 hno (by simp);have h1:oI W1 b U rv ov tp (some m):=h.kept (hg1.block b h.lt (by simp));obtain⟨c0,c1,c2,c3,c4⟩:=h1.cells;have k0:W1.cell? ⟨w.heap.size,0,none⟩=some (.int .i64 x):=by rw[<-hW1];simp[go_sem]
 have k1:W1.cell? ⟨w.heap.size,1,none⟩=some (.bool i):=by rw[<-hW1];simp[go_sem]
 have hlen:=hB1.len 3;obtain⟨w2,hrun,hB2,hg2⟩:=hB1.put (q:=(x,i,.slice rp r.length rc,r)) hl hx hq (hv.but hb1 hno);have HB2:=aj hB2;have HG2:=aj ((hg1.but (some m)).trans hg2);clear hB hB1 h h1 hv hno hb1 hg0 hg1 hB2 hg2 hq
 go_enter func176,ntmps176
 go_wp2_with fail
 refine wp_region_any rfl (jy (S:=λW'=>W'=W1) (z:=15) _ _ _ _ ?_);have hS0:W1=W1:=rfl;simp only[ad3,ac9,ae1,Nat.reduceAdd,ac7,ac6,ad5,ad9,ad8];change wpAnyL prog .any _ _ _ _ _ _ _ (w.alloc (.cells #[.int .i64 x,.bool i] 214)).drew;rw[hW1];clear hW1;refine tL 0 (.pointer (some ⟨b,0,none⟩)) (λw' hS=>?_) hS0 ?_
 ·subst hS;go_simp
 simp only[aC];refine tL 1 (.pointer (some ⟨b,0,none⟩)) (λw' hS=>?_) hS0 ?_
 ·subst hS;go_simp
 simp only[aC];refine tL 2 (.pointer (some ⟨b,4,none⟩)) (λw' hS=>?_) hS0 ?_
 ·subst hS;go_simp
 simp only[aC];refine tL 3 (.map (some m)) (λw' hS=>?_) hS0 ?_
 ·subst hS;go_simp
 simp only[aC];refine tL 4 (.pointer (some ⟨w.heap.size,0,none⟩)) (λw' hS=>?_) hS0 ?_
 ·subst hS;go_simp
 simp only[aC];refine tL 5 (.int .i64 x) (λw' hS=>?_) hS0 ?_
 ·subst hS;go_simp
 simp only[aC];refine tL 6 (.pointer (some ⟨w.heap.size,1,none⟩)) (λw' hS=>?_) hS0 ?_
 ·subst hS;go_simp
 simp only[aC];refine tL 7 (.bool i) (λw' hS=>?_) hS0 ?_
 ·subst hS;go_simp
 simp only[aC];refine tL 8 (.pointer (some ⟨b,0,none⟩)) (λw' hS=>?_) hS0 ?_
 ·subst hS;go_simp
 simp only[aC];refine tL 9 (.pointer (some ⟨b,0,none⟩)) (λw' hS=>?_) hS0 ?_
 ·subst hS;go_simp
 simp only[aC];refine tL 10 (.pointer (some ⟨b,4,none⟩)) (λw' hS=>?_) hS0 ?_
 ·subst hS;go_simp
 simp only[aC];refine tL 11 (.map (some m)) (λw' hS=>?_) hS0 ?_
 ·subst hS;go_simp
 simp only[aC];refine tL 12 (.int .i64 τ.length) (λw' hS=>?_) hS0 ?_
 ·subst hS;simp[execOp,resolve,invoke,builtin,hlen,Result.andThen,go_sem]
 simp only[aC];refine tL 13 (.slice rp r.length rc) (λw' hS=>?_) hS0 ?_
 ·subst hS;go_simp
 simp only[aC];refine tL 14 (.agg #[.bool i,.int .i64 τ.length,.slice rp r.length rc]) (λw' hS=>?_) hS0 ?_
 ·subst hS;go_simp
 simp only[aC];refine oL 15 (λK hK=>?_);have hrun':(Instr.mapUpdate 159 (.map (some m)) (.int .i64 x) (.agg #[.bool i,.int .i64 τ.length,.slice rp r.length rc])).run prog W1=.ok () w2:=hrun;clear hrun;go_simp;refine hK.out _ _ (λh=>absurd rfl h) (jC (by kernel_rfl) ?_ _)
 go_end0
 exact⟨⟨_,rfl⟩,ah HB2,ah HG2⟩
def unk(τ:List Tr)(v:View):Bool:=!lG τ v.1
def Ei(τ:List Tr)(v:View):Bool:=match mX τ v.1 with
 |some q=>q.1.2.1==v.2
 |none=>false
def dO(τ:List Tr)(r:Rule):View:=(r.filter (unk τ)).getLastD (0,false)
theorem GV{τ:List Tr}{r:Rule}{k:Nat}(hk:k<r.length):dO τ (r.take (k+1))=if unk τ r[k]then r[k]else dO τ (r.take k):=by
 unfold dO;rw[ag5,ac3 hk,am3];by_cases h:unk τ r[k]=true<;>simp[h]
theorem Nq{τ:List Tr}{r:Rule}{k:Nat}(hk:k<r.length):((r.take (k+1)).filter (unk τ)).length=((r.take k).filter (unk τ)).length+if unk τ r[k]then 1 else 0:=by
 rw[ag5,ac3 hk,am3];by_cases h:unk τ r[k]=true<;>simp[h]
theorem NG{α:Type}{p:α->Bool}{r:List α}{k:Nat}(hk:k<r.length):(r.take (k+1)).any p=((r.take k).any p||p r[k]):=by
 rw[ag5,ac3 hk,List.any_append];simp
theorem bG.AQ{w:World}{m:Nat}{τ:List Tr}(h:bG w m τ)(x:Nat):∃bi bk p l c,uH τ x=.agg #[.bool bi,.int .i64 bk,.slice p l c]/\∀i,Ei τ (x,i)=(lG τ x&&(bi==i)):=by
 cases e:mX τ x with
 |none=>exact⟨false,0,none,0,0,by simp[uH,e],λi=>by simp[Ei,lG,e]⟩
 |some q=>
  obtain⟨q,k⟩:=q;obtain⟨h1,hk,h2⟩:=dI e;obtain⟨p,c,h3⟩:=(h.Ny q (h2▸ac4 hk)).len;exact⟨q.2.1,k,p,q.2.2.2.length,c,by simp[uH,e,oV,h3],λi=>by simp[Ei,lG,e]⟩
def opE(τ:List Tr)(r:Rule)(e:Ending):Prop:=
 (r.any (Ei τ)=true/\∃v:View,e=.returned (.tuple #[.agg #[.int .i64 v.1,.bool v.2],.int .i64 (-1)]))\/
 (r.any (Ei τ)=false/\e=.returned (.tuple #[.agg #[.int .i64 (dO τ r).1,.bool (dO τ r).2],.int .i64 (r.filter (unk τ)).length]))
theorem open_any(w:World)(b U:Nat)(rv ov:Value)(tp:List UInt8)(m:Nat)(τ:List Tr)(h:oI w b U rv ov tp (some m))(hB:bG w m τ)(v:Value)(r:Rule)(hv:aQ w v r)(hr:r≠[])(hr5:r.length<=1000)(hx:∀u∈r,u.1<=1000) :
  Calls prog 175 #[.pointer (some ⟨b,0,none⟩),v] w λe w'=>opE τ r e/\Below w.heap.size w w':=by
 rcases hv with⟨hv,_⟩|⟨g,cap,cur,x,rfl,hg,_,hcur⟩
 ·exact absurd hv hr
 have hgl:g<w.heap.size:=(ac0.1 hg).1;have hc:∀W:World,Below w.heap.size w W->∀k (hk:k<r.length),W.cell? ⟨g,k*2,none⟩=some (.int .i64 r[k].1)/\W.cell? ⟨g,k*2+1,none⟩=some (.bool r[k].2):=λW hW k hk=>by
  rw[hW.cell (p:=⟨g,_,none⟩) hgl,hW.cell (p:=⟨g,_,none⟩) hgl,cell_of hg,cell_of hg];exact hcur k hk
 have hc4:∀W:World,Below w.heap.size w W->W.cell? ⟨b,4,none⟩=some (.map (some m)):=λW hW=>by
  rw[hW.cell (p:=⟨b,_,none⟩) h.lt];exact h.cells.2.2.2.2
 have hlook:∀W:World,Below w.heap.size w W->∀k (hk:k<r.length),(Instr.lookup 159 (.map (some m)) (.int .i64 r[k].1) true).run prog W=.ok (.tuple #[uH τ r[k].1,.bool (lG τ r[k].1)]) W:=λW hW k hk=>
  (hB.but (But.of_below hW (λ_=>False)) (λ_ h=>h.elim) (λh=>h)).look (hx _ (ac4 hk))
 have hsh:=λx=>hB.AQ x;have HSH:=aj hsh;clear hsh;have HC:=aj hc;have HC4:=aj hc4;have HL:=aj hlook;have hbl:=h.lt;clear hc hc4 hlook hcur hg hB h hx
 go_enter func175,ntmps175
 go_wp2_with fail
 go_loopw [5,12] (λo i wr=>∃k:Nat,k<=r.length/\i=.int .i64 k/\o=.int .i64 ((r.take k).filter (unk τ)).length/\(r.take k).any (Ei τ)=false/\wr.heap[w.heap.size]?=some (.cells #[.int .i64 (dO τ (r.take k)).1,.bool (dO τ (r.take k)).2] 214 (0,0))/\Below w.heap.size w wr) (λ_ i _=>r.length-(intOf i).toNat)
 case atStart=>
  refine⟨0,ag3 _,rfl,rfl,rfl,?_,(af5 _ _).alloc (ac2 _) _⟩;rw[ad7];rfl
 case round=>
  obtain⟨k,hk,rfl,rfl,hany,hlast,hbw⟩:=hrel;by_cases hlt:k<r.length
  ·have hbd:(k:Int)<(r.length:Int):=(by omega);obtain⟨d0,d1⟩:=ah HC wr hbw k hlt;have hl1:=GV (τ:=τ) hlt;have hl2:=Nq (τ:=τ) hlt;have hl3:=NG (p:=Ei τ) hlt;rw[hany,Bool.false_or]at hl3;have HL1:=aj hl1;have HL2:=aj hl2;have HL3:=aj hl3;have HBW:=aj hbw;have HLA:=aj hlast;clear hl1 hl2 hl3 hbw hlast hany;have hlk:Hid (∀W:World,Below w.heap.size w W->(Instr.lookup 159 (.map (some m)) (.int .i64 r[k].1) true).run prog W=.ok (.tuple #[uH τ r[k].1,.bool (lG τ r[k].1)]) W):=λW hW=>ah HL W hW k hlt;generalize r[k]=u at d0 d1 HL1 HL2 HL3 hlk;obtain⟨ux,ui⟩:=u;simp only at d0 d1 hlk;obtain⟨bi,bk,bp,bl,bc,hsh,hrg⟩:=ah HSH ux;rw[hsh]at hlk;have HRG:=aj hrg;have hun:unk τ (ux,ui)=!lG τ ux:=rfl;rw[hun]at HL1 HL2;rw[hrg]at HL3;clear hsh hrg hun;generalize lG τ ux=ko at hlk HRG HL1 HL2 HL3
   go_wp2_with fail
   obtain⟨W1,hW1⟩:∃W1,wr.alloc (.cells #[.int .i64 ux,.bool ui] 214)=W1:=⟨_,rfl⟩;have hbW:Below w.heap.size w W1:=(by rw[<-hW1];exact(ah HBW).alloc (ah HBW).size _);have hsW:W1.heap.size=wr.heap.size+1:=(by rw[<-hW1];simp);have k0:W1.cell? ⟨wr.heap.size,0,none⟩=some (.int .i64 ux):=(by rw[<-hW1];simp[go_sem]);have k1:W1.cell? ⟨wr.heap.size,1,none⟩=some (.bool ui):=(by rw[<-hW1];simp[go_sem]);have hlW:W1.heap[w.heap.size]?=some (.cells #[.int .i64 (dO τ (r.take k)).1,.bool (dO τ (r.take k)).2] 214 (0,0)):=by
    rw[<-hW1,ad4 _ _ _ (ac0.1 (ah HLA)).1];exact ah HLA
   have hwl:w.heap.size<wr.heap.size:=(ac0.1 (ah HLA)).1;have HLW:=aj hlW;have hc4:=ah HC4 W1 hbW;have HSW:=aj hsW;have Xk:=aj hbW;rw[hW1];clear hW1 hlW hsW hbW HLA HBW d0 d1;refine ag0 (S:=λW'=>W1.grownBy W' none) rfl ?_;have hS0:W1.grownBy W1.drew none:=⟨rfl,rfl,rfl,ac2 _,λ_ _ _=>rfl⟩;have hSb:Hid (∀W',W1.grownBy W' none->Below w.heap.size w W'):=λW' h=>(ah Xk).grown h (ah Xk).size (λk e=>by cases e);simp only[ad3,ac9,ae1,Nat.reduceAdd,ac7,ac6,ad5,ad9,ad8];change wpAnyH prog .any _ _ _ _ _ _ W1.drew;refine tH 0 (.pointer (some ⟨b,0,none⟩)) (λw' hS=>?_) hS0 ?_
   ·go_simp
   simp only[aC];refine tH 1 (.pointer (some ⟨b,0,none⟩)) (λw' hS=>?_) hS0 ?_
   ·go_simp
   simp only[aC];refine tH 2 (.pointer (some ⟨b,4,none⟩)) (λw' hS=>?_) hS0 ?_
   ·go_simp
   simp only[aC];refine tH 3 (.map (some m)) (λw' hS=>?_) hS0 ?_
   ·have q:=hS.cell hc4 (by simp);go_simp
   simp only[aC];refine tH 4 (.pointer (some ⟨wr.heap.size,0,none⟩)) (λw' hS=>?_) hS0 ?_
   ·go_simp
   simp only[aC];refine tH 5 (.int .i64 ux) (λw' hS=>?_) hS0 ?_
   ·have q:=hS.cell k0 (by simp);go_simp
   simp only[aC];refine tH 6 (.tuple #[.agg #[.bool bi,.int .i64 bk,.slice bp bl bc],.bool ko]) (λw' hS=>?_) hS0 ?_
   ·have q:=ah hlk w' (ah hSb w' hS);go_simp
   simp only[aC];refine tH 7 (.tuple #[.agg #[.bool bi,.int .i64 bk,.slice bp bl bc],.bool ko]) (λw' hS=>?_) hS0 ?_
   ·go_simp
   simp only[aC];refine tH 8 (.agg #[.bool bi,.int .i64 bk,.slice bp bl bc]) (λw' hS=>?_) hS0 ?_
   ·go_simp
   simp only[aC];refine tH 9 (.bool ko) (λw' hS=>?_) hS0 ?_
   ·go_simp
   simp only[aC];refine oH 10 (λK hK=>?_);go_simp;have hS1:W1.grownBy (W1.alloc (.cells #[.bool false,.int .i64 0,.slice none 0 0] 229)).drew none:=(ac1 _ _ none).trans ⟨rfl,rfl,rfl,ac2 _,λ_ _ _=>rfl⟩;refine hK.out _ _ hS1 ?_;clear hK K;refine oH 11 (λK hK=>?_);go_simp;have hS2:W1.grownBy (W1.alloc (.cells #[.bool bi,.int .i64 bk,.slice bp bl bc] 229)).drew none:=(ac1 _ _ none).trans ⟨rfl,rfl,rfl,ac2 _,λ_ _ _=>rfl⟩;refine hK.out _ _ hS2 ?_;clear hK K;refine oH 12 (λK hK=>?_);go_simp;refine hK.out _ _ hS2 (af4 (by kernel_rfl) ?_ _);clear hK K;obtain⟨W2,hW2⟩:∃W2,(W1.alloc (.cells #[.bool bi,.int .i64 bk,.slice bp bl bc] 229)).drew=W2:=⟨_,rfl⟩;have n0:W2.cell? ⟨W1.heap.size,0,none⟩=some (.bool bi):=(by rw[<-hW2];simp[go_sem]);have b2:Below w.heap.size w W2:=(by rw[<-hW2];exact ah hSb _ hS2);have q0:W2.cell? ⟨wr.heap.size,0,none⟩=some (.int .i64 ux):=(by rw[<-hW2];exact hS2.cell k0 (by simp));have q1:W2.cell? ⟨wr.heap.size,1,none⟩=some (.bool ui):=(by rw[<-hW2];exact hS2.cell k1 (by simp));have hl2:W2.heap[w.heap.size]?=some (.cells #[.int .i64 (dO τ (r.take k)).1,.bool (dO τ (r.take k)).2] 214 (0,0)):=by
    rw[<-hW2,hS2.block _ (by have:=ah HSW;omega) (by simp)];exact ah HLW
   have fz0:W2.frozen? ⟨w.heap.size,0,none⟩=false:=(by simp[World.frozen?,hl2]);have fz1:W2.frozen? ⟨w.heap.size,1,none⟩=false:=(by simp[World.frozen?,hl2]);have lc0:W2.cell? ⟨w.heap.size,0,none⟩=some (.int .i64 (dO τ (r.take k)).1):=(by rw[cell_of hl2];rfl);have lc1:W2.cell? ⟨w.heap.size,1,none⟩=some (.bool (dO τ (r.take k)).2):=(by rw[cell_of hl2];rfl);have HB2:=aj b2;have HL4:=aj hl2;rw[hW2];clear hW2 hS0 hS1 hS2 k0 k1 hc4 b2 hl2;cases ko
   ·simp only[Bool.not_false,aj0,Bool.false_and]at HL1 HL2 HL3
    go_wp2_with fail
    refine⟨⟨k+1,hlt,by go_num,?_,ah HL3,?_,((ah HB2).setCell (ac2 _) _).setCell (ac2 _) _⟩,by simp[intOf];omega⟩
    ·have hcb:((r.take k).filter (unk τ)).length<=1000:=ae4 (List.length_filter_le _ _) (ae4 (List.length_take_le' _ _) hr5);rw[ah HL2];congr 1;unfold wrap64;omega
    ·rw[ah HL1,heap_setCell_same (heap_setCell_same (ah HL4))];rfl
   ·simp only[Bool.not_true,am4,am7,Bool.true_and]at HL1 HL2 HL3;cases hbb:bi==ui
    ·rw[hbb]at HL3;have hbn:(bi=ui)=False:=by simpa using hbb
     go_wp2_with fail
     exact⟨⟨k+1,hlt,by go_num,by rw[ah HL2];rfl,ah HL3,by rw[ah HL1];exact ah HL4,ah HB2⟩,by simp[intOf];omega⟩
    ·rw[hbb]at HL3;obtain rfl:bi=ui:=(by simpa using hbb);clear hbb;have hany:r.any (Ei τ)=true:=by
      rw[<-List.take_append_drop (k+1) r,List.any_append,ah HL3];rfl
     have HA:=aj hany;clear hany
     go_wp2_with fail
     have hF:=heap_setCell_same (i:=1) (u:=.bool bi) (heap_setCell_same (i:=0) (u:=.int .i64 ux) (ah HL4));have hbF:=((ah HB2).setCell (p:=⟨w.heap.size,0,none⟩) (ac2 _) (.int .i64 ux)).setCell (p:=⟨w.heap.size,1,none⟩) (ac2 _) (.bool bi);generalize (W2.setCell ⟨w.heap.size,0,none⟩ (.int .i64 ux)).setCell ⟨w.heap.size,1,none⟩ (.bool bi)=WF at hF hbF ⊢;have f0:WF.cell? ⟨w.heap.size,0,none⟩=some (.int .i64 ux):=(by rw[cell_of hF];rfl);have f1:WF.cell? ⟨w.heap.size,1,none⟩=some (.bool bi):=(by rw[cell_of hF];rfl);refine af2 (v:=.tuple #[.agg #[.int .i64 ux,.bool bi],.int .i64 (-1)]) (by simp[results,results175,go_sem,f0,f1]) rfl ⟨Or.inl ⟨ah HA,(ux,bi),rfl⟩,hbF⟩
  ·have hkk:k=r.length:=(by omega);have hbd:¬(k:Int)<(r.length:Int):=(by omega);rw[hkk,ai1]at hany hlast;have lc0:wr.cell? ⟨w.heap.size,0,none⟩=some (.int .i64 (dO τ r).1):=(by rw[cell_of hlast];rfl);have lc1:wr.cell? ⟨w.heap.size,1,none⟩=some (.bool (dO τ r).2):=(by rw[cell_of hlast];rfl);have fz0:wr.frozen? ⟨w.heap.size,0,none⟩=false:=(by simp[World.frozen?,hlast]);have fz1:wr.frozen? ⟨w.heap.size,1,none⟩=false:=(by simp[World.frozen?,hlast]);have HA:=aj hany;have HBW:=aj hbw;have hfl:(List.filter (unk τ) (r.take k)).length=(r.filter (unk τ)).length:=(by rw[hkk,ai1]);rw[hfl];have HLA:=aj hlast;clear hany hlast hbw hfl hkk;generalize hlu:dO τ r=lu at lc0 lc1 HLA;generalize hcu:(r.filter (unk τ)).length=cu;have HLU:=aj hlu;have HCU:=aj hcu;clear hlu hcu;obtain⟨lx,li⟩:=lu;simp only at lc0 lc1 HLA
   go_wp2_with fail
   have hF:=heap_setCell_same (i:=1) (u:=.bool li) (heap_setCell_same (i:=0) (u:=.int .i64 lx) (ah HLA));have hbF:=((ah HBW).setCell (p:=⟨w.heap.size,0,none⟩) (ac2 _) (.int .i64 lx)).setCell (p:=⟨w.heap.size,1,none⟩) (ac2 _) (.bool li);generalize (wr.setCell ⟨w.heap.size,0,none⟩ (.int .i64 lx)).setCell ⟨w.heap.size,1,none⟩ (.bool li)=WF at hF hbF ⊢;have f0:WF.cell? ⟨w.heap.size,0,none⟩=some (.int .i64 lx):=(by rw[cell_of hF];rfl);have f1:WF.cell? ⟨w.heap.size,1,none⟩=some (.bool li):=(by rw[cell_of hF];rfl);refine af2 (v:=.tuple #[.agg #[.int .i64 lx,.bool li],.int .i64 cu]) (by simp[results,results175,go_sem,f0,f1]) rfl ⟨Or.inr ⟨ah HA,?_⟩,hbF⟩;rw[ah HLU,ah HCU]
end
open aB (Key)
def iL(f:Nat->Nat)(l:List (Nat×Nat)):Nat->Nat:=l.foldl (λf p=>ou f p.1 p.2) f
theorem AY(f:Nat->Nat)(l:List (Nat×Nat))(p:Nat×Nat):iL f (l++[p])=ou (iL f l) p.1 p.2:=by
 unfold iL;rw[an0];rfl
def rts(f:Nat->Nat)(n:Nat):Nat:=(List.range n).countP λi=>decide (f i=i)
def iK(f:Nat->Nat)(n:Nat):Prop:=∀i,i<n->f i<n/\f (f i)=f i
theorem Oi(n:Nat):iK id n:=λ_ h=>⟨h,rfl⟩
theorem iK.ou{f:Nat->Nat}{n:Nat}(h:iK f n){i j:Nat}(hi:i<n):iK (ou f i j) n:=by
 intro k hk;have h1:=h k hk;have h2:=h i hi;unfold Proofs.YthcppbmkacbbiaaGreat.ou;by_cases e:f k=f j
 ·rw[ae2 e];refine⟨h2.1,?_⟩;rw[h2.2];by_cases e2:f i=f j
  ·rw[ae2 e2]
  ·rw[ad6 e2]
 ·rw[ad6 e];refine⟨h1.1,?_⟩;rw[h1.2,ad6 e]
theorem iK.iL{f:Nat->Nat}{n:Nat}{l:List (Nat×Nat)}:iK f n->(∀p∈l,p.1<n)->iK (iL f l) n:=by
 induction l generalizing f with
 |nil=>intro h _;exact h
 |cons p l ih=>intro h hl;exact ih (h.ou (hl p (by simp))) (λq hq=>hl q (by simp[hq]))
theorem tN(f:Nat->Nat)(i j k:Nat)(h:f k=f j):ou f i j k=f i:=by unfold ou;rw[ae2 h]
theorem mW(f:Nat->Nat)(i j k:Nat)(h:f k≠f j):ou f i j k=f k:=by unfold ou;rw[ad6 h]
theorem Tv{f:Nat->Nat}{i j a b:Nat}(h:f a=f b):ou f i j a=ou f i j b:=by unfold ou;rw[h]
theorem Me(f:Nat->Nat)(i j:Nat):ou f i j i=ou f i j j:=by
 unfold ou;rw[ae2 rfl];split<;>rfl
theorem EO{l:List (Nat×Nat)}:∀{f:Nat->Nat} {a b:Nat},f a=f b->iL f l a=iL f l b:=by
 induction l with
 |nil=>intro f a b h;exact h
 |cons p l ih=>intro f a b h;exact ih (Tv h)
theorem yI{l:List (Nat×Nat)}:∀{f:Nat->Nat} {p:Nat×Nat},p∈l->iL f l p.1=iL f l p.2:=by
 induction l with
 |nil=>intro f p h;cases h
 |cons q l ih=>
  intro f p h;rcases ah0.1 h with e|h
  ·subst e;exact EO (l:=l) (Me f p.1 p.2)
  ·exact ih h
structure Xt(R:Nat->Nat->Prop):Prop where
 refl:∀a,R a a
 symm:∀a b,R a b->R b a
 trans:∀a b c,R a b->R b c->R a c
theorem CY(f:Nat->Nat):Xt (λa b=>f a=f b):=⟨λ_=>rfl,λ_ _ h=>h.symm,λ_ _ _ h k=>h.trans k⟩
theorem Vt{R:Nat->Nat->Prop}(hR:Xt R){f:Nat->Nat}{n i j:Nat}(hi:i<n)(hj:j<n)(h:∀a b,a<n->b<n->f a=f b->R a b)(hij:R i j):∀a b,a<n->b<n->ou f i j a=ou f i j b->R a b:=by
 intro a b ha hb e;by_cases e1:f a=f j<;>by_cases e2:f b=f j
 ·exact h a b ha hb (e1.trans e2.symm)
 ·rw[tN _ _ _ _ e1,mW _ _ _ _ e2]at e;exact hR.trans _ _ _ (h a j ha hj e1) (hR.trans _ _ _ (hR.symm _ _ hij) (h i b hi hb e))
 ·rw[mW _ _ _ _ e1,tN _ _ _ _ e2]at e;exact hR.trans _ _ _ (h a i ha hi e) (hR.trans _ _ _ hij (h j b hj hb e2.symm))
 ·rw[mW _ _ _ _ e1,mW _ _ _ _ e2]at e;exact h a b ha hb e
theorem Cb{R:Nat->Nat->Prop}(hR:Xt R){n:Nat}{l:List (Nat×Nat)}:∀{f:Nat->Nat},(∀p∈l,p.1<n/\p.2<n/\R p.1 p.2)->(∀a b,a<n->b<n->f a=f b->R a b)->∀a b,a<n->b<n->iL f l a=iL f l b->R a b:=by
 induction l with
 |nil=>intro f _ h;exact h
 |cons p l ih=>
  intro f hl h;obtain⟨h1,h2,h3⟩:=hl p (by simp);exact ih (λq hq=>hl q (by simp[hq])) (Vt hR h1 h2 h h3)
theorem Np{n:Nat}{p q:Nat->Bool}(hpq:∀i,i<n->p i=true->q i=true){x:Nat}(hx:x<n)(h1:p x=false)(h2:q x=true):(List.range n).countP p+1<=(List.range n).countP q:=by
 induction n with
 |zero=>omega
 |succ n ih=>
  rw[ap9,List.countP_append,List.countP_append];by_cases e:x=n
  ·subst e;have hle:(List.range x).countP p<=(List.range x).countP q:=by
    apply List.countP_mono_left;intro i hi;exact hpq i (by have:=ai5.1 hi;omega)
   simp[h1,h2];omega
  ·have:=ih (λi hi=>hpq i (by omega)) (by omega);have hn:=hpq n (by omega);have:([n]:List Nat).countP p<=([n]:List Nat).countP q:=by
    simp only[ap7,List.countP_nil];cases hp:p n
    ·simp
    ·simp[hn hp]
   omega
theorem xA{f:Nat->Nat}{n i j:Nat}(h:iK f n)(hi:i<n)(hj:j<n)(hne:f i≠f j):rts (ou f i j) n+1<=rts f n:=by
 unfold rts;refine Np (x:=f j) (λk hk e=>?_) (h j hj).1 ?_ ?_
 ·have e:ou f i j k=k:=by simpa using e
  have:f k=k:=by
   by_cases e2:f k=f j
   ·rw[tN _ _ _ _ e2]at e;rw[<-e]at e2;rw[(h i hi).2]at e2;exact absurd e2 hne
   ·rw[mW _ _ _ _ e2]at e;exact e
  simpa using this
 ·have:ou f i j (f j)≠f j:=by rw[tN _ _ _ _ (h j hj).2];exact hne
  simpa using this
 ·simpa using (h j hj).2
theorem Gl{f:Nat->Nat}{n i j:Nat}(h:iK f n)(hi:i<n)(hj:j<n):rts (ou f i j) n<=rts f n:=by
 by_cases e:f i=f j
 ·rw[qh e];exact ac2 _
 ·have:=xA h hi hj e;omega
theorem Vl(f:Nat->Nat)(n:Nat):rts f n<=n:=by
 unfold rts;have:=List.countP_le_length (p:=λi=>decide (f i=i)) (l:=List.range n);simpa using this
def wQ(f:Nat->Nat)(ts:List Key):Prop:=∀p∈bg (mkd f ts) ts.length,f p.1=f p.2
def zO(R:Nat->Nat->Prop)(ts:List Key):Prop:=
 ∀i j (hi:i<ts.length) (hj:j<ts.length),ts[i].1=ts[j].1->R ts[i].2.1 ts[j].2.1->R ts[i].2.2 ts[j].2.2->R i j
theorem iJ(f:Nat->Nat)(ts:List Key):wQ f ts↔zO (λa b=>f a=f b) ts:=by
 have hA:=BN (mkd f ts) (λi j=>f i=f j) (λ_=>rfl) (λ_ _ e=>e.symm) (λ_ _ _ e1 e2=>e1.trans e2);rw[aW]at hA;unfold wQ;rw[hA];constructor
 ·intro h i j hi hj e1 e2 e3;refine h i j hi hj ?_;simp[mkd,hi,hj,e1,e2,e3]
 ·intro h i j hi hj e;simp only[mkd,ak3,ac3 hi,ac3 hj,ap0,ai0,ao9]at e;exact h i j hi hj e.1 e.2.1 e.2.2
theorem Ox{R:Nat->Nat->Prop}{f:Nat->Nat}{ts:List Key}(hR:zO R ts)(ht:∀i (hi:i<ts.length),ts[i].2.1<ts.length/\ts[i].2.2<ts.length)(h:∀a b,a<ts.length->b<ts.length->f a=f b->R a b) :
  ∀p∈bg (mkd f ts) ts.length,p.1<ts.length/\p.2<ts.length/\R p.1 p.2:=by
 intro p hp;have hm:=(iU (mkd f ts) ts.length (by rw[aW];exact ac2 _) p).1 hp;obtain⟨h1,h2,h3⟩:=hm;have hp1:p.1<ts.length:=by omega
 refine⟨hp1,h1,?_⟩;have e:(mkd f ts)[p.1]'(by rw[aW];exact hp1)=(mkd f ts)[p.2]'(by rw[aW];exact h1):=by
  refine(Bc (by rw[aW];exact hp1) (by rw[aW];exact h1)).1 ?_;rw[h2,JL _ _ (by rw[aW];exact h1)]
 simp only[mkd,ak9,ao9]at e;obtain⟨a1,a2⟩:=ht p.1 hp1;obtain⟨b1,b2⟩:=ht p.2 h1;exact hR p.1 p.2 hp1 h1 e.1 (h _ _ a1 b1 e.2.1) (h _ _ a2 b2 e.2.2)
end Go.Proofs.YthcppbmkacbbiaaGreat
