import Derived.Test.YthcppbmkacbbiabGreatWAV
import Derived.Test.YthcppbmkacbbiabGreatWAT
set_option linter.unusedSimpArgs false
set_option maxHeartbeats 4000000
set_option maxRecDepth 100000
namespace Go.Proofs.YthcppbmkacbbiabGreat
open Go.Proofs.Tryz
open Go.RowKit Go.Maps Go.WideMaps
open Sat (View Rule jk bG)
open aB (put)
attribute [local go_sem] Oper.semAt_some
def BD(u:View):List Value:=[.int .i64 u.1,.bool u.2]
def vcs(r:Rule):List Value:=r.flatMap BD
theorem UR(l c:Nat)(W:World):(binOp BinOp.eql 130 (.slice none l c) (.slice none 0 0)).run prog W=.ok (.bool true) W:=by kernel_rfl
theorem UQ(a:Addr)(l c:Nat)(W:World):(binOp BinOp.eql 130 (.slice (some a) l c) (.slice none 0 0)).run prog W=.ok (.bool false) W:=by kernel_rfl
theorem J5:(prog.info? 207).map (λi=>(i.zero,i.size,i.bytes))=some (some (.agg #[.int .i64 0,.bool false]),2,16):=by kernel_rfl
theorem aP.cells{w:World}{v:Value}{r:Rule}(h:aP w v r):∃p cap,v=.slice p r.length cap/\(r=[]->p=none/\cap=0)/\(r≠[]->∃g,p=some ⟨g,0,none⟩/\g<w.heap.size/\∀W:World,Below w.heap.size w W->∀k (hk:k<r.length),W.cell? ⟨g,k*2,none⟩=some (.int .i64 r[k].1)/\W.cell? ⟨g,k*2+1,none⟩=some (.bool r[k].2)):=by
 rcases h with⟨rfl,rfl⟩|⟨g,cap,cur,x,rfl,hg,hne,hcur⟩
 ·exact⟨none,0,rfl,λ_=>⟨rfl,rfl⟩,λh=>absurd rfl h⟩
 ·have hgl:g<w.heap.size:=(ad3.1 hg).1;refine⟨_,cap,rfl,λh=>absurd h hne,λ_=>⟨g,rfl,hgl,λW hW k hk=>?_⟩⟩;rw[hW.cell (p:=⟨g,_,none⟩) hgl,hW.cell (p:=⟨g,_,none⟩) hgl,cell_of hg,cell_of hg];exact hcur k hk
theorem BK{r:Rule}{k:Nat}(hk:k<r.length)(B:List Nat):oD B (r.take (k+1))=put (oD B (r.take k)) r[k].1:=by
 unfold oD;rw[ah1,ad6 hk,an8];rfl
theorem JO{α:Type}[BEq α](l:List α)(a:α):(put l a).length<=l.length+1:=by
 unfold put;split<;>simp
theorem RY(r:Rule):∀B:List Nat,(oD B r).length<=B.length+r.length:=by
 induction r with
 |nil=>intro B;simp[oD]
 |cons v r ih=>
  intro B
  show(oD (put B v.1) r).length<=_
  have h1:=ih (put B v.1);have h2:=JO B v.1;simp;omega
structure BG(w:World)(B:List Nat)(C:Rule)(W:World):Prop where
 x5:∃v,W.heap[w.heap.size]?=some (.cells #[v] 130 (0,0))/\W.ownsRow w.heap.size 207 2 v C.length (vcs C)/\(v=.slice none 0 0↔C=[])
 m:aH W 3 (w.heap.size+1) gV B
 x6:W.heap[w.heap.size+2]?=some (.cells #[.map (some (w.heap.size+1))] 148 (0,0))
 below:Below w.heap.size w W
theorem BG.lt{w:World}{B:List Nat}{C:Rule}{W:World}(h:BG w B C W):w.heap.size+3<=W.heap.size:=by
 have:=(ad3.1 h.x6).1;omega
theorem BG.grow{w:World}{B:List Nat}{C:Rule}{W W':World}{row:Option Nat}(h:BG w B C W)(hg:W.grownBy W' row)(hr:∀r,row=some r->w.heap.size+3<=r/\∃o:Obj,W.heap[r]?=some o/\o.isCells=false):BG w B C W':=by
 obtain⟨v,h1,h2,h3⟩:=h.x5;have hl:=h.lt;have hne:∀k,k<w.heap.size+3->some k≠row:=λk hk e=>by have:=(hr k e.symm).1;omega
 have hr':∀r,row=some r->∃o:Obj,W.heap[r]?=some o/\o.isCells=false:=λr e=>(hr r e).2;exact⟨⟨v,(hg.block _ (by omega) (hne _ (by omega))).trans h1,jm h2 hg hr',h3⟩,h.m.kept (hg.block _ (by omega) (hne _ (by omega))),(hg.block _ (by omega) (hne _ (by omega))).trans h.x6,h.below.grown hg h.below.size (λk e=>by have:=(hr k e).1;omega)⟩
theorem BG.num{w:World}{B B':List Nat}{C:Rule}{W W':World}(h:BG w B C W)(hg:W.grownBy W' (some (w.heap.size+1)))(hm:aH W' 3 (w.heap.size+1) gV B'):BG w B' C W':=by
 obtain⟨v,h1,h2,h3⟩:=h.x5;have hl:=h.lt;obtain⟨D,⟨es,clock,hmp,_⟩,_⟩:=h.m;refine⟨⟨v,(hg.block _ (by omega) (by simp)).trans h1,jm h2 hg (λr e=>by cases e;exact⟨_,hmp,rfl⟩),h3⟩,hm,(hg.block _ (by omega) (by simp)).trans h.x6,h.below.grown hg h.below.size (λk e=>by cases e;omega)⟩
theorem Ee(C:Rule)(u:View):vcs (C++[u])=vcs C++BD u:=by simp[vcs]
theorem BG.mid{w:World}{C:Rule}{W W2 W3:World}{v:Value}(hx:W.heap[w.heap.size]?=some (.cells #[v] 130 (0,0)))(hg:W.grownBy W2 none)(hg3:W2.grownBy W3 v.ownBlock)
 (hr:W.ownsRow w.heap.size 207 2 v C.length (vcs C)):W3.heap[w.heap.size]?=some (.cells #[v] 130 (0,0)):=by
 have hjl:=(ad3.1 hx).1;refine(hg3.block _ (af5 hjl hg.size) (λe=>?_)).trans ((hg.block _ hjl (by simp)).trans hx);rcases hr.2 with⟨rfl,_⟩|⟨g,cap,cur,rfl,hb,hgb,_⟩
 ·cases e
 ·simp only[Value.ownBlock,ai4]at e;rw[<-e,hx]at hgb;simp at hgb
theorem BG.app{w:World}{B:List Nat}{C:Rule}{W W2 W3:World}{v v':Value}{u:View}(h:BG w B C W)(hx:W.heap[w.heap.size]?=some (.cells #[v] 130 (0,0)))(hg:W.grownBy W2 none)(hg3:W2.grownBy W3 v.ownBlock)
 (hr:W.ownsRow w.heap.size 207 2 v C.length (vcs C))(hr3:W3.ownsRow w.heap.size 207 2 v' (C.length+1) (vcs C++BD u))(hn:v'≠.slice none 0 0):BG w B (C++[u]) (W3.setCell ⟨w.heap.size,0,none⟩ v'):=by
 have hl:=h.lt;have hrb:∀j,v.ownBlock=some j->∃cur:Array Value,W.heap[j]?=some (.cells cur 207 (0,0)):=by
  intro j hj;rcases hr.2 with⟨rfl,_⟩|⟨g,cap,cur,rfl,hb,hgb,_⟩
  ·cases hj
  ·cases hj;exact⟨cur,hgb⟩
 obtain⟨D,hmo,hmr⟩:=id h.m;obtain⟨es,clock,hmp,_⟩:=id hmo;have keep:∀(j:Nat) (o:Obj),W.heap[j]?=some o->(∀cur:Array Value,o≠Obj.cells cur 207 (0,0))->W3.heap[j]?=some o:=λj o hj hc=>by
  have hjl:=(ad3.1 hj).1;refine(hg3.block j (af5 hjl hg.size) (λe=>?_)).trans ((hg.block j hjl (by simp)).trans hj);obtain⟨cur,hcur⟩:=hrb j e.symm;rw[hj]at hcur;cases hcur;exact hc cur rfl
 have k5:=keep _ _ hx (λcur e=>by simp at e);have k6:=keep _ _ h.x6 (λcur e=>by simp at e);have km:=keep _ _ hmp (λcur e=>by simp at e);have aaM:(W3.setCell ⟨w.heap.size,0,none⟩ v').heap[w.heap.size+2]?=W3.heap[w.heap.size+2]?:=af4 _ _ _ _ (by simp);have aaL:(W3.setCell ⟨w.heap.size,0,none⟩ v').heap[w.heap.size+1]?=W3.heap[w.heap.size+1]?:=af4 _ _ _ _ (by simp);refine⟨⟨v',by rw[heap_setCell_same k5];rfl,?_,?_⟩,h.m.kept (aaL.trans (km.trans hmp.symm)),aaM.trans k6,?_⟩
 ·rw[af8,Ee];refine hr3.kept (grownBy_setCell' W3 w.heap.size _) ?_;rcases hr3.2 with⟨e,_⟩|⟨g,cap,cur,rfl,hb,hgb,_⟩
  ·exact absurd e hn
  ·refine Or.inr (λe=>?_);simp only[Value.ownBlock,ai4]at e;rw[show g=w.heap.size by omega,k5]at hgb;simp at hgb
 ·constructor
  ·intro e;exact absurd e hn
  ·intro e;simp at e
 ·refine((h.below.grown hg h.below.size (λk e=>by cases e)).grown hg3 (by have:=h.below.size;have:=hg.size;omega) (λk e=>(hr.lt k e).1)).setCell (ad5 _) _
theorem GZ{τ:List Tr}(hn:(τ.map (·.1)).Nodup):XO (λ_ k=>-(k:Int)) τ (τ.reverse.map (·.1)):=by
 refine⟨(List.reverse_perm τ).map _,λi j hi hj hij=>?_⟩;have hi':i<τ.length:=by simpa using hi
 have hj':j<τ.length:=by simpa using hj
 have key:∀i (hi:i<τ.length),uQ τ ((τ.reverse.map (·.1))[i]'(by simpa using hi))=τ.length-1-i:=λi hi=>by
  have e:(τ.reverse.map (·.1))[i]'(by simpa using hi)=(τ[τ.length-1-i]'(by omega)).1:=by simp
  rw[e];unfold uQ;rw[jg hn (by omega)]
 rw[key i hi',key j hj'];omega
def RK(bm:Nat)(W W':World):Prop:=W.heap.size<=W'.heap.size/\∀(j:Nat) (o:Obj),W.heap[j]?=some o->(∀cur x,o≠Obj.cells cur 207 x)->(∀cur x,o≠Obj.cells cur 130 x)->j≠bm->W'.heap[j]?=some o
theorem RK.refl(bm:Nat)(W:World):RK bm W W:=⟨ad5 _,λ_ _ h _ _ _=>h⟩
theorem RK.trans{bm:Nat}{A B C:World}(h:RK bm A B)(g:RK bm B C):RK bm A C:=⟨af7 h.1 g.1,λj o h1 h2 h3 h4=>g.2 j o (h.2 j o h1 h2 h3 h4) h2 h3 h4⟩
theorem RK.grown{bm:Nat}{W W':World}{row:Option Nat}(hg:W.grownBy W' row)(hr:∀j,row=some j->j=bm):RK bm W W':=
 ⟨hg.size,λj _ h1 _ _ h4=>(hg.block j (ad3.1 h1).1 (λe=>h4 (hr j e.symm))).trans h1⟩
theorem aH.Yu{W:World}{bm:Nat}{B:List Nat}(h:aH W 3 bm gV B){x:Nat}(hx:x<=1000):∃z:Int,(Instr.lookup 148 (.map (some bm)) (.int .i64 x) true).run prog W=.ok (.tuple #[.int .i64 z,.bool (B.contains x)]) W:=by
 obtain⟨D,hown,_,hall,_⟩:=h;obtain⟨v,ps,hrun,hv⟩:=hown.look_ok dV underlying148 (zeroE W) (aq4 underlying3 (by decide)) (pJ hx);obtain⟨c,rfl,_,_⟩:=ap6 underlying3 hv;rw[(hall x _ (pJ hx)).1]at hrun;exact⟨c,hrun⟩
structure BR(w:World)(M m:Nat)(τ:List Tr)(br:Rule)(k:Nat)(W:World):Prop where
 g:BG w (bst τ br k).1 (bst τ br k).2 W
 mb:W.heap[M]?=some (.cells #[.map (some m)] 128 (0,0))
theorem BR.fin{w:World}{M m:Nat}{τ:List Tr}{br:Rule}{k:Nat}{W W':World}{B0:Nat}{a:Act}(hI:BR w M m τ br k W)(hR:RK (w.heap.size+1) W W')(hG:BG w (bst τ br (k+1)).1 (bst τ br (k+1)).2 W')(hb:w.heap.size+1<B0)(hM:M≠w.heap.size+1)(hm:m<w.heap.size) :
  fP B0 (SB B0 M m) (BR w M m τ br (k+1)) W .normal a W':=by
 have hMb:W'.heap[M]?=some (.cells #[.map (some m)] 128 (0,0)):=hR.2 M _ hI.mb (λcur x e=>by simp at e) (λcur x e=>by simp at e) hM;refine⟨⟨hR.1,λj o hj ho hc=>hR.2 j o ho (λcur x e=>by rw[e]at hc;cases hc) (λcur x e=>by rw[e]at hc;cases hc) (by omega)⟩,⟨λj cur x hj hx=>hR.2 j _ hx (λcur x e=>by simp at e) (λcur x e=>by simp at e) (by omega),hMb.trans hI.mb.symm,?_⟩,⟨hG,hMb⟩⟩;exact(hG.below.block m hm).trans (hI.g.below.block m hm).symm
theorem qo{α:Type}[BEq α][LawfulBEq α]{l:List α}{a:α}(h:l.Nodup):(put l a).Nodup:=by
 unfold put;split
 ·exact h
 ·rename_i hc;refine an7.2 ⟨h,by simp,λx hx y hy e=>?_⟩;simp at hy;subst hy;subst e;exact hc (by simpa using hx)
theorem vT{U:Nat}{r:Rule}:∀{B:List Nat},B.Nodup->(∀x∈B,x<U)->(∀u∈r,u.1<U)->(oD B r).Nodup/\∀x∈oD B r,x<U:=by
 induction r with
 |nil=>intro B h1 h2 _;exact⟨h1,h2⟩
 |cons v r ih=>
  intro B h1 h2 h3;refine ih (qo h1) (λx hx=>?_) (λu hu=>h3 u (by simp[hu]));rcases tJ.1 hx with hx|rfl
  ·exact h2 x hx
  ·exact h3 v (by simp)
theorem Gl{U:Nat}{τ:List Tr}{br:Rule}(hbr:∀u∈br,u.1<U)(hτ:∀q∈τ,∀u∈q.2.2.2,u.1<U):∀k,(bst τ br k).1.Nodup/\∀x∈(bst τ br k).1,x<U
 |0=>vT (by simp) (by simp) hbr
 |k+1=>by
  have ih:=Gl hbr hτ k
  show(match τ[τ.length-1-k]? with|some q=>mG q (bst τ br k)|none=>bst τ br k).1.Nodup/\∀x∈(match τ[τ.length-1-k]? with|some q=>mG q (bst τ br k)|none=>bst τ br k).1,x<U
  cases e:τ[τ.length-1-k]? with
  |none=>exact ih
  |some q=>
   simp only;unfold mG;split
   ·exact vT ih.1 ih.2 (hτ q (List.mem_of_getElem? e))
   ·exact ih
theorem Gm{τ:List Tr}{br:Rule}:∀k,(bst τ br k).2.length<=k
 |0=>by simp[bst]
 |k+1=>by
  have ih:=Gm (τ:=τ) (br:=br) k
  show(match τ[τ.length-1-k]? with|some q=>mG q (bst τ br k)|none=>bst τ br k).2.length<=k+1
  cases e:τ[τ.length-1-k]? with
  |none=>simp only;omega
  |some q=>
   simp only;unfold mG;split
   ·simp only;split
    ·simp;omega
    ·omega
   ·omega
theorem RK.app{w:World}{W W2 W3:World}{v v':Value}{C:Rule}{bm:Nat}(hx:W.heap[w.heap.size]?=some (.cells #[v] 130 (0,0)))(hg:W.grownBy W2 none)(hg3:W2.grownBy W3 v.ownBlock)
 (hr:W.ownsRow w.heap.size 207 2 v C.length (vcs C)):RK bm W (W3.setCell ⟨w.heap.size,0,none⟩ v'):=by
 refine⟨by have:=hg.size;have:=hg3.size;simp[World.setCell];omega,λj o h1 h2 h3 h4=>?_⟩;have hjl:=(ad3.1 h1).1;have hj5:j≠w.heap.size:=λe=>by
  subst e;rw[hx]at h1;cases h1;exact h3 _ _ rfl
 rw[af4 _ _ _ _ hj5];refine(hg3.block j (af5 hjl hg.size) (λe=>?_)).trans ((hg.block j hjl (by simp)).trans h1);rcases hr.2 with⟨rfl,_⟩|⟨g,cap,cur,rfl,hb,hgb,_⟩
 ·cases e
 ·simp only[Value.ownBlock,ai4]at e;subst e;rw[h1]at hgb;cases hgb;exact h2 _ _ rfl
theorem kW{W:World}{base:Nat}{v:Value}{C:Rule}(h:W.ownsRow base 207 2 v C.length (vcs C))(hn:v=.slice none 0 0↔C=[]):aP W v C:=by
 by_cases e:C=[]
 ·exact Or.inl ⟨e,hn.2 e⟩
 ·rcases h.2 with⟨e2,_⟩|⟨g,cap,cur,rfl,hb,hgb,h1,h2,h3,h4⟩
  ·exact absurd (hn.1 e2) e
  ·refine Or.inr ⟨g,cap,cur,(0,0),rfl,hgb,e,λi hi=>?_⟩;have hcc:∀c,c<2->cur[i*2+c]?=(BD C[i])[c]?:=λc hc=>by
    have h5:(cur.toList.take (C.length*2))[i*2+c]?=(vcs C)[i*2+c]?:=(by rw[h4]);rw[an2,af6 (by omega)]at h5;rw[show cur[i*2+c]?=cur.toList[i*2+c]? by simp,h5];exact flat_get (k:=2) (λ_=>rfl) (by decide) C i hi c hc
   exact⟨hcc 0 (by decide),hcc 1 (by decide)⟩
theorem tu(w:World)(x:Nat)(i:Bool)(t:TypeId)(n:Nat)(hn:w.heap.size=n):∀j u,(BD (x,i))[j]?=some u->(w.alloc (.cells #[.int .i64 x,.bool i] t)).cell? ((⟨n,0,none⟩:Addr).add j)=some u:=by
 subst hn;intro j u hj
 match j,hj with
 |0,hj=>simp[BD]at hj;subst hj;simp[go_sem,Addr.add]
 |1,hj=>simp[BD]at hj;subst hj;simp[go_sem,Addr.add]
 |j+2,hj=>simp[BD]at hj
theorem TW(u:View):∀v∈BD u,v.oneCell'=true:=by
 intro v hv;simp[BD]at hv;rcases hv with rfl|rfl<;>rfl
theorem N7(w:World)(b U:Nat)(rv ov:Value)(tp:List UInt8)(m:Nat)(τ:List Tr)(h:nX w b U rv ov tp (some m))(hB:bD w m τ)(v:Value)(br:Rule)(hv:aP w v br)(hU:U<=500)(hbr:∀u∈br,u.1<U)(hbl:br.length<=1000)(hτU:∀q∈τ,q.1<U/\q.2.2.2.length<=1000/\∀u∈q.2.2.2,u.1<U)(hτ:τ.length<=500) :
  Calls prog 117 #[.pointer (some ⟨b,0,none⟩),v] w λe w'=>∃v',e=.returned v'/\aP w' v' (rY τ br)/\Below w.heap.size w w':=by
 refine(ag4 (n:=8)).1 ?_;obtain⟨i0,hin,hz0,hz1,hz2⟩:=ak7 J5;obtain⟨vp,vc,rfl,hvn,hvs⟩:=hv.cells;obtain⟨_,_,_,_,c4⟩:=h.cells;have hb0:=h.lt;have hmm:=@as6 prog;refine ai6 func117 rfl trivial ?_ rfl;simp only[ntmps117,ae2,ae1,ae8,Nat.reduceAdd,Nat.reduceSub,ae0,ad9,ae4,ag1,ae7,ae6]
 gi_wp2
 obtain⟨w1,hw1⟩:∃w1,(((w.alloc (.cells #[.slice none 0 0] 130)).alloc (.map #[] 0)).alloc (.cells #[.map (some (w.heap.size+1))] 148))=w1:=⟨_,rfl⟩;have hG0:BG w [] [] w1:=by
  have hs1:(w.alloc (.cells #[.slice none 0 0] 130)).heap.size=w.heap.size+1:=by simp
  refine⟨⟨.slice none 0 0,?_,am9 _ _ _ _,by simp⟩,?_,?_,?_⟩
  ·rw[<-hw1,ae3 _ _ _ (by simp;omega),ae3 _ _ _ (by simp),ae9]
  ·have:=jd (α:=Nat) (w.alloc (.cells #[.slice none 0 0] 130)) 3 gV;rw[hs1]at this;refine this.kept ?_;rw[<-hw1,ae3 _ _ _ (by simp)]
  ·rw[<-hw1];have:=ae9 ((w.alloc (.cells #[.slice none 0 0] 130)).alloc (.map #[] 0)) (.cells #[.map (some (w.heap.size+1))] 148);simpa using this
  ·rw[<-hw1];exact((((ag6 _ w).alloc (ad5 _) _).alloc (by simp) _).alloc (by simp;omega) _)
 rw[hw1];clear hw1 hmm
 gi_loopw [18] (λi wr=>∃k:Nat,k<=br.length/\i=.int .i64 k/\BG w (oD [] (br.take k)) [] wr) (λi _=>br.length-(intOf i).toNat)
 case atStart=>exact⟨0,ah2 _,rfl,hG0⟩
 case round=>
  obtain⟨k,hk,rfl,hG⟩:=hrel;by_cases hlt:k<br.length
  ·have hbd:(k:Int)<(br.length:Int):=(by omega);obtain⟨g,rfl,hgl,hcs⟩:=hvs (λe=>by rw[e]at hlt;simp at hlt);obtain⟨d0,d1⟩:=hcs wr hG.below k hlt;have hbt:=BK hlt [];have hx6:wr.cell? ⟨w.heap.size+1+1,0,none⟩=some (.map (some (w.heap.size+1))):=(by rw[cell_of hG.x6];rfl);have hsl:w.heap.size+1+1<wr.heap.size:=(by have:=hG.lt;omega);have hul:=hbr _ (ad8 hlt);have FV:=RY (br.take k) [];have htl:(br.take k).length<=1000:=af7 (List.length_take_le' _ _) hbl;simp at FV;have HG:=aj hG;have HBT:=aj hbt;have HCS:=aj hcs;clear hG hbt hcs hvs hvn hG0;generalize br[k]=u at d0 d1 hul HBT;obtain⟨ux,ui⟩:=u;simp only at d0 d1 hul HBT
   gi_wp2
   have hgA:wr.grownBy (wr.alloc (.cells #[.int .i64 ux,.bool ui] 207)) none:=ad4 _ _ none;have hGA:=(ah HG).grow hgA (λr e=>by cases e);refine⟨trivial,(ag4.2 (yD (w.heap.size+1) _ ux _ (by omega) (by simp at *;omega) hGA.m)).mono ?_⟩;rintro e w2 ⟨rfl,hm2,hg2⟩;have hG2:=hGA.num hg2 hm2;rw[<-ah HBT]at hG2;clear hGA hm2 hg2 hgA
   gi_wp2
   go_roundw
   case rel=>exact⟨k+1,hlt,by go_num,hG2⟩
   case measure=>simp[intOf];omega
  ·have hkk:k=br.length:=(by omega);have hbd:¬(k:Int)<(br.length:Int):=(by omega);rw[hkk,ai7]at hG;have hc4:wr.cell? ⟨b,4,none⟩=some (.map (some m)):=(by rw[hG.below.cell (p:=⟨b,4,none⟩) hb0];exact c4);have HG:=aj hG;clear hG hkk hG0
   gi_wp2
   refine⟨trivial,(ag4.2 (yx 157 m wr)).mono ?_⟩;rintro e w3 ⟨rfl,t3,rfl⟩
   gi_wp2
   obtain⟨w2,hw2⟩:∃w2,(wr.alloc (.cells #[.map (some m)] 128)).alloc (.cells #[.func (.func 157) #[] #[]] t3)=w2:=⟨_,rfl⟩;have hg2:wr.grownBy w2 none:=(by rw[<-hw2];exact(ad4 _ _ none).trans (ad4 _ _ none));have hs2:w2.heap.size=wr.heap.size+2:=(by rw[<-hw2];simp);have hM2:w2.heap[wr.heap.size]?=some (.cells #[.map (some m)] 128 (0,0)):=(by rw[<-hw2,ae3 _ _ _ (by simp),ae9]);have hR2:w2.cell? ⟨wr.heap.size+1,0,none⟩=some (.func (.func 157) #[] #[]):=(by rw[<-hw2];simp[go_sem]);have hG2:BG w (bst τ br 0).1 (bst τ br 0).2 w2:=(ah HG).grow hg2 (λr e=>by cases e);have hwm:m<w.heap.size:=hB.lt;have hBM:kU w2 m τ:=hB.m.kept (hG2.below.block m hwm);have hseq:=Bo 157 _ E9 (ar6 func157 (by kernel_rfl) rfl) τ (by omega) 7 (by omega) wr.heap.size (wr.heap.size+1) m w2.heap.size _ w2 (ad5 _) (GZ hB.nodup) (by rw[cell_of hM2];rfl) hR2 hBM;rw[hw2];have hwr:=(ah HG).lt;have hI0:BR w wr.heap.size m τ br 0 w2:=⟨hG2,hM2⟩;have hown:OwnFrom w2.heap.size (BR w wr.heap.size m τ br):=by
    intro k W W' row hI hg hr;refine⟨hI.g.grow hg (λr e=>⟨by have:=(hr r e).1;omega,(hr r e).2⟩),(hg.block _ (ad3.1 hI.mb).1 (λe=>by have:=(hr _ e.symm).1;omega)).trans hI.mb⟩
   have HB:=aj hB;have HV:=aj hvs;have hk0:∃k0:Nat,k0=k:=⟨k,rfl⟩;obtain⟨k0,hk0⟩:=hk0;rw[<-hk0];clear hw2 hG2 hM2 hR2 hBM hB HG hg2 hc4 hvs hvn hbd hk hk0;have hnl:(τ.reverse.map (·.1)).length=τ.length:=(by simp);refine bK rfl (by omega) rfl trivial (λ_ _=>by simp[go_sem]) hseq SB.trans ?_ (ag6 _ _) ?_ (BR w wr.heap.size m τ br) hown hI0
    (λk a' W=>∃(hk:k<τ.length) (p:Nat),W.heap[p]?=some (.cells #[.bool (τ[τ.length-1-k]'(by omega)).2.1,.int .i64 (τ.length-1-k:Nat),(τ[τ.length-1-k]'(by omega)).2.2.1] 215 (0,0))/\
     a'={tmps:=#[.pointer (some ⟨b,0,none⟩),.slice vp br.length vc,undef,undef,.slice none 0 0,.pointer (some ⟨w.heap.size,0,none⟩),.pointer (some ⟨w.heap.size+1+1,0,none⟩),undef,u8,gV (τ[τ.length-1-k]'(by omega)).1,.pointer (some ⟨p,0,none⟩),undef,undef,undef,undef,.map (some (w.heap.size+1)),.slice vp br.length vc,.int .i64 br.length,.int .i64 k0,.bool false,u20,u21,u22,u23,u24,u25,u26,.pointer (some ⟨b,0,none⟩),.pointer (some ⟨b,0,none⟩),.pointer (some ⟨b,4,none⟩),.map (some m),.func (.func 160) #[] #[.pointer (some ⟨wr.heap.size,0,none⟩),.pointer (some ⟨wr.heap.size+1,0,none⟩)],gV (τ[τ.length-1-k]'(by omega)).1,oC (τ[τ.length-1-k]'(by omega)) (τ.length-1-k),undef,undef,undef,undef,undef,undef,undef,undef,undef,undef,undef,undef,undef,undef,undef,undef,undef,undef,undef,undef,undef,undef,undef,undef,undef,undef,undef,undef,undef,undef,undef,undef],defers:=[]}) ?own ?assign ?body ?done
   ·intro W l o o' hlw ho hc hwk;refine⟨λj cur x hj hx=>(af0 (λe=>?_)).trans hx,af0 (by omega),af0 (by omega)⟩;subst e;rw[ho]at hx;cases hx;cases hc
   ·intro k hk;simp
   case own=>
    rintro k a' ⟨⟩ W W' row ⟨hk,p,hp,e⟩ hg hr;refine⟨hk,p,(hg.block p (ad3.1 hp).1 (λe2=>?_)).trans hp,e⟩;obtain⟨o,ho,hc⟩:=(hr p e2.symm).2;rw[hp]at ho;cases ho;cases hc
   case assign=>
    intro l k hk W K hI hK;have hk':k<τ.length:=(by simpa using hk);have e1:((τ.reverse.map (·.1)).map λx=>#[gV x,uN τ x])[k]'hk=#[gV (τ[τ.length-1-k]'(by omega)).1,oC (τ[τ.length-1-k]'(by omega)) (τ.length-1-k)]:=by
     simp only[ak0,List.getElem_reverse]
     congr 2
     unfold uN;rw[jg (ah HB).nodup (by omega)]
    rw[e1];obtain⟨qp,ql,qc,hqs⟩:=(ah HB).m.shape (τ[τ.length-1-k]'(by omega)) (ad8 _);have hK2:=λa' W' h1 h2 h3 h4=>hK a' W' h1 h2 h3 ⟨hk',h4⟩;have hmb:=(ad3.1 hI.mb).1;have hml:m<W.heap.size:=(by have:=hI.g.below.size;omega);have hIa:=(hown.alloc (.cells #[.bool (τ[τ.length-1-k]'(by omega)).2.1,.int .i64 (τ.length-1-k:Nat),(τ[τ.length-1-k]'(by omega)).2.2.1] 215) hI);clear hK;simp only[oC]at hK2 ⊢;generalize (τ[τ.length-1-k]'(by omega))=q at hK2 hqs hIa ⊢;generalize τ.length-1-k=t at hK2 hIa ⊢;obtain⟨qx,qi,qv,qr⟩:=q;simp only at hqs hK2 hIa ⊢;subst hqs;simp only[gV]at hK2 ⊢
    gi_wp2
    exact hK2 _ _ ((ao3 _ _).from _) ⟨λj cur x hj hx=>(ae3 _ _ _ (ad3.1 hx).1).trans hx,ae3 _ _ _ hmb,ae3 _ _ _ hml⟩ hIa ⟨W.heap.size,ae9 _ _,rfl⟩
   case body=>
    rintro l k a' W hk hlw hI ⟨hk',p,hp,rfl⟩;have hst:=Gj (br:=br) hk';have hmem:(τ[τ.length-1-k]'(by omega))∈τ:=ad8 _;obtain⟨hqU,hql,hqv⟩:=hτU _ hmem;have hgood:=Gl (k:=k) hbr (λq hq=>(hτU q hq).2.2);have VB:=Gm (τ:=τ) (br:=br) k;obtain⟨rp,rc,hqr,hrn,hrs⟩:=((ah HB).NY _ hmem).cells;obtain⟨z,hrun⟩:=hI.g.m.Yu (x:=(τ[τ.length-1-k]'(by omega)).1) (by omega);have hx6:W.cell? ⟨w.heap.size+1+1,0,none⟩=some (.map (some (w.heap.size+1))):=(by rw[cell_of hI.g.x6];rfl);have p0:W.cell? ⟨p,0,none⟩=some (.bool (τ[τ.length-1-k]'(by omega)).2.1):=(by rw[cell_of hp];rfl);have p2:W.cell? ⟨p,2,none⟩=some (τ[τ.length-1-k]'(by omega)).2.2.1:=(by rw[cell_of hp];rfl);rw[hqr]at p2;have hpl:p<W.heap.size:=(ad3.1 hp).1;have hfin:Hid (∀(a:Act) (W':World),RK (w.heap.size+1) W W'->BG w (bst τ br (k+1)).1 (bst τ br (k+1)).2 W'->fP w2.heap.size (SB w2.heap.size wr.heap.size m) (BR w wr.heap.size m τ br (k+1)) W .normal a W'):=λa W' h1 h2=>hI.fin h1 h2 (by omega) (by omega) hwm;have hG:=hI.g;have hsl:=hG.lt;rw[hst]at hfin;simp only[oC];rw[hqr];rw[hqr]at hp;have HP:=aj hp;have HRN:=aj hrn;have HRS:=aj hrs;clear hst hI hmem hI0 hown hseq hp hqr hrn hrs;generalize (τ[τ.length-1-k]'(by omega))=q at hfin hqU hql hqv HRN HRS hrun p0 p2 HP ⊢;generalize τ.length-1-k=t at HP ⊢;generalize bst τ br k=st at hfin hgood VB hrun hG;obtain⟨B,C⟩:=st;obtain⟨qx,qi,qv,qr⟩:=q;simp only at hfin hqU hql hqv HRN HRS hrun p0 p2 HP hgood VB hG ⊢;have cO:=aj hfin;have HG:=aj hG;unfold mG at cO;simp only at cO;clear hfin;cases hc:B.contains qx
    ·rw[hc]at hrun cO;simp only[an4,an6]at cO;simp only[gV]
     gi_wp2
     exact ah (ah cO) _ _ (RK.refl _ _) hG
    ·rw[hc]at hrun cO;simp only[al0]at cO;simp only[gV];by_cases he:qr=[]
     ·subst he;obtain⟨rfl,rfl⟩:=ah HRN rfl;obtain⟨v5,hx5,hrow,hnil⟩:=hG.x5;have hc5:W.cell? ⟨w.heap.size,0,none⟩=some v5:=(by rw[cell_of hx5];rfl);have hf5:W.frozen? ⟨w.heap.size,0,none⟩=false:=(by simp[World.frozen?,hx5]);have hbp:oD B []=B:=rfl;rw[hbp]at cO;simp only[List.isEmpty_nil,al0]at cO;have HX5:=aj hx5;have eX:=aj hrow;have hs0:w.heap.size<W.heap.size:=(by omega);have heq:=UR 0 0 W;clear hG hx5 hnil hbp;have hgA:W.grownBy (W.alloc (.cells #[.int .i64 qx,.bool (!qi)] 207)) none:=ad4 _ _ none;have hmid:Hid (∀w3,(W.alloc (.cells #[.int .i64 qx,.bool (!qi)] 207)).grownBy w3 v5.ownBlock->w3.cell? ⟨w.heap.size,0,none⟩=some v5/\w3.frozen? ⟨w.heap.size,0,none⟩=false/\∀v',(w3.setCell ⟨w.heap.size,0,none⟩ v').cell? ⟨p,2,none⟩=some (.slice none 0 0)):=λw3 hg3=>by
       have hx3:=BG.mid (ah HX5) hgA hg3 (ah eX);refine⟨by rw[cell_of hx3];rfl,by simp[World.frozen?,hx3],λv'=>?_⟩;have h1:=(RK.app (bm:=w.heap.size+1) (v':=v') (ah HX5) hgA hg3 (ah eX)).2 p _ (ah HP) (λcur x e=>by simp at e) (λcur x e=>by simp at e) (λe=>by
        obtain⟨D,⟨es,clock,hmp,_⟩,_⟩:=(ah HG).m;have:=ah HP;rw[e,hmp]at this;cases this)
       rw[cell_of h1];rfl
      have hpn:p≠w.heap.size:=λe=>by have:=ah HP;rw[e,ah HX5]at this;simp at this
      gi_wp2_with (gi_at_builtin;refine ar4 _ rfl _ _ 130 rfl w.heap.size 207 i0 _ 2 16 underlying130 hin hz0 hz1 hz2 rfl (by decide) v5 C.length (vcs C) rfl ((ah eX).alloc _) ⟨W.heap.size,0,none⟩ 1 1 (BD (qx,!qi)) rfl rfl (tu _ _ _ _ _ rfl) (TW _) (by unfold maxLen;omega) (by omega) (by simp;omega) ?_;intro v' w3 hown' hg3 hnil3 hat;obtain⟨hc3,hf3,hpp⟩:=ah hmid w3 hg3;obtain⟨g',cap',hv'⟩:=dL hown' (al7 _);subst hv';have aaK:=hpp (.slice (some ⟨g',0,none⟩) (C.length+1) cap'))
      have hGF:=(ah HG).app (u:=(qx,!qi)) (ah HX5) hgA hg3 (ah eX) hown' (by simp);have hRF:=RK.app (bm:=w.heap.size+1) (v':=.slice (some ⟨g',0,none⟩) (C.length+1) cap') (ah HX5) hgA hg3 (ah eX);have HGF:=aj hGF;have HRF:=aj hRF;clear hGF hRF hpp aaK hc3 hf3 hown' hg3 hnil3 hat
      gi_loopw [56] (λi wq=>i=.int .i64 0/\BG w B (C++[(qx,!qi)]) wq/\RK (w.heap.size+1) W wq) (λ_ _=>0)
      case atStart=>exact⟨rfl,ah HGF,ah HRF⟩
      case round=>
       obtain⟨rfl,hGj,hRj⟩:=hrel;rw[hs2]at cO
       gi_wp2
       exact ah (ah cO) _ _ hRj hGj
     ·obtain⟨g,rfl,hgl,hcs⟩:=ah HRS he;have hem:qr.isEmpty=false:=(by simpa using he);rw[hem]at cO;simp only[an4,an6]at cO;have heq:=UQ ⟨g,0,none⟩ qr.length rc W;clear hG
      gi_wp2
      gi_loopw [56] (λi wq=>∃j:Nat,j<=qr.length/\i=.int .i64 j/\BG w (oD B (qr.take j)) C wq/\RK (w.heap.size+1) W wq) (λi _=>qr.length-(intOf i).toNat)
      case atStart=>exact⟨0,ah2 _,rfl,ah HG,RK.refl _ _⟩
      case round=>
       obtain⟨j,hj,rfl,hGj,hRj⟩:=hrel;by_cases hjl:j<qr.length
       ·have hbd:(j:Int)<(qr.length:Int):=(by omega);obtain⟨d0,d1⟩:=hcs wr hGj.below j hjl;have hbt:=BK hjl B;have Ij:wr.cell? ⟨w.heap.size+1+1,0,none⟩=some (.map (some (w.heap.size+1))):=(by rw[cell_of hGj.x6];rfl);have ac6:w.heap.size+1+1<wr.heap.size:=(by have:=hGj.lt;omega);have hul:=hqv _ (ad8 hjl);have hgd:=vT (r:=qr.take j) hgood.1 hgood.2 (λu hu=>hqv u (al5 hu));have FV:=jc U _ hgd.1 hgd.2;have HGJ:=aj hGj;have HRJ:=aj hRj;have HBT:=aj hbt;clear hGj hRj hbt hgd;generalize qr[j]=u at d0 d1 hul HBT;obtain⟨ux,ui⟩:=u;simp only at d0 d1 hul HBT
        gi_wp2
        have hgA:wr.grownBy (wr.alloc (.cells #[.int .i64 ux,.bool ui] 207)) none:=ad4 _ _ none;have hGA:=(ah HGJ).grow hgA (λr e=>by cases e);refine⟨trivial,al4 l (ag4.2 ((yD (w.heap.size+1) _ ux _ (by omega) (by omega) hGA.m).mono ?_))⟩;rintro e w4 ⟨rfl,hm2,hg2⟩;have hG2:=hGA.num hg2 hm2;have hR2:=(ah HRJ).trans ((RK.grown hgA (λj e=>by cases e)).trans (RK.grown hg2 (λj e=>by cases e;rfl)));rw[<-ah HBT]at hG2;clear hGA hm2 hg2 hgA
        gi_wp2
        go_roundw
        case rel=>exact⟨j+1,hjl,by go_num,hG2,hR2⟩
        case measure=>simp[intOf];omega
       ·have hjj:j=qr.length:=(by omega);have hbd:¬(j:Int)<(qr.length:Int):=(by omega);rw[hjj,ai7]at hGj;clear hjj;rw[hs2]at cO
        gi_wp2
        exact ah (ah cO) _ _ hRj hGj
   case done=>
    intro D W hD hI hdef;have hI2:=hown.putObj (.deferred none) hI hD hdef rfl;have hln:((τ.reverse.map (·.1)).map λx=>#[gV x,uN τ x]).length=τ.length:=(by simp);rw[hln]at hI hI2;obtain⟨v5,hx5,FD,YQ⟩:=hI.g.x5;have hc5:W.cell? ⟨w.heap.size,0,none⟩=some v5:=by rw[cell_of hx5];rfl
    gi_wp2
    refine⟨by simp,.inl ⟨_,_,rfl,aj6 hdef,?_⟩⟩;refine⟨_,am8 rfl _ _ _,v5,rfl,?_,hI2.g.below⟩;obtain⟨v6,hx6,ug,J7⟩:=hI2.g.x5;have e56:v6=v5:=by
     have hne:D≠w.heap.size:=(by have:=(ad3.1 hx5).1;omega);have:(W.putObj D (.deferred none)).heap[w.heap.size]?=W.heap[w.heap.size]?:=af0 (λe=>hne e.symm);rw[this,hx5]at hx6;simpa using hx6.symm
    subst e56;change W.ownsRow w.heap.size 207 2 v6 (rY τ br).length (vcs (rY τ br))at FD;change _↔rY τ br=[]at J7;change World.ownsRow _ w.heap.size 207 2 v6 (rY τ br).length (vcs (rY τ br))at ug;exact kW ug J7
end Go.Proofs.YthcppbmkacbbiabGreat
