import Derived.Test.YthcppbmkacbbiaaGreatZBB
import Derived.Test.YthcppbmkacbbiaaGreatZAZ
set_option linter.unusedSimpArgs false
set_option maxHeartbeats 4000000
set_option maxRecDepth 100000
namespace Go.Proofs.YthcppbmkacbbiaaGreat
open Go.Proofs.Tryz
open Sat (View Rule jT cZ)
section
open Go.RowKit Go.Maps Go.WideMaps
open au (put)
attribute [local go_sem] Oper.semAt_some
def DU(u:View):List Value:=[.int .i64 u.1,.bool u.2]
def vcs(r:Rule):List Value:=r.flatMap DU
theorem XA(l c:Nat)(W:World):(binOp BinOp.eql 161 (.slice none l c) (.slice none 0 0)).run prog W=.ok (.bool true) W:=by kernel_rfl
theorem Xz(a:Addr)(l c:Nat)(W:World):(binOp BinOp.eql 161 (.slice (some a) l c) (.slice none 0 0)).run prog W=.ok (.bool false) W:=by kernel_rfl
theorem Nb:(prog.info? 214).map (λi=>(i.zero,i.size,i.bytes))=some (some (.agg #[.int .i64 0,.bool false]),2,16):=by kernel_rfl
theorem bg.cells{w:World}{v:Value}{r:Rule}(h:bg w v r):∃p cap,v=.slice p r.length cap/\(r=[]->p=none/\cap=0)/\(r≠[]->∃g,p=some ⟨g,0,none⟩/\g<w.heap.size/\∀W:World,Below w.heap.size w W->∀k (hk:k<r.length),W.cell? ⟨g,k*2,none⟩=some (.int .i64 r[k].1)/\W.cell? ⟨g,k*2+1,none⟩=some (.bool r[k].2)):=by
 rcases h with⟨rfl,rfl⟩|⟨g,cap,cur,x,rfl,hg,hne,hcur⟩
 ·exact⟨none,0,rfl,λ_=>⟨rfl,rfl⟩,λh=>absurd rfl h⟩
 ·have hgl:g<w.heap.size:=(ae8.1 hg).1;refine⟨_,cap,rfl,λh=>absurd h hne,λ_=>⟨g,rfl,hgl,λW hW k hk=>?_⟩⟩;rw[hW.cell (p:=⟨g,_,none⟩) hgl,hW.cell (p:=⟨g,_,none⟩) hgl,cell_of hg,cell_of hg];exact hcur k hk
theorem DZ{r:Rule}{k:Nat}(hk:k<r.length)(B:List Nat):pR B (r.take (k+1))=put (pR B (r.take k)) r[k].1:=by
 unfold pR;rw[ai4,af2 hk,aq5];rfl
theorem ML{α:Type}[BEq α](l:List α)(a:α):(put l a).length<=l.length+1:=by
 unfold put;split<;>simp
theorem Vx(r:Rule):∀B:List Nat,(pR B r).length<=B.length+r.length:=by
 induction r with
 |nil=>intro B;simp[pR]
 |cons v r ih=>
  intro B
  show(pR (put B v.1) r).length<=_
  have h1:=ih (put B v.1);have h2:=ML B v.1;simp;omega
structure BG(w:World)(B:List Nat)(C:Rule)(W:World):Prop where
 x5:∃v,W.heap[w.heap.size]?=some (.cells #[v] 161 (0,0))/\W.ownsRow w.heap.size 214 2 v C.length (vcs C)/\(v=.slice none 0 0↔C=[])
 m:aP W 3 (w.heap.size+1) kL B
 x6:W.heap[w.heap.size+2]?=some (.cells #[.map (some (w.heap.size+1))] 218 (0,0))
 below:Below w.heap.size w W
theorem BG.lt{w:World}{B:List Nat}{C:Rule}{W:World}(h:BG w B C W):w.heap.size+3<=W.heap.size:=by
 have:=(ae8.1 h.x6).1;omega
theorem BG.grow{w:World}{B:List Nat}{C:Rule}{W W':World}{row:Option Nat}(h:BG w B C W)(hg:W.grownBy W' row)(hr:∀r,row=some r->w.heap.size+3<=r/\∃o:Obj,W.heap[r]?=some o/\o.isCells=false):BG w B C W':=by
 obtain⟨v,h1,h2,h3⟩:=h.x5;have hl:=h.lt;have hne:∀k,k<w.heap.size+3->some k≠row:=λk hk e=>by have:=(hr k e.symm).1;omega
 have hr':∀r,row=some r->∃o:Obj,W.heap[r]?=some o/\o.isCells=false:=λr e=>(hr r e).2;exact⟨⟨v,(hg.block _ (by omega) (hne _ (by omega))).trans h1,jV h2 hg hr',h3⟩,h.m.kept (hg.block _ (by omega) (hne _ (by omega))),(hg.block _ (by omega) (hne _ (by omega))).trans h.x6,h.below.grown hg h.below.size (λk e=>by have:=(hr k e).1;omega)⟩
theorem BG.num{w:World}{B B':List Nat}{C:Rule}{W W':World}(h:BG w B C W)(hg:W.grownBy W' (some (w.heap.size+1)))(hm:aP W' 3 (w.heap.size+1) kL B'):BG w B' C W':=by
 obtain⟨v,h1,h2,h3⟩:=h.x5;have hl:=h.lt;obtain⟨D,⟨es,clock,hmp,_⟩,_⟩:=h.m;refine⟨⟨v,(hg.block _ (by omega) (by simp)).trans h1,jV h2 hg (λr e=>by cases e;exact⟨_,hmp,rfl⟩),h3⟩,hm,(hg.block _ (by omega) (by simp)).trans h.x6,h.below.grown hg h.below.size (λk e=>by cases e;omega)⟩
theorem FT(C:Rule)(u:View):vcs (C++[u])=vcs C++DU u:=by simp[vcs]
theorem BG.mid{w:World}{C:Rule}{W W2 W3:World}{v:Value}(hx:W.heap[w.heap.size]?=some (.cells #[v] 161 (0,0)))(hg:W.grownBy W2 none)(hg3:W2.grownBy W3 v.ownBlock)
 (hr:W.ownsRow w.heap.size 214 2 v C.length (vcs C)):W3.heap[w.heap.size]?=some (.cells #[v] 161 (0,0)):=by
 have hjl:=(ae8.1 hx).1;refine(hg3.block _ (ah4 hjl hg.size) (λe=>?_)).trans ((hg.block _ hjl (by simp)).trans hx);rcases hr.2 with⟨rfl,_⟩|⟨g,cap,cur,rfl,hb,hgb,_⟩
 ·cases e
 ·simp only[Value.ownBlock,ak5]at e;rw[<-e,hx]at hgb;simp at hgb
theorem BG.app{w:World}{B:List Nat}{C:Rule}{W W2 W3:World}{v v':Value}{u:View}(h:BG w B C W)(hx:W.heap[w.heap.size]?=some (.cells #[v] 161 (0,0)))(hg:W.grownBy W2 none)(hg3:W2.grownBy W3 v.ownBlock)
 (hr:W.ownsRow w.heap.size 214 2 v C.length (vcs C))(hr3:W3.ownsRow w.heap.size 214 2 v' (C.length+1) (vcs C++DU u))(hn:v'≠.slice none 0 0):BG w B (C++[u]) (W3.setCell ⟨w.heap.size,0,none⟩ v'):=by
 have hl:=h.lt;have hrb:∀j,v.ownBlock=some j->∃cur:Array Value,W.heap[j]?=some (.cells cur 214 (0,0)):=by
  intro j hj;rcases hr.2 with⟨rfl,_⟩|⟨g,cap,cur,rfl,hb,hgb,_⟩
  ·cases hj
  ·cases hj;exact⟨cur,hgb⟩
 obtain⟨D,hmo,hmr⟩:=id h.m;obtain⟨es,clock,hmp,_⟩:=id hmo;have keep:∀(j:Nat) (o:Obj),W.heap[j]?=some o->(∀cur:Array Value,o≠Obj.cells cur 214 (0,0))->W3.heap[j]?=some o:=λj o hj hc=>by
  have hjl:=(ae8.1 hj).1;refine(hg3.block j (ah4 hjl hg.size) (λe=>?_)).trans ((hg.block j hjl (by simp)).trans hj);obtain⟨cur,hcur⟩:=hrb j e.symm;rw[hj]at hcur;cases hcur;exact hc cur rfl
 have k5:=keep _ _ hx (λcur e=>by simp at e);have k6:=keep _ _ h.x6 (λcur e=>by simp at e);have km:=keep _ _ hmp (λcur e=>by simp at e);have ac0:(W3.setCell ⟨w.heap.size,0,none⟩ v').heap[w.heap.size+2]?=W3.heap[w.heap.size+2]?:=ag6 _ _ _ _ (by simp);have acZ:(W3.setCell ⟨w.heap.size,0,none⟩ v').heap[w.heap.size+1]?=W3.heap[w.heap.size+1]?:=ag6 _ _ _ _ (by simp);refine⟨⟨v',by rw[hsQ k5];rfl,?_,?_⟩,h.m.kept (acZ.trans (km.trans hmp.symm)),ac0.trans k6,?_⟩
 ·rw[ah1,FT];refine hr3.kept (grownBy_setCell' W3 w.heap.size _) ?_;rcases hr3.2 with⟨e,_⟩|⟨g,cap,cur,rfl,hb,hgb,_⟩
  ·exact absurd e hn
  ·refine Or.inr (λe=>?_);simp only[Value.ownBlock,ak5]at e;rw[show g=w.heap.size by omega,k5]at hgb;simp at hgb
 ·constructor
  ·intro e;exact absurd e hn
  ·intro e;simp at e
 ·refine((h.below.grown hg h.below.size (λk e=>by cases e)).grown hg3 (by have:=h.below.size;have:=hg.size;omega) (λk e=>(hr.lt k e).1)).setCell (af0 _) _
theorem Jl{τ:List Tr}(hn:(τ.map (·.1)).Nodup):ZU (λ_ k=>-(k:Int)) τ (τ.reverse.map (·.1)):=by
 refine⟨(List.reverse_perm τ).map _,λi j hi hj hij=>?_⟩;have hi':i<τ.length:=by simpa using hi
 have hj':j<τ.length:=by simpa using hj
 have key:∀i (hi:i<τ.length),wJ τ ((τ.reverse.map (·.1))[i]'(by simpa using hi))=τ.length-1-i:=λi hi=>by
  have e:(τ.reverse.map (·.1))[i]'(by simpa using hi)=(τ[τ.length-1-i]'(by omega)).1:=by simp
  rw[e];unfold wJ;rw[jQ hn (by omega)]
 rw[key i hi',key j hj'];omega
def RK(bm:Nat)(W W':World):Prop:=W.heap.size<=W'.heap.size/\∀(j:Nat) (o:Obj),W.heap[j]?=some o->(∀cur x,o≠Obj.cells cur 214 x)->(∀cur x,o≠Obj.cells cur 161 x)->j≠bm->W'.heap[j]?=some o
theorem RK.refl(bm:Nat)(W:World):RK bm W W:=⟨af0 _,λ_ _ h _ _ _=>h⟩
theorem RK.trans{bm:Nat}{A B C:World}(h:RK bm A B)(g:RK bm B C):RK bm A C:=⟨ah2 h.1 g.1,λj o h1 h2 h3 h4=>g.2 j o (h.2 j o h1 h2 h3 h4) h2 h3 h4⟩
theorem RK.grown{bm:Nat}{W W':World}{row:Option Nat}(hg:W.grownBy W' row)(hr:∀j,row=some j->j=bm):RK bm W W':=
 ⟨hg.size,λj _ h1 _ _ h4=>(hg.block j (ae8.1 h1).1 (λe=>h4 (hr j e.symm))).trans h1⟩
theorem aP.aaz{W:World}{bm:Nat}{B:List Nat}(h:aP W 3 bm kL B){x:Nat}(hx:x<=1000):∃z:Int,(Instr.lookup 218 (.map (some bm)) (.int .i64 x) true).run prog W=.ok (.tuple #[.int .i64 z,.bool (B.contains x)]) W:=by
 obtain⟨D,hown,_,hall,_⟩:=h;obtain⟨v,ps,hrun,hv⟩:=hown.look_ok iH underlying218 (zeroE W) (plainElem_int underlying3 (by decide)) (sZ hx);obtain⟨c,rfl,_,_⟩:=as1 underlying3 hv;rw[(hall x _ (sZ hx)).1]at hrun;exact⟨c,hrun⟩
structure BR(w:World)(M m:Nat)(τ:List Tr)(br:Rule)(k:Nat)(W:World):Prop where
 g:BG w (bst τ br k).1 (bst τ br k).2 W
 mb:W.heap[M]?=some (.cells #[.map (some m)] 159 (0,0))
theorem BR.fin{w:World}{M m:Nat}{τ:List Tr}{br:Rule}{k:Nat}{W W':World}{B0:Nat}{a:Act}(hI:BR w M m τ br k W)(hR:RK (w.heap.size+1) W W')(hG:BG w (bst τ br (k+1)).1 (bst τ br (k+1)).2 W')(hb:w.heap.size+1<B0)(hM:M≠w.heap.size+1)(hm:m<w.heap.size) :
  iW B0 (VL B0 M m) (BR w M m τ br (k+1)) W .normal a W':=by
 have hMb:W'.heap[M]?=some (.cells #[.map (some m)] 159 (0,0)):=hR.2 M _ hI.mb (λcur x e=>by simp at e) (λcur x e=>by simp at e) hM;refine⟨⟨hR.1,λj o hj ho hc=>hR.2 j o ho (λcur x e=>by rw[e]at hc;cases hc) (λcur x e=>by rw[e]at hc;cases hc) (by omega)⟩,⟨λj cur x hj hx=>hR.2 j _ hx (λcur x e=>by simp at e) (λcur x e=>by simp at e) (by omega),hMb.trans hI.mb.symm,?_⟩,⟨hG,hMb⟩⟩;exact(hG.below.block m hm).trans (hI.g.below.block m hm).symm
theorem qZ{α:Type}[BEq α][LawfulBEq α]{l:List α}{a:α}(h:l.Nodup):(put l a).Nodup:=by
 unfold put;split
 ·exact h
 ·rename_i hc;refine aq4.2 ⟨h,by simp,λx hx y hy e=>?_⟩;simp at hy;subst hy;subst e;exact hc (by simpa using hx)
theorem xC{U:Nat}{r:Rule}:∀{B:List Nat},B.Nodup->(∀x∈B,x<U)->(∀u∈r,u.1<U)->(pR B r).Nodup/\∀x∈pR B r,x<U:=by
 induction r with
 |nil=>intro B h1 h2 _;exact⟨h1,h2⟩
 |cons v r ih=>
  intro B h1 h2 h3;refine ih (qZ h1) (λx hx=>?_) (λu hu=>h3 u (by simp[hu]));rcases uY.1 hx with hx|rfl
  ·exact h2 x hx
  ·exact h3 v (by simp)
theorem IE{U:Nat}{τ:List Tr}{br:Rule}(hbr:∀u∈br,u.1<U)(hτ:∀q∈τ,∀u∈q.2.2.2,u.1<U):∀k,(bst τ br k).1.Nodup/\∀x∈(bst τ br k).1,x<U
 |0=>xC (by simp) (by simp) hbr
 |k+1=>by
  have ih:=IE hbr hτ k
  show(match τ[τ.length-1-k]? with|some q=>nM q (bst τ br k)|none=>bst τ br k).1.Nodup/\∀x∈(match τ[τ.length-1-k]? with|some q=>nM q (bst τ br k)|none=>bst τ br k).1,x<U
  cases e:τ[τ.length-1-k]? with
  |none=>exact ih
  |some q=>
   simp only;unfold nM;split
   ·exact xC ih.1 ih.2 (hτ q (List.mem_of_getElem? e))
   ·exact ih
theorem IG{τ:List Tr}{br:Rule}:∀k,(bst τ br k).2.length<=k
 |0=>by simp[bst]
 |k+1=>by
  have ih:=IG (τ:=τ) (br:=br) k
  show(match τ[τ.length-1-k]? with|some q=>nM q (bst τ br k)|none=>bst τ br k).2.length<=k+1
  cases e:τ[τ.length-1-k]? with
  |none=>simp only;omega
  |some q=>
   simp only;unfold nM;split
   ·simp only;split
    ·simp;omega
    ·omega
   ·omega
theorem RK.app{w:World}{W W2 W3:World}{v v':Value}{C:Rule}{bm:Nat}(hx:W.heap[w.heap.size]?=some (.cells #[v] 161 (0,0)))(hg:W.grownBy W2 none)(hg3:W2.grownBy W3 v.ownBlock)
 (hr:W.ownsRow w.heap.size 214 2 v C.length (vcs C)):RK bm W (W3.setCell ⟨w.heap.size,0,none⟩ v'):=by
 refine⟨by have:=hg.size;have:=hg3.size;simp[World.setCell];omega,λj o h1 h2 h3 h4=>?_⟩;have hjl:=(ae8.1 h1).1;have hj5:j≠w.heap.size:=λe=>by
  subst e;rw[hx]at h1;cases h1;exact h3 _ _ rfl
 rw[ag6 _ _ _ _ hj5];refine(hg3.block j (ah4 hjl hg.size) (λe=>?_)).trans ((hg.block j hjl (by simp)).trans h1);rcases hr.2 with⟨rfl,_⟩|⟨g,cap,cur,rfl,hb,hgb,_⟩
 ·cases e
 ·simp only[Value.ownBlock,ak5]at e;subst e;rw[h1]at hgb;cases hgb;exact h2 _ _ rfl
theorem lZ{W:World}{base:Nat}{v:Value}{C:Rule}(h:W.ownsRow base 214 2 v C.length (vcs C))(hn:v=.slice none 0 0↔C=[]):bg W v C:=by
 by_cases e:C=[]
 ·exact Or.inl ⟨e,hn.2 e⟩
 ·rcases h.2 with⟨e2,_⟩|⟨g,cap,cur,rfl,hb,hgb,h1,h2,h3,h4⟩
  ·exact absurd (hn.1 e2) e
  ·refine Or.inr ⟨g,cap,cur,(0,0),rfl,hgb,e,λi hi=>?_⟩;have hcc:∀c,c<2->cur[i*2+c]?=(DU C[i])[c]?:=λc hc=>by
    have h5:(cur.toList.take (C.length*2))[i*2+c]?=(vcs C)[i*2+c]?:=(by rw[h4]);rw[ao7,af9 (by omega)]at h5;rw[show cur[i*2+c]?=cur.toList[i*2+c]? by simp,h5];exact flat_get (k:=2) (λ_=>rfl) (by decide) C i hi c hc
   exact⟨hcc 0 (by decide),hcc 1 (by decide)⟩
theorem uS(w:World)(x:Nat)(i:Bool)(t:TypeId)(n:Nat)(hn:w.heap.size=n):∀j u,(DU (x,i))[j]?=some u->(w.alloc (.cells #[.int .i64 x,.bool i] t)).cell? ((⟨n,0,none⟩:Addr).add j)=some u:=by
 subst hn;intro j u hj
 match j,hj with
 |0,hj=>simp[DU]at hj;subst hj;simp[go_sem,Addr.add]
 |1,hj=>simp[DU]at hj;subst hj;simp[go_sem,Addr.add]
 |j+2,hj=>simp[DU]at hj
theorem WO(u:View):∀v∈DU u,v.oneCell'=true:=by
 intro v hv;simp[DU]at hv;rcases hv with rfl|rfl<;>rfl
theorem Qo(w:World)(b U:Nat)(rv ov:Value)(tp:List UInt8)(m:Nat)(τ:List Tr)(h:o9 w b U rv ov tp (some m))(hB:bZ w m τ)(v:Value)(br:Rule)(hv:bg w v br)(hU:U<=500)(hbr:∀u∈br,u.1<U)(hbl:br.length<=1000)(hτU:∀q∈τ,q.1<U/\q.2.2.2.length<=1000/\∀u∈q.2.2.2,u.1<U)(hτ:τ.length<=500) :
  Calls prog 135 #[.pointer (some ⟨b,0,none⟩),v] w λe w'=>∃v',e=.returned v'/\bg w' v' (tY τ br)/\Below w.heap.size w w':=by
 refine(ai9 (n:=8)).1 ?_;obtain⟨i0,hin,hz0,hz1,hz2⟩:=am6 Nb;obtain⟨vp,vc,rfl,hvn,hvs⟩:=hv.cells;obtain⟨_,_,_,_,c4⟩:=h.cells;have hb0:=h.lt;have hmm:=@av4 prog;refine al4 func135 rfl trivial ?_ rfl;simp only[ntmps135,ag3,ag0,ah0,Nat.reduceAdd,Nat.reduceSub,af8,af7,ag5,ai1,ag9,ag7]
 gi_wp2
 obtain⟨w1,hw1⟩:∃w1,(((w.alloc (.cells #[.slice none 0 0] 161)).alloc (.map #[] 0)).alloc (.cells #[.map (some (w.heap.size+1))] 218))=w1:=⟨_,rfl⟩;have hG0:BG w [] [] w1:=by
  have hs1:(w.alloc (.cells #[.slice none 0 0] 161)).heap.size=w.heap.size+1:=by simp
  refine⟨⟨.slice none 0 0,?_,an8 _ _ _ _,by simp⟩,?_,?_,?_⟩
  ·rw[<-hw1,ag1 _ _ _ (by simp;omega),ag1 _ _ _ (by simp),ag4]
  ·have:=jO (α:=Nat) (w.alloc (.cells #[.slice none 0 0] 161)) 3 kL;rw[hs1]at this;refine this.kept ?_;rw[<-hw1,ag1 _ _ _ (by simp)]
  ·rw[<-hw1];have:=ag4 ((w.alloc (.cells #[.slice none 0 0] 161)).alloc (.map #[] 0)) (.cells #[.map (some (w.heap.size+1))] 218);simpa using this
  ·rw[<-hw1];exact((((ai7 _ w).alloc (af0 _) _).alloc (by simp) _).alloc (by simp;omega) _)
 rw[hw1];clear hw1 hmm
 gi_loopw [18] (λi wr=>∃k:Nat,k<=br.length/\i=.int .i64 k/\BG w (pR [] (br.take k)) [] wr) (λi _=>br.length-(intOf i).toNat)
 case atStart=>exact⟨0,ah9 _,rfl,hG0⟩
 case round=>
  obtain⟨k,hk,rfl,hG⟩:=hrel;by_cases hlt:k<br.length
  ·have hbd:(k:Int)<(br.length:Int):=(by omega);obtain⟨g,rfl,hgl,hcs⟩:=hvs (λe=>by rw[e]at hlt;simp at hlt);obtain⟨d0,d1⟩:=hcs wr hG.below k hlt;have hbt:=DZ hlt [];have hx6:wr.cell? ⟨w.heap.size+1+1,0,none⟩=some (.map (some (w.heap.size+1))):=(by rw[cell_of hG.x6];rfl);have hsl:w.heap.size+1+1<wr.heap.size:=(by have:=hG.lt;omega);have hul:=hbr _ (af4 hlt);have Ie:=Vx (br.take k) [];have htl:(br.take k).length<=1000:=ah2 (List.length_take_le' _ _) hbl;simp at Ie;have HG:=aj hG;have HBT:=aj hbt;have HCS:=aj hcs;clear hG hbt hcs hvs hvn hG0;generalize br[k]=u at d0 d1 hul HBT;obtain⟨ux,ui⟩:=u;simp only at d0 d1 hul HBT
   gi_wp2
   have hgA:wr.grownBy (wr.alloc (.cells #[.int .i64 ux,.bool ui] 214)) none:=ae9 _ _ none;have hGA:=(ah HG).grow hgA (λr e=>by cases e);refine⟨trivial,(ai9.2 (zL (w.heap.size+1) _ ux _ (by omega) (by simp at *;omega) hGA.m)).mono ?_⟩;rintro e w2 ⟨rfl,hm2,hg2⟩;have hG2:=hGA.num hg2 hm2;rw[<-ah HBT]at hG2;clear hGA hm2 hg2 hgA
   gi_wp2
   go_roundw
   case rel=>exact⟨k+1,hlt,by go_num,hG2⟩
   case measure=>simp[intOf];omega
  ·have hkk:k=br.length:=(by omega);have hbd:¬(k:Int)<(br.length:Int):=(by omega);rw[hkk,ak8]at hG;have hc4:wr.cell? ⟨b,4,none⟩=some (.map (some m)):=(by rw[hG.below.cell (p:=⟨b,4,none⟩) hb0];exact c4);have HG:=aj hG;clear hG hkk hG0
   gi_wp2
   refine⟨trivial,(ai9.2 (zH 177 m wr)).mono ?_⟩;rintro e w3 ⟨rfl,t3,rfl⟩
   gi_wp2
   obtain⟨w2,hw2⟩:∃w2,(wr.alloc (.cells #[.map (some m)] 159)).alloc (.cells #[.func (.func 177) #[] #[]] t3)=w2:=⟨_,rfl⟩;have hg2:wr.grownBy w2 none:=(by rw[<-hw2];exact(ae9 _ _ none).trans (ae9 _ _ none));have hs2:w2.heap.size=wr.heap.size+2:=(by rw[<-hw2];simp);have hM2:w2.heap[wr.heap.size]?=some (.cells #[.map (some m)] 159 (0,0)):=(by rw[<-hw2,ag1 _ _ _ (by simp),ag4]);have hR2:w2.cell? ⟨wr.heap.size+1,0,none⟩=some (.func (.func 177) #[] #[]):=(by rw[<-hw2];simp[go_sem]);have hG2:BG w (bst τ br 0).1 (bst τ br 0).2 w2:=(ah HG).grow hg2 (λr e=>by cases e);have hwm:m<w.heap.size:=hB.lt;have hBM:lY w2 m τ:=hB.m.kept (hG2.below.block m hwm);have hseq:=DL 177 _ G8 (au4 func177 (by kernel_rfl) rfl) τ (by omega) 7 (by omega) wr.heap.size (wr.heap.size+1) m w2.heap.size _ w2 (af0 _) (Jl hB.nodup) (by rw[cell_of hM2];rfl) hR2 hBM;rw[hw2];have hwr:=(ah HG).lt;have hI0:BR w wr.heap.size m τ br 0 w2:=⟨hG2,hM2⟩;have hown:OwnFrom w2.heap.size (BR w wr.heap.size m τ br):=by
    intro k W W' row hI hg hr;refine⟨hI.g.grow hg (λr e=>⟨by have:=(hr r e).1;omega,(hr r e).2⟩),(hg.block _ (ae8.1 hI.mb).1 (λe=>by have:=(hr _ e.symm).1;omega)).trans hI.mb⟩
   have HB:=aj hB;have HV:=aj hvs;have hk0:∃k0:Nat,k0=k:=⟨k,rfl⟩;obtain⟨k0,hk0⟩:=hk0;rw[<-hk0];clear hw2 hG2 hM2 hR2 hBM hB HG hg2 hc4 hvs hvn hbd hk hk0;have hnl:(τ.reverse.map (·.1)).length=τ.length:=(by simp);refine eG rfl (by omega) rfl trivial (λ_ _=>by simp[go_sem]) hseq VL.trans ?_ (ai7 _ _) ?_ (BR w wr.heap.size m τ br) hown hI0
    (λk a' W=>∃(hk:k<τ.length) (p:Nat),W.heap[p]?=some (.cells #[.bool (τ[τ.length-1-k]'(by omega)).2.1,.int .i64 (τ.length-1-k:Nat),(τ[τ.length-1-k]'(by omega)).2.2.1] 229 (0,0))/\
     a'={tmps:=#[.pointer (some ⟨b,0,none⟩),.slice vp br.length vc,undef,undef,.slice none 0 0,.pointer (some ⟨w.heap.size,0,none⟩),.pointer (some ⟨w.heap.size+1+1,0,none⟩),undef,u8,kL (τ[τ.length-1-k]'(by omega)).1,.pointer (some ⟨p,0,none⟩),undef,undef,undef,undef,.map (some (w.heap.size+1)),.slice vp br.length vc,.int .i64 br.length,.int .i64 k0,.bool false,u20,u21,u22,u23,u24,u25,u26,.pointer (some ⟨b,0,none⟩),.pointer (some ⟨b,0,none⟩),.pointer (some ⟨b,4,none⟩),.map (some m),.func (.func 181) #[] #[.pointer (some ⟨wr.heap.size,0,none⟩),.pointer (some ⟨wr.heap.size+1,0,none⟩)],kL (τ[τ.length-1-k]'(by omega)).1,pO (τ[τ.length-1-k]'(by omega)) (τ.length-1-k),undef,undef,undef,undef,undef,undef,undef,undef,undef,undef,undef,undef,undef,undef,undef,undef,undef,undef,undef,undef,undef,undef,undef,undef,undef,undef,undef,undef,undef,undef,undef,undef],defers:=[]}) ?own ?assign ?body ?done
   ·intro W l o o' hlw ho hc hwk;refine⟨λj cur x hj hx=>(ah5 (λe=>?_)).trans hx,ah5 (by omega),ah5 (by omega)⟩;subst e;rw[ho]at hx;cases hx;cases hc
   ·intro k hk;simp
   case own=>
    rintro k a' ⟨⟩ W W' row ⟨hk,p,hp,e⟩ hg hr;refine⟨hk,p,(hg.block p (ae8.1 hp).1 (λe2=>?_)).trans hp,e⟩;obtain⟨o,ho,hc⟩:=(hr p e2.symm).2;rw[hp]at ho;cases ho;cases hc
   case assign=>
    intro l k hk W K hI hK;have hk':k<τ.length:=(by simpa using hk);have e1:((τ.reverse.map (·.1)).map λx=>#[kL x,wF τ x])[k]'hk=#[kL (τ[τ.length-1-k]'(by omega)).1,pO (τ[τ.length-1-k]'(by omega)) (τ.length-1-k)]:=by
     simp only[am8,List.getElem_reverse]
     congr 2
     unfold wF;rw[jQ (ah HB).nodup (by omega)]
    rw[e1];obtain⟨qp,ql,qc,hqs⟩:=(ah HB).m.shape (τ[τ.length-1-k]'(by omega)) (af4 _);have hK2:=λa' W' h1 h2 h3 h4=>hK a' W' h1 h2 h3 ⟨hk',h4⟩;have hmb:=(ae8.1 hI.mb).1;have hml:m<W.heap.size:=(by have:=hI.g.below.size;omega);have hIa:=(hown.alloc (.cells #[.bool (τ[τ.length-1-k]'(by omega)).2.1,.int .i64 (τ.length-1-k:Nat),(τ[τ.length-1-k]'(by omega)).2.2.1] 229) hI);clear hK;simp only[pO]at hK2 ⊢;generalize (τ[τ.length-1-k]'(by omega))=q at hK2 hqs hIa ⊢;generalize τ.length-1-k=t at hK2 hIa ⊢;obtain⟨qx,qi,qv,qr⟩:=q;simp only at hqs hK2 hIa ⊢;subst hqs;simp only[kL]at hK2 ⊢
    gi_wp2
    exact hK2 _ _ ((ar0 _ _).from _) ⟨λj cur x hj hx=>(ag1 _ _ _ (ae8.1 hx).1).trans hx,ag1 _ _ _ hmb,ag1 _ _ _ hml⟩ hIa ⟨W.heap.size,ag4 _ _,rfl⟩
   case body=>
    rintro l k a' W hk hlw hI ⟨hk',p,hp,rfl⟩;have hst:=IC (br:=br) hk';have hmem:(τ[τ.length-1-k]'(by omega))∈τ:=af4 _;obtain⟨hqU,hql,hqv⟩:=hτU _ hmem;have hgood:=IE (k:=k) hbr (λq hq=>(hτU q hq).2.2);have Yh:=IG (τ:=τ) (br:=br) k;obtain⟨rp,rc,hqr,hrn,hrs⟩:=((ah HB).Qm _ hmem).cells;obtain⟨z,hrun⟩:=hI.g.m.aaz (x:=(τ[τ.length-1-k]'(by omega)).1) (by omega);have hx6:W.cell? ⟨w.heap.size+1+1,0,none⟩=some (.map (some (w.heap.size+1))):=(by rw[cell_of hI.g.x6];rfl);have p0:W.cell? ⟨p,0,none⟩=some (.bool (τ[τ.length-1-k]'(by omega)).2.1):=(by rw[cell_of hp];rfl);have p2:W.cell? ⟨p,2,none⟩=some (τ[τ.length-1-k]'(by omega)).2.2.1:=(by rw[cell_of hp];rfl);rw[hqr]at p2;have hpl:p<W.heap.size:=(ae8.1 hp).1;have hfin:Hid (∀(a:Act) (W':World),RK (w.heap.size+1) W W'->BG w (bst τ br (k+1)).1 (bst τ br (k+1)).2 W'->iW w2.heap.size (VL w2.heap.size wr.heap.size m) (BR w wr.heap.size m τ br (k+1)) W .normal a W'):=λa W' h1 h2=>hI.fin h1 h2 (by omega) (by omega) hwm;have hG:=hI.g;have hsl:=hG.lt;rw[hst]at hfin;simp only[pO];rw[hqr];rw[hqr]at hp;have HP:=aj hp;have HRN:=aj hrn;have HRS:=aj hrs;clear hst hI hmem hI0 hown hseq hp hqr hrn hrs;generalize (τ[τ.length-1-k]'(by omega))=q at hfin hqU hql hqv HRN HRS hrun p0 p2 HP ⊢;generalize τ.length-1-k=t at HP ⊢;generalize bst τ br k=st at hfin hgood Yh hrun hG;obtain⟨B,C⟩:=st;obtain⟨qx,qi,qv,qr⟩:=q;simp only at hfin hqU hql hqv HRN HRS hrun p0 p2 HP hgood Yh hG ⊢;have dL:=aj hfin;have HG:=aj hG;unfold nM at dL;simp only at dL;clear hfin;cases hc:B.contains qx
    ·rw[hc]at hrun dL;simp only[aq0,aq3]at dL;simp only[kL]
     gi_wp2
     exact ah (ah dL) _ _ (RK.refl _ _) hG
    ·rw[hc]at hrun dL;simp only[am9]at dL;simp only[kL];by_cases he:qr=[]
     ·subst he;obtain⟨rfl,rfl⟩:=ah HRN rfl;obtain⟨v5,hx5,hrow,hnil⟩:=hG.x5;have hc5:W.cell? ⟨w.heap.size,0,none⟩=some v5:=(by rw[cell_of hx5];rfl);have hf5:W.frozen? ⟨w.heap.size,0,none⟩=false:=(by simp[World.frozen?,hx5]);have hbp:pR B []=B:=rfl;rw[hbp]at dL;simp only[List.isEmpty_nil,am9]at dL;have HX5:=aj hx5;have gU:=aj hrow;have hs0:w.heap.size<W.heap.size:=(by omega);have heq:=XA 0 0 W;clear hG hx5 hnil hbp;have hgA:W.grownBy (W.alloc (.cells #[.int .i64 qx,.bool (!qi)] 214)) none:=ae9 _ _ none;have hmid:Hid (∀w3,(W.alloc (.cells #[.int .i64 qx,.bool (!qi)] 214)).grownBy w3 v5.ownBlock->w3.cell? ⟨w.heap.size,0,none⟩=some v5/\w3.frozen? ⟨w.heap.size,0,none⟩=false/\∀v',(w3.setCell ⟨w.heap.size,0,none⟩ v').cell? ⟨p,2,none⟩=some (.slice none 0 0)):=λw3 hg3=>by
       have hx3:=BG.mid (ah HX5) hgA hg3 (ah gU);refine⟨by rw[cell_of hx3];rfl,by simp[World.frozen?,hx3],λv'=>?_⟩;have h1:=(RK.app (bm:=w.heap.size+1) (v':=v') (ah HX5) hgA hg3 (ah gU)).2 p _ (ah HP) (λcur x e=>by simp at e) (λcur x e=>by simp at e) (λe=>by
        obtain⟨D,⟨es,clock,hmp,_⟩,_⟩:=(ah HG).m;have:=ah HP;rw[e,hmp]at this;cases this)
       rw[cell_of h1];rfl
      have hpn:p≠w.heap.size:=λe=>by have:=ah HP;rw[e,ah HX5]at this;simp at this
      gi_wp2_with (gi_at_builtin;refine wpListIn_append_own_at _ rfl _ _ 161 rfl w.heap.size 214 i0 _ 2 16 underlying161 hin hz0 hz1 hz2 rfl (by decide) v5 C.length (vcs C) rfl ((ah gU).alloc _) ⟨W.heap.size,0,none⟩ 1 1 (DU (qx,!qi)) rfl rfl (uS _ _ _ _ _ rfl) (WO _) (by unfold maxLen;omega) (by omega) (by simp;omega) ?_;intro v' w3 hown' hg3 hnil3 hat;obtain⟨hc3,hf3,hpp⟩:=ah hmid w3 hg3;obtain⟨g',cap',hv'⟩:=dZ hown' (an3 _);subst hv';have acY:=hpp (.slice (some ⟨g',0,none⟩) (C.length+1) cap'))
      have hGF:=(ah HG).app (u:=(qx,!qi)) (ah HX5) hgA hg3 (ah gU) hown' (by simp);have hRF:=RK.app (bm:=w.heap.size+1) (v':=.slice (some ⟨g',0,none⟩) (C.length+1) cap') (ah HX5) hgA hg3 (ah gU);have HGF:=aj hGF;have HRF:=aj hRF;clear hGF hRF hpp acY hc3 hf3 hown' hg3 hnil3 hat
      gi_loopw [56] (λi wq=>i=.int .i64 0/\BG w B (C++[(qx,!qi)]) wq/\RK (w.heap.size+1) W wq) (λ_ _=>0)
      case atStart=>exact⟨rfl,ah HGF,ah HRF⟩
      case round=>
       obtain⟨rfl,hGj,hRj⟩:=hrel;rw[hs2]at dL
       gi_wp2
       exact ah (ah dL) _ _ hRj hGj
     ·obtain⟨g,rfl,hgl,hcs⟩:=ah HRS he;have hem:qr.isEmpty=false:=(by simpa using he);rw[hem]at dL;simp only[aq0,aq3]at dL;have heq:=Xz ⟨g,0,none⟩ qr.length rc W;clear hG
      gi_wp2
      gi_loopw [56] (λi wq=>∃j:Nat,j<=qr.length/\i=.int .i64 j/\BG w (pR B (qr.take j)) C wq/\RK (w.heap.size+1) W wq) (λi _=>qr.length-(intOf i).toNat)
      case atStart=>exact⟨0,ah9 _,rfl,ah HG,RK.refl _ _⟩
      case round=>
       obtain⟨j,hj,rfl,hGj,hRj⟩:=hrel;by_cases hjl:j<qr.length
       ·have hbd:(j:Int)<(qr.length:Int):=(by omega);obtain⟨d0,d1⟩:=hcs wr hGj.below j hjl;have hbt:=DZ hjl B;have JU:wr.cell? ⟨w.heap.size+1+1,0,none⟩=some (.map (some (w.heap.size+1))):=(by rw[cell_of hGj.x6];rfl);have aeT:w.heap.size+1+1<wr.heap.size:=(by have:=hGj.lt;omega);have hul:=hqv _ (af4 hjl);have hgd:=xC (r:=qr.take j) hgood.1 hgood.2 (λu hu=>hqv u (ao1 hu));have Ie:=jM U _ hgd.1 hgd.2;have HGJ:=aj hGj;have HRJ:=aj hRj;have HBT:=aj hbt;clear hGj hRj hbt hgd;generalize qr[j]=u at d0 d1 hul HBT;obtain⟨ux,ui⟩:=u;simp only at d0 d1 hul HBT
        gi_wp2
        have hgA:wr.grownBy (wr.alloc (.cells #[.int .i64 ux,.bool ui] 214)) none:=ae9 _ _ none;have hGA:=(ah HGJ).grow hgA (λr e=>by cases e);refine⟨trivial,CallsIn.inRound l (ai9.2 ((zL (w.heap.size+1) _ ux _ (by omega) (by omega) hGA.m).mono ?_))⟩;rintro e w4 ⟨rfl,hm2,hg2⟩;have hG2:=hGA.num hg2 hm2;have hR2:=(ah HRJ).trans ((RK.grown hgA (λj e=>by cases e)).trans (RK.grown hg2 (λj e=>by cases e;rfl)));rw[<-ah HBT]at hG2;clear hGA hm2 hg2 hgA
        gi_wp2
        go_roundw
        case rel=>exact⟨j+1,hjl,by go_num,hG2,hR2⟩
        case measure=>simp[intOf];omega
       ·have hjj:j=qr.length:=(by omega);have hbd:¬(j:Int)<(qr.length:Int):=(by omega);rw[hjj,ak8]at hGj;clear hjj;rw[hs2]at dL
        gi_wp2
        exact ah (ah dL) _ _ hRj hGj
   case done=>
    intro D W hD hI hdef;have hI2:=hown.putObj (.deferred none) hI hD hdef rfl;have hln:((τ.reverse.map (·.1)).map λx=>#[kL x,wF τ x]).length=τ.length:=(by simp);rw[hln]at hI hI2;obtain⟨v5,hx5,Hq,aaW⟩:=hI.g.x5;have hc5:W.cell? ⟨w.heap.size,0,none⟩=some v5:=by rw[cell_of hx5];rfl
    gi_wp2
    refine⟨by simp,.inl ⟨_,_,rfl,al9 hdef,?_⟩⟩;refine⟨_,as3 rfl _ _ _,v5,rfl,?_,hI2.g.below⟩;obtain⟨v6,hx6,vM,Nj⟩:=hI2.g.x5;have e56:v6=v5:=by
     have hne:D≠w.heap.size:=(by have:=(ae8.1 hx5).1;omega);have:(W.putObj D (.deferred none)).heap[w.heap.size]?=W.heap[w.heap.size]?:=ah5 (λe=>hne e.symm);rw[this,hx5]at hx6;simpa using hx6.symm
    subst e56;change W.ownsRow w.heap.size 214 2 v6 (tY τ br).length (vcs (tY τ br))at Hq;change _↔tY τ br=[]at Nj;change World.ownsRow _ w.heap.size 214 2 v6 (tY τ br).length (vcs (tY τ br))at vM;exact lZ vM Nj
end
structure TI(U:Nat)(τ:List Tr)(ak:List Rule):Prop where
 inv:Sat.BInv ak (bel τ) τ.length
 nodup:(τ.map (·.1)).Nodup
 lt:∀q∈τ,q.1<U
theorem TI.len{U:Nat}{τ:List Tr}{ak:List Rule}(h:TI U τ ak):τ.length<=U:=by
 have:=jM U (τ.map (·.1)) h.nodup (λx hx=>by
  obtain⟨q,hq,rfl⟩:=ah3.1 hx;exact h.lt q hq)
 simpa using this
structure Pot(U:Nat)(E:Prop)(Jp J:Nat->List UInt8->List Tr->List Rule->Prop):Prop where
 follow:∀p tp τ ak ρ,Jp p tp τ ak->Byr ρ->TI U (τ++ρ) ak->(Sat.Done ak (bel (τ++ρ))\/∃r∈ak,∀u∈r,Sat.wrong (bel (τ++ρ)) u)->J p tp (τ++ρ) ak
 choose:∀p tp τ ak x v,J p tp τ ak->TI U τ ak->Sat.Done ak (bel τ)->TI U (τ++[(x,decide (dg tp%2=1),v,[])]) ak->Jp p tp.tail (τ++[(x,decide (dg tp%2=1),v,[])]) ak
 back:∀p tp τ ak C x i k,J p tp τ ak->TI U τ ak->Sat.fQ (bel τ) C x i k->∃p',p'<p/\Jp p' tp.tail (τ.take k) (ak++[C])/\(dg tp%2=1->Jp p' tp.tail [] (ak++[C]))
 obj:E->∀p tp τ ak C,J p tp τ ak->TI U τ ak->Sat.Done ak (bel τ)->(∀r∈ak,∀u∈r,u.1<U)->(∀x,x<U->bel τ x≠none)->(∀u∈C,u.1<U/\Sat.wrong (bel τ) u)->∃p',p'<p/\Jp p' tp [] (ak++[C])
def Cj:Nat->List Tr->Nat
 |0,_=>0
 |_+1,[]=>0
 |U+1,q::τ=>(if q.2.2.2.isEmpty then 0 else 2 ^ U)+Cj U τ
theorem Jb:∀(U:Nat) (τ:List Tr),Cj U τ<2 ^ U
 |0,_=>by simp[Cj]
 |U+1,[]=>by simp[Cj];exact Nat.two_pow_pos _
 |U+1,q::τ=>by
  have:=Jb U τ;simp only[Cj];split<;>(rw[Nat.pow_succ];omega)
theorem D9:∀(U:Nat) (τ ρ:List Tr),Cj U τ<=Cj U (τ++ρ)
 |0,_,_=>by simp[Cj]
 |U+1,[],_=>by simp[Cj]
 |U+1,q::τ,ρ=>by
  have:=D9 U τ ρ;simp only[Cj,ag7];omega
theorem FU:∀(U:Nat) (τ:List Tr) (q:Tr) (ρ:List Tr),q.2.2.2≠[]->τ.length<U->Cj U τ+2 ^ (U-1-τ.length)<=Cj U (τ++q::ρ)
 |0,_,_,_,_,h=>by omega
 |U+1,[],q,ρ,hq,_=>by
  have hq':q.2.2.2.isEmpty=false:=by simpa using hq
  simp[Cj,hq']
 |U+1,a::τ,q,ρ,hq,h=>by
  have ih:=FU U τ q ρ hq (by simpa using h);have e:U+1-1-(a::τ).length=U-1-τ.length:=by simp;omega
  rw[e];simp only[Cj,ag7];omega
theorem FV:∀(U:Nat) (τ:List Tr) (k:Nat) (hk:k<τ.length),τ[k].2.2.2=[]->k<U->Cj U τ<Cj U (τ.take k)+2 ^ (U-1-k)
 |0,_,_,_,_,h=>by omega
 |U+1,[],_,h,_,_=>by simp at h
 |U+1,a::τ,0,_,hq,_=>by
  have:=Jb U τ;simp at hq;simp[Cj,hq];exact this
 |U+1,a::τ,k+1,hk,hq,h=>by
  have ih:=FV U τ k (by simpa using hk) (by simpa using hq) (by omega);have e:U+1-1-(k+1)=U-1-k:=by omega
  rw[e];simp only[Cj,List.take_succ_cons];omega
theorem pU{τ ρ:List Tr}(hn:((τ++ρ).map (·.1)).Nodup){j:Nat}(hj:j<=τ.length){u:View}:Sat.iK (bel (τ++ρ)) j u↔Sat.iK (bel τ) j u:=by
 have h:=nN hn τ.length;rw[List.take_left]at h;rw[h];exact(Sat.jv hj).symm
def NB(τ:List Tr)(ak:List Rule):Prop:=∀j (hj:j<τ.length),τ[j].2.2.2=[]->∀r∈ak,∃u∈r,¬Sat.iK (bel τ) j u
theorem NB.follow{τ ρ:List Tr}{ak:List Rule}(h:NB τ ak)(hρ:Byr ρ)(hn:((τ++ρ).map (·.1)).Nodup):NB (τ++ρ) ak:=by
 intro j hj hc r hr;by_cases hlt:j<τ.length
 ·rw[al5 hlt]at hc;obtain⟨u,hu,h1⟩:=h j hlt hc r hr;exact⟨u,hu,λh2=>h1 ((pU hn (by omega)).1 h2)⟩
 ·rw[as2 (by omega)]at hc;exact absurd hc (hρ _ (af4 _))
theorem uQ{τ:List Tr}{ak:List Rule}(hd:Sat.Done ak (bel τ)){r:Rule}(hr:r∈ak):∃u∈r,¬Sat.wrong (bel τ) u:=by
 rcases hd r hr with⟨v,hv,b,h1,h2⟩|⟨u,hu,v,hv,_,h1,_⟩
 ·exact⟨v,hv,fun⟨c,g1,g2⟩=>by rw[h1]at g1;cases g1;exact g2 h2⟩
 ·exact⟨u,hu,fun⟨c,g1,g2⟩=>by rw[h1]at g1;cases g1⟩
theorem NB.choose{τ:List Tr}{q:Tr}{ak:List Rule}(h:NB τ ak)(hd:Sat.Done ak (bel τ))(hn:((τ++[q]).map (·.1)).Nodup):NB (τ++[q]) ak:=by
 intro j hj hc r hr;by_cases hlt:j<τ.length
 ·rw[al5 hlt]at hc;obtain⟨u,hu,h1⟩:=h j hlt hc r hr;exact⟨u,hu,λh2=>h1 ((pU hn (by omega)).1 h2)⟩
 ·have:j=τ.length:=by simp at hj;omega
  subst this;obtain⟨u,hu,h1⟩:=uQ hd hr;exact⟨u,hu,λh2=>by
   obtain⟨b,g1,g2,_⟩:=(pU hn (af0 _)).1 h2;exact h1 ⟨b,g1,g2⟩⟩
theorem fQ.at{τ:List Tr}{C:Rule}{x k:Nat}{i:Bool}(h:Sat.fQ (bel τ) C x i k):∃hk:k<τ.length,τ[k].1=x/\τ[k].2.1=i/\τ[k].2.2.2=[]:=by
 have h1:=h.top;unfold bel at h1;cases e:nK τ x with
 |none=>rw[e]at h1;cases h1
 |some q=>
  rw[e]at h1;obtain⟨q,j⟩:=q;obtain⟨g1,g2,g3⟩:=dS e;simp at h1;obtain⟨h1,rfl,h2⟩:=h1;subst g3;exact⟨g2,g1,h1,h2⟩
theorem fQ.none{τ:List Tr}(hn:(τ.map (·.1)).Nodup){C:Rule}{x k:Nat}{i:Bool}(h:Sat.fQ (bel τ) C x i k):bel (τ.take k) x=none:=by
 rw[nN hn];cases e:Sat.before (bel τ) k x with
 |none=>rfl
 |some b=>
  obtain⟨h1,h2⟩:=Sat.dK.1 e;rw[h.top]at h1;cases h1;simp at h2
theorem fQ.wrong{τ:List Tr}(hn:(τ.map (·.1)).Nodup){C:Rule}{x k:Nat}{i:Bool}(h:Sat.fQ (bel τ) C x i k){u:View}(hu:u∈C)(hne:u≠(x,!i)):Sat.wrong (bel (τ.take k)) u:=by
 rcases h.rest u hu with e|⟨j,m,h1,h2,h3⟩
 ·exact absurd e hne
 ·rw[nN hn];exact⟨_,Sat.dK.2 ⟨h1,h3⟩,by rw[h2];cases j<;>simp⟩
theorem NB.back{τ:List Tr}{ak:List Rule}(h:NB τ ak)(hn:(τ.map (·.1)).Nodup){C:Rule}{x k:Nat}{i:Bool}(hC:Sat.fQ (bel τ) C x i k):NB (τ.take k) (ak++[C]):=by
 intro j hj hc r hr;have hj':j<k/\j<τ.length:=by simp at hj;omega
 rw[List.getElem_take]at hc;rcases ai3.1 hr with hr|hr
 ·obtain⟨u,hu,h1⟩:=h j hj'.2 hc r hr;exact⟨u,hu,λh2=>h1 (by rw[nN hn]at h2;exact(Sat.jv (by omega)).1 h2)⟩
 ·rw[ah6.1 hr];refine⟨_,hC.mem,fun⟨b,g1,_⟩=>?_⟩;have:=fQ.none hn hC;simp only at g1;rw[this]at g1;cases g1
def acA(τ:List Tr)(ak:List Rule):Prop:=¬Sat.Done ak (bel τ)/\∀r∈ak,∃u∈r,¬Sat.wrong (bel τ) u
theorem OC{τ:List Tr}{ak:List Rule}(h:NB τ ak)(hn:(τ.map (·.1)).Nodup){C:Rule}{x k:Nat}{i:Bool}(hC:Sat.fQ (bel τ) C x i k):acA (τ.take k) (ak++[C]):=by
 have h0:=fQ.none hn hC;refine⟨λhd=>?_,λr hr=>?_⟩
 ·rcases hd C (by simp)with⟨v,hv,b,h1,h2⟩|⟨u,hu,v,hv,hne,h1,h2⟩
  ·by_cases e:v=(x,!i)
   ·subst e;simp only at h1;rw[h0]at h1;cases h1
   ·obtain⟨c,g1,g2⟩:=fQ.wrong hn hC hv e;rw[h1]at g1;cases g1;exact g2 h2
  ·have k1:u=(x,!i):=ai0 λe=>by
    obtain⟨c,g1,g2⟩:=fQ.wrong hn hC hu e;rw[h1]at g1;cases g1
   have k2:v=(x,!i):=ai0 λe=>by
    obtain⟨c,g1,g2⟩:=fQ.wrong hn hC hv e;rw[h2]at g1;cases g1
   exact hne (k1.trans k2.symm)
 ·obtain⟨hk,_,_,hc⟩:=fQ.at hC;rcases ai3.1 hr with hr|hr
  ·obtain⟨u,hu,h1⟩:=h k hk hc r hr;refine⟨u,hu,fun⟨b,g1,g2⟩=>h1 ?_⟩;rw[nN hn]at g1;obtain⟨g3,g4⟩:=Sat.dK.1 g1;exact⟨b,g3,g2,g4⟩
  ·rw[ah6.1 hr];refine⟨_,hC.mem,fun⟨b,g1,_⟩=>?_⟩;simp only at g1;rw[h0]at g1;cases g1
def J0(U:Nat)(p:Nat)(tp:List UInt8)(τ:List Tr)(ak:List Rule):Prop:=
 NB τ ak/\((tp≠[]/\tp.length+2 ^ U<=p)\/(tp=[]/\2 ^ U<=p+Cj U τ))
def Jp0(U:Nat)(p:Nat)(tp:List UInt8)(τ:List Tr)(ak:List Rule):Prop:=
 NB τ ak/\((tp≠[]/\tp.length+2 ^ U<=p)\/(tp=[]/\(2 ^ U<=p+Cj U τ\/(acA τ ak/\τ.length<U/\2 ^ U<=p+Cj U τ+2 ^ (U-1-τ.length)))))
theorem acI(U:Nat):Pot U False (Jp0 U) (J0 U):=by
 refine⟨?_,?_,?_,λh=>h.elim⟩
 ·rintro p tp τ ak ρ ⟨hnb,h⟩ hρ hti hor;refine⟨hnb.follow hρ hti.nodup,?_⟩;rcases h with h|⟨h1,h2⟩
  ·exact Or.inl h
  ·refine Or.inr ⟨h1,?_⟩;rcases h2 with h2|⟨⟨hp1,hp2⟩,hlt,h2⟩
   ·have:=D9 U τ ρ;omega
   ·cases ρ with
    |nil=>
     exfalso;rw[an2]at hor;rcases hor with hor|⟨r,hr,hor⟩
     ·exact hp1 hor
     ·obtain⟨u,hu,hw⟩:=hp2 r hr;exact hw (hor u hu)
    |cons q ρ=>
     have:=FU U τ q ρ (hρ q (by simp)) hlt;omega
 ·rintro p tp τ ak x v ⟨hnb,h⟩ hti hd aaL;refine⟨hnb.choose hd aaL.nodup,?_⟩;have hv:=D9 U τ [(x,decide (dg tp%2=1),v,[])];rcases h with⟨h1,h2⟩|⟨h1,h2⟩
  ·cases tp with
   |nil=>exact absurd rfl h1
   |cons c tp=>
    simp only[ag0,List.tail_cons]at h2 ⊢;by_cases e:tp=[]
    ·exact Or.inr ⟨e,Or.inl (by omega)⟩
    ·exact Or.inl ⟨e,by omega⟩
  ·subst h1;exact Or.inr ⟨rfl,Or.inl (by omega)⟩
 ·rintro p tp τ ak C x i k ⟨hnb,h⟩ hti hC;have hb:=hnb.back hti.nodup hC;have h0:NB [] (ak++[C]):=λj hj=>by simp at hj
  have hpos:=Nat.two_pow_pos U;rcases h with⟨h1,h2⟩|⟨h1,h2⟩
  ·cases tp with
   |nil=>exact absurd rfl h1
   |cons c tp=>
    simp only[ag0,List.tail_cons]at h2 ⊢;refine⟨p-1,by omega,?_,λ_=>?_⟩
    ·refine⟨hb,?_⟩;by_cases e:tp=[]
     ·exact Or.inr ⟨e,Or.inl (by omega)⟩
     ·exact Or.inl ⟨e,by omega⟩
    ·refine⟨h0,?_⟩;by_cases e:tp=[]
     ·exact Or.inr ⟨e,Or.inl (by omega)⟩
     ·exact Or.inl ⟨e,by omega⟩
  ·subst h1;have hl:=Jb U τ;obtain⟨hk,_,_,hc⟩:=fQ.at hC;have hlen:=hti.len;have hvb:=FV U τ k hk hc (by omega);have hkl:(τ.take k).length=k:=(by simp;omega);refine⟨p-1,by omega,⟨hb,Or.inr ⟨rfl,Or.inr ⟨OC hnb hti.nodup hC,by omega,by rw[hkl];omega⟩⟩⟩,λh=>by simp[dg]at h⟩
theorem Fg:∀(U:Nat) (f:Nat->Bool),∃c,c<2 ^ U/\∀x,x<U->c.testBit x=f x
 |0,_=>⟨0,by simp,λx hx=>by omega⟩
 |U+1,f=>by
  obtain⟨c,h1,h2⟩:=Fg U f;cases hf:f U
  ·refine⟨c,by rw[Nat.pow_succ];omega,λx hx=>?_⟩;by_cases e:x=U
   ·rw[e,hf];exact Nat.testBit_lt_two_pow h1
   ·exact h2 x (by omega)
  ·refine⟨2 ^ U+c,by rw[Nat.pow_succ];omega,λx hx=>?_⟩;by_cases e:x=U
   ·rw[e,hf,Nat.testBit_two_pow_add_eq,Nat.testBit_lt_two_pow h1];rfl
   ·rw[Nat.testBit_two_pow_add_gt (by omega)];exact h2 x (by omega)
def Tl(τ:List Tr):List Nat:=(τ.filter λq=>q.2.2.2.isEmpty&&q.2.1).map (·.1)
theorem Qu{τ ρ:List Tr}(h:Byr ρ):Tl (τ++ρ)=Tl τ:=by
 unfold Tl;rw[ap9];have:ρ.filter (λq=>q.2.2.2.isEmpty&&q.2.1)=[]:=List.filter_eq_nil_iff.2 λq hq=>by
  have:=h q hq;simp[this]
 rw[this,an2]
theorem Qv(τ:List Tr)(x:Nat)(v:Value)(i:Bool):(Tl (τ++[(x,i,v,[])]))=Tl τ++(if i then [x]else []):=by
 unfold Tl;rw[ap9];cases i<;>simp
theorem XU(τ:List Tr)(k:Nat):Tl (τ.take k) <+: Tl τ:=by
 unfold Tl;refine List.IsPrefix.map _ (List.IsPrefix.filter _ (List.take_prefix k τ))
theorem ZR{τ:List Tr}(hn:(τ.map (·.1)).Nodup){x m:Nat}{j:Bool}(h:bel τ x=some (j,m,[])):x∈Tl τ↔j=true:=by
 unfold bel at h;cases e:nK τ x with
 |none=>rw[e]at h;cases h
 |some q=>
  rw[e]at h;obtain⟨q,t⟩:=q;obtain⟨g1,g2,g3⟩:=dS e;simp at h;obtain⟨h1,rfl,h2⟩:=h;unfold Tl;constructor
  ·intro hx;obtain⟨q',hq,h3⟩:=ah3.1 hx;obtain⟨hq1,hq2⟩:=ak2.1 hq;obtain⟨s,hs,h4⟩:=aj2 hq1;have h5:=jQ hn hs;rw[h4,h3,e]at h5;cases h5;simp at hq2;rw[<-h1];exact hq2.2
  ·intro hj;refine ah3.2 ⟨q,ak2.2 ⟨?_,?_⟩,g1⟩
   ·rw[<-g3];exact af4 _
   ·simp[h2,h1,hj]
structure AsI(U:Nat)(ak:List Rule)(As:List Nat):Prop where
 nodup:As.Nodup
 lt:∀c∈As,c<2 ^ U
 broke:∀c∈As,∃r∈ak,∀v∈r,c.testBit v.1≠v.2
theorem AsI.len{U:Nat}{ak:List Rule}{As:List Nat}(h:AsI U ak As):As.length<=2 ^ U:=jM _ _ h.nodup h.lt
theorem AsI.more{U:Nat}{ak:List Rule}{As:List Nat}(h:AsI U ak As)(C:Rule):AsI U (ak++[C]) As:=
 ⟨h.nodup,h.lt,λc hc=>by obtain⟨r,hr,h1⟩:=h.broke c hc;exact⟨r,ak9 _ hr,h1⟩⟩
structure VX(U:Nat)(T:List Nat)(ak:List Rule)(Ls:List Nat):Prop where
 nodup:Ls.Nodup
 lt:∀c∈Ls,c<61*2 ^ U
 is:∀c∈Ls,T.length<c/2 ^ U\/(c/2 ^ U=T.length/\∃r∈ak,(∀x,(c%2 ^ U).testBit x=true↔∃s,(x,s)∈r)/\∀v∈r,(v.2=false↔v.1∈T))
theorem VX.nil(U:Nat)(T:List Nat)(ak:List Rule):VX U T ak []:=⟨aq8,λc h=>by(cases h),λc h=>by(cases h)⟩
theorem VX.back{U:Nat}{T T':List Nat}{ak:List Rule}{Ls:List Nat}(h:VX U T ak Ls)(hp:T' <+: T)(C:Rule):VX U T' (ak++[C]) Ls:=by
 refine⟨h.nodup,h.lt,λc hc=>?_⟩;have hl:=hp.length_le;rcases h.is c hc with h1|⟨h1,r,hr,h2⟩
 ·left;omega
 ·by_cases e:T'.length=T.length
  ·have:=hp.eq_of_length e;subst this;exact Or.inr ⟨h1,r,ak9 _ hr,h2⟩
  ·left;omega
def J1(U:Nat)(p:Nat)(tp:List UInt8)(τ:List Tr)(ak:List Rule):Prop:=
 (Tl τ).length+tp.length<=60/\∃As,AsI U ak As/\((tp≠[]/\tp.length+62*2 ^ U<=p+As.length)\/(tp=[]/\∃Ls,VX U (Tl τ) ak Ls/\62*2 ^ U<=p+Ls.length+As.length))
theorem acH(U:Nat):Pot U True (J1 U) (J1 U):=by
 have hpos:=Nat.two_pow_pos U;refine⟨?_,?_,?_,λ_=>?_⟩
 ·rintro p tp τ ak ρ ⟨h0,h⟩ hρ hti hor;unfold J1;rw[Qu hρ];exact⟨h0,h⟩
 ·rintro p tp τ ak x v ⟨h0,As,hA,h⟩ hti hd aaL;unfold J1;rw[Qv];cases tp with
  |nil=>
   rcases h with⟨h1,h2⟩|⟨h1,h2⟩
   ·exact absurd rfl h1
   ·simp only[dg,List.tail_nil,ah0]at h0 ⊢;simp only[Nat.zero_mod,Nat.zero_ne_one,decide_false,aq0,aq3,an2];exact⟨h0,As,hA,Or.inr ⟨trivial,h2⟩⟩
  |cons c tp=>
   rcases h with⟨h1,h2⟩|⟨h1,h2⟩
   ·simp only[ag0,List.tail_cons]at h0 h2 ⊢;refine⟨?_,As,hA,?_⟩
    ·rw[ah1];split<;>simp<;>omega
    ·by_cases e:tp=[]
     ·exact Or.inr ⟨e,[],VX.nil _ _ _,by simp;omega⟩
     ·exact Or.inl ⟨e,by omega⟩
   ·cases h1
 ·rintro p tp τ ak C x i k ⟨h0,As,hA,h⟩ hti hC;have hAl:=hA.len;have ht:=XU τ k;have hz:Tl [] <+: Tl τ:=by exact List.nil_prefix
  rcases h with⟨h1,h2⟩|⟨h1,Ls,hL,h2⟩
  ·cases tp with
   |nil=>exact absurd rfl h1
   |cons c tp=>
    simp only[ag0,List.tail_cons]at h0 h2 ⊢;have key:∀σ:List Tr,Tl σ <+: Tl τ->J1 U (p-1) tp σ (ak++[C]):=λσ hσ=>by
     have:=hσ.length_le;refine⟨by omega,As,hA.more C,?_⟩;by_cases e:tp=[]
     ·exact Or.inr ⟨e,[],VX.nil _ _ _,by simp;omega⟩
     ·exact Or.inl ⟨e,by omega⟩
    exact⟨p-1,by omega,key _ ht,λ_=>key _ hz⟩
  ·subst h1;simp only[ah0,List.tail_nil]at h0 ⊢;obtain⟨c0,hc0,hc1⟩:=Fg U (λy=>C.any (λv=>v.1==y));have hCU:∀v∈C,v.1<U:=λv hv=>by
    have hb:∃b,bel τ v.1=some b:=by
     rcases hC.rest v hv with e|⟨j,m,g,_⟩
     ·rw[e];exact⟨_,hC.top⟩
     ·exact⟨_,g⟩
    obtain⟨b,hb⟩:=hb;unfold bel at hb;cases e:nK τ v.1 with
    |none=>rw[e]at hb;cases hb
    |some q=>
     obtain⟨q,t⟩:=q;obtain⟨g1,g2,g3⟩:=dS e;rw[<-g1,<-g3];exact hti.lt _ (af4 _)
   have Yi:∀y,c0.testBit y=true↔∃s,(y,s)∈C:=λy=>by
    constructor
    ·intro h;by_cases hy:y<U
     ·rw[hc1 y hy]at h;obtain⟨v,hv,e⟩:=ap6.1 h;have e:v.1=y:=(by simpa using e);subst e;exact⟨v.2,hv⟩
     ·rw[Nat.testBit_lt_two_pow (ah4 hc0 (Nat.pow_le_pow_right (by omega) (by omega)))]at h;cases h
    ·rintro⟨s,hs⟩;rw[hc1 y (hCU _ hs)];exact ap6.2 ⟨_,hs,by simp⟩
   have TT:∀v∈C,(v.2=false↔v.1∈Tl τ):=λv hv=>by
    have hb:∃j m,bel τ v.1=some (j,m,[])/\v.2=!j:=by
     rcases hC.rest v hv with e|⟨j,m,g,g2,_⟩
     ·rw[e];exact⟨_,_,hC.top,rfl⟩
     ·exact⟨_,_,g,g2⟩
    obtain⟨j,m,hb,h3⟩:=hb;rw[ZR hti.nodup hb,h3];cases j<;>simp
   have hd:(c0+(Tl τ).length*2 ^ U)/2 ^ U=(Tl τ).length:=by
    rw[Nat.add_mul_div_right _ _ hpos,Nat.div_eq_of_lt hc0];omega
   have hm:(c0+(Tl τ).length*2 ^ U)%2 ^ U=c0:=by
    rw[Nat.add_mul_mod_self_right,Nat.mod_eq_of_lt hc0]
   have hc:c0+(Tl τ).length*2 ^ U<61*2 ^ U:=by
    have:(Tl τ).length*2 ^ U<=60*2 ^ U:=Nat.mul_le_mul_right _ (by omega);omega
   have hnew:c0+(Tl τ).length*2 ^ U∉Ls:=λhmem=>by
    rcases hL.is _ hmem with g|⟨_,r,hr,g1,g2⟩
    ·omega
    ·rw[hm]at g1;refine hti.inv.fresh hC hr (λv=>?_);have hg:(∃s,(v.1,s)∈r)↔∃s,(v.1,s)∈C:=(g1 v.1).symm.trans (Yi v.1);constructor
     ·intro hv;obtain⟨s,hs⟩:=hg.1 ⟨v.2,hv⟩;have e1:=g2 v hv;have e2:=TT _ hs;have:v=(v.1,s):=by
       have:v.2=s:=by
        have e3:=e1.trans e2.symm;cases hv2:v.2<;>cases hs2:s<;>simp_all
       rw[<-this]
      rw[this];exact hs
     ·intro hv;obtain⟨s,hs⟩:=hg.2 ⟨v.2,hv⟩;have e1:=TT v hv;have e2:=g2 _ hs;have:v=(v.1,s):=by
       have:v.2=s:=by
        have e3:=e1.trans e2.symm;cases hv2:v.2<;>cases hs2:s<;>simp_all
       rw[<-this]
      rw[this];exact hs
   have hL2:VX U (Tl τ) (ak++[C]) ((c0+(Tl τ).length*2 ^ U)::Ls):=by
    have hb:=hL.back (am7 _) C;refine⟨List.nodup_cons.2 ⟨hnew,hb.nodup⟩,λc hcm=>?_,λc hcm=>?_⟩
    ·rcases aj8.1 hcm with e|hcm
     ·rw[e];exact hc
     ·exact hb.lt c hcm
    ·rcases aj8.1 hcm with e|hcm
     ·rw[e];right;rw[hd,hm];exact⟨rfl,C,by simp,Yi,TT⟩
     ·exact hb.is c hcm
   have hLl:=jM _ _ hL2.nodup hL2.lt;simp only[ag0]at hLl;refine⟨p-1,by omega,⟨by simp;have:=ht.length_le;omega,As,hA.more C,Or.inr ⟨rfl,_,⟨hL2.nodup,hL2.lt,λc hcm=>?_⟩,by simp;omega⟩⟩,λh=>by simp[dg]at h⟩;rcases hL2.is c hcm with g|⟨g,g2⟩
   ·left;have:=ht.length_le;omega
   ·by_cases e:(Tl (τ.take k)).length=(Tl τ).length
    ·have:=ht.eq_of_length e;rw[this];exact Or.inr ⟨g,g2⟩
    ·left;have:=ht.length_le;omega
 ·rintro p tp τ ak C ⟨h0,As,hA,h⟩ hti hd hru htot hC;obtain⟨a,ha,hb⟩:=Fg U (λy=>match bel τ y with|some b=>b.1|none=>false);have hbit:∀y b,y<U->bel τ y=some b->a.testBit y=b.1:=λy b hy hb2=>by rw[hb y hy,hb2]
  have hnew:a∉As:=λhm=>by
   obtain⟨r,hr,h1⟩:=hA.broke a hm;rcases hd r hr with⟨v,hv,b,g1,g2⟩|⟨u,hu,v,hv,_,g1,_⟩
   ·exact h1 v hv ((hbit _ _ (hru r hr v hv) g1).trans g2)
   ·exact htot _ (hru r hr u hu) g1
  have hA2:AsI U (ak++[C]) (a::As):=by
   refine⟨List.nodup_cons.2 ⟨hnew,hA.nodup⟩,λc hc=>?_,λc hc=>?_⟩
   ·rcases aj8.1 hc with e|hc
    ·rw[e];exact ha
    ·exact hA.lt c hc
   ·rcases aj8.1 hc with e|hc
    ·rw[e];refine⟨C,by simp,λv hv=>?_⟩;obtain⟨g0,b,g1,g2⟩:=hC v hv;rw[hbit _ _ g0 g1];exact g2
    ·exact(hA.more C).broke c hc
  have hAl:=hA2.len;simp only[ag0]at hAl;have hz:Tl [] <+: Tl τ:=by exact List.nil_prefix
  have hzl:=hz.length_le;rcases h with⟨h1,h2⟩|⟨h1,Ls,hL,h2⟩
  ·exact⟨p-1,by omega,by omega,_,hA2,Or.inl ⟨h1,by simp;omega⟩⟩
  ·subst h1;have hLl:=jM _ _ hL.nodup hL.lt;exact⟨p-1,by omega,by omega,_,hA2,Or.inr ⟨rfl,Ls,hL.back hz C,by simp;omega⟩⟩
end Go.Proofs.YthcppbmkacbbiaaGreat
