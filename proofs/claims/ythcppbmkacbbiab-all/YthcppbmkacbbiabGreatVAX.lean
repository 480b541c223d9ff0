import Derived.Test.YthcppbmkacbbiabGreatVAW
import Derived.Test.YthcppbmkacbbiabGreatVAU
set_option linter.unusedSimpArgs false
set_option maxHeartbeats 4000000
set_option maxRecDepth 100000
namespace Go.Proofs.YthcppbmkacbbiabGreat
open Go.Proofs.Tryz
open Sat (View Rule og dN)
section
open Go.RowKit Go.Maps Go.WideMaps
open au (put)
attribute [local go_sem] Oper.semAt_some
def Oa(u:View):List Value:=[A u.1,.bool u.2]
def vcs(r:Rule):List Value:=r.flatMap Oa
theorem afu(l c:Nat)(W:World):(binOp BinOp.eql 130 (.slice none l c) (.slice none 0 0)).run prog W=.ok (.bool true) W:=by kernel_rfl
theorem aft(a:Addr)(l c:Nat)(W:World):(binOp BinOp.eql 130 (.slice (some a) l c) (.slice none 0 0)).run prog W=.ok (.bool false) W:=by kernel_rfl
theorem Yj:(prog.info? 207).map (λi=>(i.zero,i.size,i.bytes))=some (some (.agg #[A 0,.bool false]),2,16):=by kernel_rfl
theorem bQ.cells{w:World}{v:Value}{r:Rule}(h:bQ w v r):∃p cap,v=.slice p r.length cap/\(r=[]->p=none/\cap=0)/\(r≠[]->∃g,p=some (J g 0)/\g<w.heap.size/\∀W:World,Below w.heap.size w W->∀k (hk:k<r.length),W.cell? ⟨g,k*2,none⟩=some (A r[k].1)/\W.cell? ⟨g,k*2+1,none⟩=some (.bool r[k].2)):=by
 obtain⟨rfl,rfl⟩|⟨g,cap,cur,x,rfl,hg,bg,nS⟩:=h
 ·exact⟨none,0,rfl,λ_=>⟨rfl,rfl⟩,λh=>absurd rfl h⟩
 ·have D5:g<w.heap.size:=(an0.1 hg).1;refine⟨_,cap,rfl,λh=>absurd h bg,λ_=>⟨g,rfl,D5,λW hW k hk=>?_⟩⟩;rw[hW.cell (p:=(J g _)) D5,hW.cell (p:=(J g _)) D5,cell_of hg,cell_of hg];exact nS k hk
theorem Oh{r:Rule}{k:Nat}(hk:k<r.length)(B:List Nat):xQ B (r.take (k+1))=put (xQ B (r.take k)) r[k].1:=by
 unfold xQ;rw[aq3,an3 hk,az2];rfl
theorem X5{α:Type}[BEq α](l:List α)(a:α):(put l a).length<=l.length+1:=by
 unfold put;split<;>simp
theorem aej(r:Rule):∀B:List Nat,(xQ B r).length<=B.length+r.length:=by
 induction r with
 |nil=>intro B;simp[xQ]
 |cons v r ih=>
  intro B
  show(xQ (put B v.1) r).length<=_
  have I:=ih (put B v.1);have M:=X5 B v.1;simp;omega
structure BG(w:World)(B:List Nat)(C:Rule)(W:World):Prop where
 x5:∃v,W.heap[w.heap.size]?=some (.cells #[v] 130 (0,0))/\W.ownsRow w.heap.size 207 2 v C.length (vcs C)/\(v=.slice none 0 0↔C=[])
 m:aT W 3 (w.heap.size+1) kN B
 x6:W.heap[w.heap.size+2]?=some (.cells #[.map (some (w.heap.size+1))] 148 (0,0))
 below:Below w.heap.size w W
theorem BG.lt{w:World}{B:List Nat}{C:Rule}{W:World}(h:BG w B C W):w.heap.size+3<=W.heap.size:=by
 have:=(an0.1 h.x6).1;omega
theorem BG.grow{w:World}{B:List Nat}{C:Rule}{W W':World}{row:Option Nat}(h:BG w B C W)(hg:W.grownBy W' row)(hr:∀r,row=some r->w.heap.size+3<=r/\∃o:Obj,W.heap[r]?=some o/\o.isCells=false):BG w B C W':=by
 obtain⟨v,I,M,h3⟩:=h.x5;have hl:=h.lt;have bg:∀k,k<w.heap.size+3->some k≠row:=λk hk e=>by have:=(hr k e.symm).1;omega
 have ng:∀r,row=some r->∃o:Obj,W.heap[r]?=some o/\o.isCells=false:=λr e=>(hr r e).2;exact⟨⟨v,(hg.block _ O (bg _ O)).trans I,ou M hg ng,h3⟩,h.m.kept (hg.block _ O (bg _ O)),(hg.block _ O (bg _ O)).trans h.x6,h.below.grown hg h.below.size (λk e=>by have:=(hr k e).1;omega)⟩
theorem BG.num{w:World}{B B':List Nat}{C:Rule}{W W':World}(h:BG w B C W)(hg:W.grownBy W' (some (w.heap.size+1)))(hm:aT W' 3 (w.heap.size+1) kN B'):BG w B' C W':=by
 obtain⟨v,I,M,h3⟩:=h.x5;have hl:=h.lt;obtain⟨D,⟨es,clock,hmp,_⟩,_⟩:=h.m;refine⟨⟨v,(hg.block _ O R).trans I,ou M hg (λr e=>by cases e;exact⟨_,hmp,rfl⟩),h3⟩,hm,(hg.block _ O R).trans h.x6,h.below.grown hg h.below.size (λk e=>by cases e;omega)⟩
theorem Qx(C:Rule)(u:View):vcs (C++[u])=vcs C++Oa u:=by simp[vcs]
theorem BG.mid{w:World}{C:Rule}{W W2 W3:World}{v:Value}(hx:W.heap[w.heap.size]?=some (.cells #[v] 130 (0,0)))(hg:W.grownBy W2 none)(dY:W2.grownBy W3 v.ownBlock)
 (hr:W.ownsRow w.heap.size 207 2 v C.length (vcs C)):W3.heap[w.heap.size]?=some (.cells #[v] 130 (0,0)):=by
 have uN:=(an0.1 hx).1;refine(dY.block _ (ap2 uN hg.size) (λe=>?_)).trans ((hg.block _ uN R).trans hx);obtain⟨rfl,_⟩|⟨g,cap,cur,rfl,hb,fD,_⟩:=hr.2
 ·cases e
 ·simp only[Value.ownBlock,as4]at e;rw[<-e,hx]at fD;simp at fD
theorem BG.app{w:World}{B:List Nat}{C:Rule}{W W2 W3:World}{v v':Value}{u:View}(h:BG w B C W)(hx:W.heap[w.heap.size]?=some (.cells #[v] 130 (0,0)))(hg:W.grownBy W2 none)(dY:W2.grownBy W3 v.ownBlock)
 (hr:W.ownsRow w.heap.size 207 2 v C.length (vcs C))(UG:W3.ownsRow w.heap.size 207 2 v' (C.length+1) (vcs C++Oa u))(hn:v'≠.slice none 0 0):BG w B (C++[u]) (W3.setCell (J w.heap.size 0) v'):=by
 have hl:=h.lt;have hrb:∀j,v.ownBlock=some j->∃cur:Array Value,W.heap[j]?=some (.cells cur 207 (0,0)):=by
  intro j hj;obtain⟨rfl,_⟩|⟨g,cap,cur,rfl,hb,fD,_⟩:=hr.2
  ·cases hj
  ·cases hj;exact⟨cur,fD⟩
 obtain⟨D,hmo,hmr⟩:=id h.m;obtain⟨es,clock,hmp,_⟩:=id hmo;have keep:∀(j:Nat) (o:Obj),W.heap[j]?=some o->(∀cur:Array Value,o≠Obj.cells cur 207 (0,0))->W3.heap[j]?=some o:=λj o hj hc=>by
  have uN:=(an0.1 hj).1;refine(dY.block j (ap2 uN hg.size) (λe=>?_)).trans ((hg.block j uN R).trans hj);obtain⟨cur,nS⟩:=hrb j e.symm;rw[hj]at nS;cases nS;exact hc cur rfl
 have k5:=keep _ _ hx (λcur e=>by simp at e);have k6:=keep _ _ h.x6 (λcur e=>by simp at e);have km:=keep _ _ hmp (λcur e=>by simp at e);have ali:(W3.setCell (J w.heap.size 0) v').heap[w.heap.size+2]?=W3.heap[w.heap.size+2]?:=ao9 _ _ _ _ R;have alh:(W3.setCell (J w.heap.size 0) v').heap[w.heap.size+1]?=W3.heap[w.heap.size+1]?:=ao9 _ _ _ _ R;refine⟨⟨v',by rw[heap_setCell_same k5];rfl,?_,?_⟩,h.m.kept (alh.trans (km.trans hmp.symm)),ali.trans k6,?_⟩
 ·rw[ap4,Qx];refine UG.kept (grownBy_setCell' W3 w.heap.size _) ?_;obtain⟨e,_⟩|⟨g,cap,cur,rfl,hb,fD,_⟩:=UG.2
  ·exact absurd e hn
  ·refine Or.inr (λe=>?_);simp only[Value.ownBlock,as4]at e;rw[show g=w.heap.size by omega,k5]at fD;simp at fD
 ·constructor
  ·intro e;exact absurd e hn
  ·intro e;simp at e
 ·refine((h.below.grown hg h.below.size (λk e=>by cases e)).grown dY (by have:=h.below.size;have:=hg.size;omega) (λk e=>(hr.lt k e).1)).setCell (an2 _) _
theorem Vf{τ:List Tr}(hn:(τ.map (·.1)).Nodup):Rkd (λ_ k=>-(k:Int)) τ (τ.reverse.map (·.1)):=by
 refine⟨(List.reverse_perm τ).map _,λi j hi hj hij=>?_⟩;have pI:i<τ.length:=by simpa using hi
 have nR:j<τ.length:=by simpa using hj
 have key:∀i (hi:i<τ.length),EO τ ((τ.reverse.map (·.1))[i]'(by simpa using hi))=τ.length-1-i:=λi hi=>by
  have e:(τ.reverse.map (·.1))[i]'(by simpa using hi)=(τ[τ.length-1-i]'O).1:=R
  rw[e];unfold EO;rw[nU hn O]
 rw[key i pI,key j nR];omega
def RK(bm:Nat)(W W':World):Prop:=W.heap.size<=W'.heap.size/\∀(j:Nat) (o:Obj),W.heap[j]?=some o->(∀cur x,o≠Obj.cells cur 207 x)->(∀cur x,o≠Obj.cells cur 130 x)->j≠bm->W'.heap[j]?=some o
theorem RK.refl(bm:Nat)(W:World):RK bm W W:=⟨an2 _,λ_ _ h _ _ _=>h⟩
theorem RK.trans{bm:Nat}{Ad B C:World}(h:RK bm Ad B)(g:RK bm B C):RK bm Ad C:=⟨ap3 h.1 g.1,λj o I M h3 h4=>g.2 j o (h.2 j o I M h3 h4) M h3 h4⟩
theorem RK.grown{bm:Nat}{W W':World}{row:Option Nat}(hg:W.grownBy W' row)(hr:∀j,row=some j->j=bm):RK bm W W':=
 ⟨hg.size,λj _ I _ _ h4=>(hg.block j (an0.1 I).1 (λe=>h4 (hr j e.symm))).trans I⟩
theorem aT.aiE{W:World}{bm:Nat}{B:List Nat}(h:aT W 3 bm kN B){x:Nat}(hx:x<=1000):∃z:Int,(Instr.lookup 148 (.map (some bm)) (A x) true).run prog W=.ok (.tuple #[A z,.bool (B.contains x)]) W:=by
 obtain⟨D,aH,_,aX,_⟩:=h;obtain⟨v,ps,iW,hv⟩:=aH.look_ok iO underlying148 (zeroE W) (aB2 underlying3 ane) (yH hx);obtain⟨c,rfl,_,_⟩:=aA5 underlying3 hv;rw[(aX x _ (yH hx)).1]at iW;exact⟨c,iW⟩
structure BR(w:World)(h2 m:Nat)(τ:List Tr)(br:Rule)(k:Nat)(W:World):Prop where
 g:BG w (bst τ br k).1 (bst τ br k).2 W
 mb:W.heap[h2]?=some (.cells #[.map (some m)] 128 (0,0))
theorem BR.fin{w:World}{h2 m:Nat}{τ:List Tr}{br:Rule}{k:Nat}{W W':World}{B0:Nat}{a:Act}(hI:BR w h2 m τ br k W)(hR:RK (w.heap.size+1) W W')(hG:BG w (bst τ br (k+1)).1 (bst τ br (k+1)).2 W')(hb:w.heap.size+1<B0)(hM:h2≠w.heap.size+1)(hm:m<w.heap.size) :
  jX B0 (KIi B0 h2 m) (BR w h2 m τ br (k+1)) W .normal a W':=by
 have l9:W'.heap[h2]?=some (.cells #[.map (some m)] 128 (0,0)):=hR.2 h2 _ hI.mb (λcur x e=>by simp at e) (λcur x e=>by simp at e) hM;refine⟨⟨hR.1,λj o hj ho hc=>hR.2 j o ho (λcur x e=>by rw[e]at hc;cases hc) (λcur x e=>by rw[e]at hc;cases hc) O⟩,⟨λj cur x hj hx=>hR.2 j _ hx (λcur x e=>by simp at e) (λcur x e=>by simp at e) O,l9.trans hI.mb.symm,?_⟩,⟨hG,l9⟩⟩;exact(hG.below.block m hm).trans (hI.g.below.block m hm).symm
theorem zA{α:Type}[BEq α][LawfulBEq α]{l:List α}{a:α}(h:l.Nodup):(put l a).Nodup:=by
 unfold put;split
 ·exact h
 ·rename_i hc;refine az1.2 ⟨h,R,λx hx y hy e=>?_⟩;simp at hy;subst hy;subst e;exact hc (by simpa using hx)
theorem FP{U:Nat}{r:Rule}:∀{B:List Nat},B.Nodup->(∀x∈B,x<U)->(∀u∈r,u.1<U)->(xQ B r).Nodup/\∀x∈xQ B r,x<U:=by
 induction r with
 |nil=>intro B I M _;exact⟨I,M⟩
 |cons v r ih=>
  intro B I M h3;refine ih (zA I) (λx hx=>?_) (λu hu=>h3 u (by simp[hu]));obtain hx|rfl:=DC.1 hx
  ·exact M x hx
  ·exact h3 v R
theorem Uj{U:Nat}{τ:List Tr}{br:Rule}(Gp:∀u∈br,u.1<U)(hτ:∀q∈τ,∀u∈q.2.2.2,u.1<U):∀k,(bst τ br k).1.Nodup/\∀x∈(bst τ br k).1,x<U
 |0=>FP R R Gp
 |k+1=>by
  have ih:=Uj Gp hτ k
  show(match τ[τ.length-1-k]? with|some q=>uU q (bst τ br k)|none=>bst τ br k).1.Nodup/\∀x∈(match τ[τ.length-1-k]? with|some q=>uU q (bst τ br k)|none=>bst τ br k).1,x<U
  cases e:τ[τ.length-1-k]? with
  |none=>exact ih
  |some q=>
   simp only;unfold uU;split
   ·exact FP ih.1 ih.2 (hτ q (List.mem_of_getElem? e))
   ·exact ih
theorem Uk{τ:List Tr}{br:Rule}:∀k,(bst τ br k).2.length<=k
 |0=>by simp[bst]
 |k+1=>by
  have ih:=Uk (τ:=τ) (br:=br) k
  show(match τ[τ.length-1-k]? with|some q=>uU q (bst τ br k)|none=>bst τ br k).2.length<=k+1
  cases e:τ[τ.length-1-k]? with
  |none=>simp only;omega
  |some q=>
   simp only;unfold uU;split
   ·simp only;split
    ·simp;omega
    ·omega
   ·omega
theorem RK.app{w:World}{W W2 W3:World}{v v':Value}{C:Rule}{bm:Nat}(hx:W.heap[w.heap.size]?=some (.cells #[v] 130 (0,0)))(hg:W.grownBy W2 none)(dY:W2.grownBy W3 v.ownBlock)
 (hr:W.ownsRow w.heap.size 207 2 v C.length (vcs C)):RK bm W (W3.setCell (J w.heap.size 0) v'):=by
 refine⟨by have:=hg.size;have:=dY.size;simp[World.setCell];omega,λj o I M h3 h4=>?_⟩;have uN:=(an0.1 I).1;have hj5:j≠w.heap.size:=λe=>by
  subst e;rw[hx]at I;cases I;exact h3 _ _ rfl
 rw[ao9 _ _ _ _ hj5];refine(dY.block j (ap2 uN hg.size) (λe=>?_)).trans ((hg.block j uN R).trans I);obtain⟨rfl,_⟩|⟨g,cap,cur,rfl,hb,fD,_⟩:=hr.2
 ·cases e
 ·simp only[Value.ownBlock,as4]at e;subst e;rw[I]at fD;cases fD;exact M _ _ rfl
theorem sK{W:World}{base:Nat}{v:Value}{C:Rule}(h:W.ownsRow base 207 2 v C.length (vcs C))(hn:v=.slice none 0 0↔C=[]):bQ W v C:=by
 by_cases e:C=[]
 ·exact Or.inl ⟨e,hn.2 e⟩
 ·obtain⟨e2,_⟩|⟨g,cap,cur,rfl,hb,fD,I,M,h3,h4⟩:=h.2
  ·exact absurd (hn.1 e2) e
  ·refine Or.inr ⟨g,cap,cur,(0,0),rfl,fD,e,λi hi=>?_⟩;have Gm:∀c,c<2->cur[i*2+c]?=(Oa C[i])[c]?:=λc hc=>by
    have h5:(cur.toList.take (C.length*2))[i*2+c]?=(vcs C)[i*2+c]?:=(by rw[h4]);rw[av5,ao4 O]at h5;rw[show cur[i*2+c]?=cur.toList[i*2+c]? by simp,h5];exact flat_get (k:=2) (λ_=>rfl) ane C i hi c hc
   exact⟨Gm 0 ane,Gm 1 ane⟩
theorem Dv(w:World)(x:Nat)(i:Bool)(t:TypeId)(n:Nat)(hn:w.heap.size=n):∀j u,(Oa (x,i))[j]?=some u->(w.alloc (.cells #[.int .i64 x,.bool i] t)).cell? ((⟨n,0,none⟩:Addr).add j)=some u:=by
 subst hn;intro j u hj
 match j,hj with
 |0,hj=>simp[Oa]at hj;subst hj;simp[go_sem,Addr.add]
 |1,hj=>simp[Oa]at hj;subst hj;simp[go_sem,Addr.add]
 |j+2,hj=>simp[Oa]at hj
theorem aeX(u:View):∀v∈Oa u,v.oneCell'=true:=by
 intro v hv;simp[Oa]at hv;obtain rfl|rfl:=hv<;>rfl
theorem aa9(w:World)(b U:Nat)(rv ov:Value)(tp:List UInt8)(m:Nat)(τ:List Tr)(h:xB w b U rv ov tp (some m))(hB:dJ w m τ)(v:Value)(br:Rule)(hv:bQ w v br)(hU:U<=500)(Gp:∀u∈br,u.1<U)(mg:br.length<=1000)(hτU:∀q∈τ,q.1<U/\q.2.2.2.length<=1000/\∀u∈q.2.2.2,u.1<U)(hτ:τ.length<=500) :
  Calls prog 117 #[Aa b 0,v] w λe w'=>∃v',e=.returned v'/\bQ w' v' (Cj τ br)/\Ag w w':=by
 refine(aq2 (n:=8)).1 ?_;obtain⟨i0,gK,jR,ig,jy⟩:=au5 Yj;obtain⟨vp,vc,rfl,Yl,Lc⟩:=hv.cells;obtain⟨_,_,_,_,c4⟩:=h.cells;have kQ:=h.lt;have Ii:=@aC9 prog;refine at6 func117 rfl trivial ?_ rfl;simp only[ntmps117,ao5,ao1,ap0,Nat.reduceAdd,Nat.reduceSub,an7,an6,ao6,ap9,ao8,ao7]
 gi_wp2
 obtain⟨w1,uH⟩:∃w1,(((w.alloc (.cells #[.slice none 0 0] 130)).alloc (.map #[] 0)).alloc (.cells #[.map (some (w.heap.size+1))] 148))=w1:=⟨_,rfl⟩;have TP:BG w [] [] w1:=by
  have oI:(w.alloc (.cells #[.slice none 0 0] 130)).heap.size=w.heap.size+1:=R
  refine⟨⟨.slice none 0 0,?_,aw9 _ _ _ _,R⟩,?_,?_,?_⟩
  ·rw[<-uH,ao3 _ _ _ anf,ao3 _ _ _ R,ap5]
  ·have:=nK (α:=Nat) (w.alloc (.cells #[.slice none 0 0] 130)) 3 kN;rw[oI]at this;refine this.kept ?_;rw[<-uH,ao3 _ _ _ R]
  ·rw[<-uH];have:=ap5 ((w.alloc (.cells #[.slice none 0 0] 130)).alloc (.map #[] 0)) (.cells #[.map (some (w.heap.size+1))] 148);simpa using this
  ·rw[<-uH];exact((((aq1 _ w).alloc (an2 _) _).alloc R _).alloc anf _)
 rw[uH];clear uH Ii
 gi_loopw [18] (λi wr=>∃k:Nat,k<=br.length/\i=A k/\BG w (xQ [] (br.take k)) [] wr) (λi _=>br.length-(intOf i).toNat)
 case atStart=>exact⟨0,ap7 _,rfl,TP⟩
 case round=>
  obtain⟨k,hk,rfl,hG⟩:=hrel;by_cases hlt:k<br.length
  ·have iF:(k:Int)<(br.length:Int):=O;obtain⟨g,rfl,D5,hcs⟩:=Lc (λe=>by rw[e]at hlt;simp at hlt);obtain⟨d0,d1⟩:=hcs wr hG.below k hlt;have EG:=Oh hlt [];have hx6:wr.cell? (J (w.heap.size+1+1) 0)=some (.map (some (w.heap.size+1))):=(by rw[cell_of hG.x6];rfl);have OV:w.heap.size+1+1<wr.heap.size:=(by have:=hG.lt;omega);have hul:=Gp _ (an5 hlt);have TA:=aej (br.take k) [];have htl:(br.take k).length<=1000:=ap3 (List.length_take_le' _ _) mg;simp at TA;have HG:=F hG;have HBT:=F EG;have Hg:=F hcs;clear hG EG hcs Lc Yl TP;generalize br[k]=u at d0 d1 hul HBT;obtain⟨ux,ui⟩:=u;simp only at d0 d1 hul HBT
   gi_wp2
   have jd:wr.grownBy (wr.alloc (.cells #[A ux,.bool ui] 207)) none:=an1 _ _ none;have hGA:=(Z HG).grow jd (λr e=>by cases e);refine⟨trivial,(aq2.2 (Jc (w.heap.size+1) _ ux _ O (by simp at *;omega) hGA.m)).mono ?_⟩;rintro e w2 ⟨rfl,tC,dh⟩;have yT:=hGA.num dh tC;rw[<-Z HBT]at yT;clear hGA tC dh jd
   gi_wp2
   go_roundw
   case rel=>exact⟨k+1,hlt,by go_num,yT⟩
   case measure=>simp[intOf];omega
  ·have gW:k=br.length:=O;have iF:¬(k:Int)<(br.length:Int):=O;rw[gW,ar7]at hG;have Tz:wr.cell? (J b 4)=some (.map (some m)):=(by rw[hG.below.cell (p:=(J b 4)) kQ];exact c4);have HG:=F hG;clear hG gW TP
   gi_wp2
   refine⟨trivial,(aq2.2 (I7 157 m wr)).mono ?_⟩;rintro e w3 ⟨rfl,t3,rfl⟩
   gi_wp2
   obtain⟨w2,eu⟩:∃w2,(wr.alloc (.cells #[.map (some m)] 128)).alloc (.cells #[.func (.func 157) #[] #[]] t3)=w2:=⟨_,rfl⟩;have dh:wr.grownBy w2 none:=(by rw[<-eu];exact(an1 _ _ none).trans (an1 _ _ none));have su:w2.heap.size=wr.heap.size+2:=(by rw[<-eu];simp);have UN:w2.heap[wr.heap.size]?=some (.cells #[.map (some m)] 128 (0,0)):=(by rw[<-eu,ao3 _ _ _ R,ap5]);have mX:w2.cell? (J (wr.heap.size+1) 0)=some (.func (.func 157) #[] #[]):=(by rw[<-eu];simp[go_sem]);have yT:BG w (bst τ br 0).1 (bst τ br 0).2 w2:=(Z HG).grow dh (λr e=>by cases e);have hwm:m<w.heap.size:=hB.lt;have hBM:rZ w2 m τ:=hB.m.kept (yT.below.block m hwm);have dK:=NH 157 _ RU (aC1 func157 (by kernel_rfl) rfl) τ O 7 O wr.heap.size (wr.heap.size+1) m w2.heap.size _ w2 (an2 _) (Vf hB.nodup) (by rw[cell_of UN];rfl) mX hBM;rw[eu];have uG:=(Z HG).lt;have kU:BR w wr.heap.size m τ br 0 w2:=⟨yT,UN⟩;have aH:OwnFrom w2.heap.size (BR w wr.heap.size m τ br):=by
    intro k W W' row hI hg hr;refine⟨hI.g.grow hg (λr e=>⟨by have:=(hr r e).1;omega,(hr r e).2⟩),(hg.block _ (an0.1 hI.mb).1 (λe=>by have:=(hr _ e.symm).1;omega)).trans hI.mb⟩
   have HB:=F hB;have HV:=F Lc;have kJ:∃k0:Nat,k0=k:=⟨k,rfl⟩;obtain⟨k0,kJ⟩:=kJ;rw[<-kJ];clear eu yT UN mX hBM hB HG dh Tz Lc Yl iF hk kJ;have hnl:(τ.reverse.map (·.1)).length=τ.length:=R;refine dZ rfl O rfl trivial (λ_ _=>by simp[go_sem]) dK KIi.trans ?_ (aq1 _ _) ?_ (BR w wr.heap.size m τ br) aH kU
    (λk a' W=>∃(hk:k<τ.length) (p:Nat),W.heap[p]?=some (.cells #[.bool (τ[τ.length-1-k]'O).2.1,A (τ.length-1-k:Nat),(τ[τ.length-1-k]'O).2.2.1] 215 (0,0))/\
     a'={tmps:=#[Aa b 0,.slice vp br.length vc,undef,undef,.slice none 0 0,Aa w.heap.size 0,Aa (w.heap.size+1+1) 0,undef,u8,kN (τ[τ.length-1-k]'O).1,Aa p 0,undef,undef,undef,undef,.map (some (w.heap.size+1)),.slice vp br.length vc,A br.length,A k0,.bool false,u20,u21,u22,u23,u24,u25,u26,Aa b 0,Aa b 0,Aa b 4,.map (some m),.func (.func 160) #[] #[Aa wr.heap.size 0,Aa (wr.heap.size+1) 0],kN (τ[τ.length-1-k]'O).1,xP (τ[τ.length-1-k]'O) (τ.length-1-k),undef,undef,undef,undef,undef,undef,undef,undef,undef,undef,undef,undef,undef,undef,undef,undef,undef,undef,undef,undef,undef,undef,undef,undef,undef,undef,undef,undef,undef,undef,undef,undef],defers:=[]}) ?own ?assign ?body ?done
   ·intro W l o o' Yv ho hc EY;refine⟨λj cur x hj hx=>(ap1 (λe=>?_)).trans hx,ap1 O,ap1 O⟩;subst e;rw[ho]at hx;cases hx;cases hc
   ·intro k hk;simp
   case own=>
    rintro k a' ⟨⟩ W W' row ⟨hk,p,hp,e⟩ hg hr;refine⟨hk,p,(hg.block p (an0.1 hp).1 (λe2=>?_)).trans hp,e⟩;obtain⟨o,ho,hc⟩:=(hr p e2.symm).2;rw[hp]at ho;cases ho;cases hc
   case assign=>
    intro l k hk W K hI hK;have iQ:k<τ.length:=(by simpa using hk);have e1:((τ.reverse.map (·.1)).map λx=>#[kN x,Ez τ x])[k]'hk=#[kN (τ[τ.length-1-k]'O).1,xP (τ[τ.length-1-k]'O) (τ.length-1-k)]:=by
     simp only[ax5,List.getElem_reverse]
     congr 2
     unfold Ez;rw[nU (Z HB).nodup O]
    rw[e1];obtain⟨qp,ql,qc,hqs⟩:=(Z HB).m.shape (τ[τ.length-1-k]'O) (an5 _);have oU:=λa' W' I M h3 h4=>hK a' W' I M h3 ⟨iQ,h4⟩;have hmb:=(an0.1 hI.mb).1;have hml:m<W.heap.size:=(by have:=hI.g.below.size;omega);have Pg:=(aH.alloc (.cells #[.bool (τ[τ.length-1-k]'O).2.1,A (τ.length-1-k:Nat),(τ[τ.length-1-k]'O).2.2.1] 215) hI);clear hK;simp only[xP]at oU ⊢;generalize (τ[τ.length-1-k]'O)=q at oU hqs Pg ⊢;generalize τ.length-1-k=t at oU Pg ⊢;obtain⟨qx,qi,qv,qr⟩:=q;simp only at hqs oU Pg ⊢;subst hqs;simp only[kN]at oU ⊢
    gi_wp2
    exact oU _ _ ((az8 _ _).from _) ⟨λj cur x hj hx=>(ao3 _ _ _ (an0.1 hx).1).trans hx,ao3 _ _ _ hmb,ao3 _ _ _ hml⟩ Pg ⟨W.heap.size,ap5 _ _,rfl⟩
   case body=>
    rintro l k a' W hk Yv hI ⟨iQ,p,hp,rfl⟩;have oP:=Ui (br:=br) iQ;have fZ:(τ[τ.length-1-k]'O)∈τ:=an5 _;obtain⟨hqU,hql,hqv⟩:=hτU _ fZ;have rP:=Uj (k:=k) Gp (λq hq=>(hτU q hq).2.2);have agd:=Uk (τ:=τ) (br:=br) k;obtain⟨rp,rc,hqr,hrn,hrs⟩:=((Z HB).by_ _ fZ).cells;obtain⟨z,iW⟩:=hI.g.m.aiE (x:=(τ[τ.length-1-k]'O).1) O;have hx6:W.cell? (J (w.heap.size+1+1) 0)=some (.map (some (w.heap.size+1))):=(by rw[cell_of hI.g.x6];rfl);have p0:W.cell? (J p 0)=some (.bool (τ[τ.length-1-k]'O).2.1):=(by rw[cell_of hp];rfl);have p2:W.cell? (J p 2)=some (τ[τ.length-1-k]'O).2.2.1:=(by rw[cell_of hp];rfl);rw[hqr]at p2;have Yp:p<W.heap.size:=(an0.1 hp).1;have mQ:Hid (∀(a:Act) (W':World),RK (w.heap.size+1) W W'->BG w (bst τ br (k+1)).1 (bst τ br (k+1)).2 W'->jX w2.heap.size (KIi w2.heap.size wr.heap.size m) (BR w wr.heap.size m τ br (k+1)) W .normal a W'):=λa W' I M=>hI.fin I M O O hwm;have hG:=hI.g;have OV:=hG.lt;rw[oP]at mQ;simp only[xP];rw[hqr];rw[hqr]at hp;have HP:=F hp;have HRN:=F hrn;have HRS:=F hrs;clear oP hI fZ kU aH dK hp hqr hrn hrs;generalize (τ[τ.length-1-k]'O)=q at mQ hqU hql hqv HRN HRS iW p0 p2 HP ⊢;generalize τ.length-1-k=t at HP ⊢;generalize bst τ br k=st at mQ rP agd iW hG;obtain⟨B,C⟩:=st;obtain⟨qx,qi,qv,qr⟩:=q;simp only at mQ hqU hql hqv HRN HRS iW p0 p2 HP rP agd hG ⊢;have gB:=F mQ;have HG:=F hG;unfold uU at gB;simp only at gB;clear mQ;cases hc:B.contains qx
    ·rw[hc]at iW gB;simp only[ay7,az0]at gB;simp only[kN]
     gi_wp2
     exact Z (Z gB) _ _ (RK.refl _ _) hG
    ·rw[hc]at iW gB;simp only[av8]at gB;simp only[kN];by_cases he:qr=[]
     ·subst he;obtain⟨rfl,rfl⟩:=Z HRN rfl;obtain⟨v5,NI,aS,fC⟩:=hG.x5;have hc5:W.cell? (J w.heap.size 0)=some v5:=(by rw[cell_of NI];rfl);have hf5:W.frozen? (J w.heap.size 0)=false:=(by simp[World.frozen?,NI]);have hbp:xQ B []=B:=rfl;rw[hbp]at gB;simp only[List.isEmpty_nil,av8]at gB;have UA:=F NI;have jo:=F aS;have hs0:w.heap.size<W.heap.size:=O;have heq:=afu 0 0 W;clear hG NI fC hbp;have jd:W.grownBy (W.alloc (.cells #[A qx,.bool (!qi)] 207)) none:=an1 _ _ none;have alj:Hid (∀w3,(W.alloc (.cells #[A qx,.bool (!qi)] 207)).grownBy w3 v5.ownBlock->w3.cell? (J w.heap.size 0)=some v5/\w3.frozen? (J w.heap.size 0)=false/\∀v',(w3.setCell (J w.heap.size 0) v').cell? (J p 2)=some (.slice none 0 0)):=λw3 dY=>by
       have qh:=BG.mid (Z UA) jd dY (Z jo);refine⟨by rw[cell_of qh];rfl,by simp[World.frozen?,qh],λv'=>?_⟩;have I:=(RK.app (bm:=w.heap.size+1) (v':=v') (Z UA) jd dY (Z jo)).2 p _ (Z HP) (λcur x e=>by simp at e) (λcur x e=>by simp at e) (λe=>by
        obtain⟨D,⟨es,clock,hmp,_⟩,_⟩:=(Z HG).m;have:=Z HP;rw[e,hmp]at this;cases this)
       rw[cell_of I];rfl
      have hpn:p≠w.heap.size:=λe=>by have:=Z HP;rw[e,Z UA]at this;simp at this
      gi_wp2_with (gi_at_builtin;refine aB9 _ rfl _ _ 130 rfl w.heap.size 207 i0 _ 2 16 underlying130 gK jR ig jy rfl ane v5 C.length (vcs C) rfl ((Z jo).alloc _) (J W.heap.size 0) 1 1 (Oa (qx,!qi)) rfl rfl (Dv _ _ _ _ _ rfl) (aeX _) anj O anf ?_;intro v' w3 fA dY uJ gU;obtain⟨hc3,Tn,hpp⟩:=Z alj w3 dY;obtain⟨g',qB,Sr⟩:=gG fA (aw4 _);subst Sr;have alf:=hpp (Ac g' 0 (C.length+1) qB))
      have hGF:=(Z HG).app (u:=(qx,!qi)) (Z UA) jd dY (Z jo) fA R;have hRF:=RK.app (bm:=w.heap.size+1) (v':=Ac g' 0 (C.length+1) qB) (Z UA) jd dY (Z jo);have HGF:=F hGF;have HRF:=F hRF;clear hGF hRF hpp alf hc3 Tn fA dY uJ gU
      gi_loopw [56] (λi wq=>i=A 0/\BG w B (C++[(qx,!qi)]) wq/\RK (w.heap.size+1) W wq) (λ_ _=>0)
      case atStart=>exact⟨rfl,Z HGF,Z HRF⟩
      case round=>
       obtain⟨rfl,hGj,hRj⟩:=hrel;rw[su]at gB
       gi_wp2
       exact Z (Z gB) _ _ hRj hGj
     ·obtain⟨g,rfl,D5,hcs⟩:=Z HRS he;have hem:qr.isEmpty=false:=(by simpa using he);rw[hem]at gB;simp only[ay7,az0]at gB;have heq:=aft (J g 0) qr.length rc W;clear hG
      gi_wp2
      gi_loopw [56] (λi wq=>∃j:Nat,j<=qr.length/\i=A j/\BG w (xQ B (qr.take j)) C wq/\RK (w.heap.size+1) W wq) (λi _=>qr.length-(intOf i).toNat)
      case atStart=>exact⟨0,ap7 _,rfl,Z HG,RK.refl _ _⟩
      case round=>
       obtain⟨j,hj,rfl,hGj,hRj⟩:=hrel;by_cases uN:j<qr.length
       ·have iF:(j:Int)<(qr.length:Int):=O;obtain⟨d0,d1⟩:=hcs wr hGj.below j uN;have EG:=Oh uN B;have VN:wr.cell? (J (w.heap.size+1+1) 0)=some (.map (some (w.heap.size+1))):=(by rw[cell_of hGj.x6];rfl);have amN:w.heap.size+1+1<wr.heap.size:=(by have:=hGj.lt;omega);have hul:=hqv _ (an5 uN);have Lj:=FP (r:=qr.take j) rP.1 rP.2 (λu hu=>hqv u (au8 hu));have TA:=nJ U _ Lj.1 Lj.2;have HGJ:=F hGj;have HRJ:=F hRj;have HBT:=F EG;clear hGj hRj EG Lj;generalize qr[j]=u at d0 d1 hul HBT;obtain⟨ux,ui⟩:=u;simp only at d0 d1 hul HBT
        gi_wp2
        have jd:wr.grownBy (wr.alloc (.cells #[A ux,.bool ui] 207)) none:=an1 _ _ none;have hGA:=(Z HGJ).grow jd (λr e=>by cases e);refine⟨trivial,aw1 l (aq2.2 ((Jc (w.heap.size+1) _ ux _ O O hGA.m).mono ?_))⟩;rintro e w4 ⟨rfl,tC,dh⟩;have yT:=hGA.num dh tC;have mX:=(Z HRJ).trans ((RK.grown jd (λj e=>by cases e)).trans (RK.grown dh (λj e=>by cases e;rfl)));rw[<-Z HBT]at yT;clear hGA tC dh jd
        gi_wp2
        go_roundw
        case rel=>exact⟨j+1,uN,by go_num,yT,mX⟩
        case measure=>simp[intOf];omega
       ·have NU:j=qr.length:=O;have iF:¬(j:Int)<(qr.length:Int):=O;rw[NU,ar7]at hGj;clear NU;rw[su]at gB
        gi_wp2
        exact Z (Z gB) _ _ hRj hGj
   case done=>
    intro D W hD hI eU;have dD:=aH.putObj (.deferred none) hI hD eU rfl;have hln:((τ.reverse.map (·.1)).map λx=>#[kN x,Ez τ x]).length=τ.length:=R;rw[hln]at hI dD;obtain⟨v5,NI,SC,ajh⟩:=hI.g.x5;have hc5:W.cell? (J w.heap.size 0)=some v5:=by rw[cell_of NI];rfl
    gi_wp2
    refine⟨R,.inl ⟨_,_,rfl,au4 eU,?_⟩⟩;refine⟨_,ay0 rfl _ _ _,v5,rfl,?_,dD.g.below⟩;obtain⟨v6,hx6,DW,Yr⟩:=dD.g.x5;have e56:v6=v5:=by
     have bg:D≠w.heap.size:=(by have:=(an0.1 NI).1;omega);have:(W.putObj D (.deferred none)).heap[w.heap.size]?=W.heap[w.heap.size]?:=ap1 (λe=>bg e.symm);rw[this,NI]at hx6;simpa using hx6.symm
    subst e56;change W.ownsRow w.heap.size 207 2 v6 (Cj τ br).length (vcs (Cj τ br))at SC;change _↔Cj τ br=[]at Yr;change World.ownsRow _ w.heap.size 207 2 v6 (Cj τ br).length (vcs (Cj τ br))at DW;exact sK DW Yr
end
structure TI(U:Nat)(τ:List Tr)(ak:List Rule):Prop where
 inv:Sat.BInv ak (bel τ) τ.length
 nodup:(τ.map (·.1)).Nodup
 lt:∀q∈τ,q.1<U
theorem TI.len{U:Nat}{τ:List Tr}{ak:List Rule}(h:TI U τ ak):τ.length<=U:=by
 have:=nJ U (τ.map (·.1)) h.nodup (λx hx=>by
  obtain⟨q,hq,rfl⟩:=ap6.1 hx;exact h.lt q hq)
 simpa using this
structure Pot(U:Nat)(E:Prop)(Jp Af:Nat->List UInt8->List Tr->List Rule->Prop):Prop where
 follow:∀p tp τ ak ρ,Jp p tp τ ak->Byr ρ->TI U (τ++ρ) ak->(Sat.Done ak (bel (τ++ρ))\/∃r∈ak,∀u∈r,Sat.wrong (bel (τ++ρ)) u)->Af p tp (τ++ρ) ak
 choose:∀p tp τ ak x v,Af p tp τ ak->TI U τ ak->Sat.Done ak (bel τ)->TI U (τ++[(x,decide (dg tp%2=1),v,[])]) ak->Jp p tp.tail (τ++[(x,decide (dg tp%2=1),v,[])]) ak
 back:∀p tp τ ak C x i k,Af p tp τ ak->TI U τ ak->Sat.jq (bel τ) C x i k->∃p',p'<p/\Jp p' tp.tail (τ.take k) (ak++[C])/\(dg tp%2=1->Jp p' tp.tail [] (ak++[C]))
 obj:E->∀p tp τ ak C,Af p tp τ ak->TI U τ ak->Sat.Done ak (bel τ)->(∀r∈ak,∀u∈r,u.1<U)->(∀x,x<U->bel τ x≠none)->(∀u∈C,u.1<U/\Sat.wrong (bel τ) u)->∃p',p'<p/\Jp p' tp [] (ak++[C])
def LD:Nat->List Tr->Nat
 |0,_=>0
 |_+1,[]=>0
 |U+1,q::τ=>(if q.2.2.2.isEmpty then 0 else 2 ^ U)+LD U τ
theorem U0:∀(U:Nat) (τ:List Tr),LD U τ<2 ^ U
 |0,_=>by simp[LD]
 |U+1,[]=>by simp[LD];exact Nat.two_pow_pos _
 |U+1,q::τ=>by
  have:=U0 U τ;simp only[LD];split<;>(rw[Nat.pow_succ];omega)
theorem Oq:∀(U:Nat) (τ ρ:List Tr),LD U τ<=LD U (τ++ρ)
 |0,_,_=>by simp[LD]
 |U+1,[],_=>by simp[LD]
 |U+1,q::τ,ρ=>by
  have:=Oq U τ ρ;simp only[LD,ao7];omega
theorem Qy:∀(U:Nat) (τ:List Tr) (q:Tr) (ρ:List Tr),q.2.2.2≠[]->τ.length<U->LD U τ+2 ^ (U-1-τ.length)<=LD U (τ++q::ρ)
 |0,_,_,_,_,h=>O
 |U+1,[],q,ρ,hq,_=>by
  have hq':q.2.2.2.isEmpty=false:=by simpa using hq
  simp[LD,hq']
 |U+1,a::τ,q,ρ,hq,h=>by
  have ih:=Qy U τ q ρ hq (by simpa using h);have e:U+1-1-(a::τ).length=U-1-τ.length:=anf
  rw[e];simp only[LD,ao7];omega
theorem Qz:∀(U:Nat) (τ:List Tr) (k:Nat) (hk:k<τ.length),τ[k].2.2.2=[]->k<U->LD U τ<LD U (τ.take k)+2 ^ (U-1-k)
 |0,_,_,_,_,h=>O
 |U+1,[],_,h,_,_=>by simp at h
 |U+1,a::τ,0,_,hq,_=>by
  have:=U0 U τ;simp at hq;simp[LD,hq];exact this
 |U+1,a::τ,k+1,hk,hq,h=>by
  have ih:=Qz U τ k (by simpa using hk) (by simpa using hq) O;have e:U+1-1-(k+1)=U-1-k:=O
  rw[e];simp only[LD,List.take_succ_cons];omega
theorem xW{τ ρ:List Tr}(hn:((τ++ρ).map (·.1)).Nodup){j:Nat}(hj:j<=τ.length){u:View}:Sat.kY (bel (τ++ρ)) j u↔Sat.kY (bel τ) j u:=by
 have h:=uV hn τ.length;rw[List.take_left]at h;rw[h];exact(Sat.mD hj).symm
def NB(τ:List Tr)(ak:List Rule):Prop:=∀j (hj:j<τ.length),τ[j].2.2.2=[]->∀r∈ak,∃u∈r,¬Sat.kY (bel τ) j u
theorem NB.follow{τ ρ:List Tr}{ak:List Rule}(h:NB τ ak)(hρ:Byr ρ)(hn:((τ++ρ).map (·.1)).Nodup):NB (τ++ρ) ak:=by
 intro j hj hc r hr;by_cases hlt:j<τ.length
 ·rw[au6 hlt]at hc;obtain⟨u,hu,I⟩:=h j hlt hc r hr;exact⟨u,hu,λM=>I ((xW hn O).1 M)⟩
 ·rw[aA6 O]at hc;exact absurd hc (hρ _ (an5 _))
theorem Du{τ:List Tr}{ak:List Rule}(hd:Sat.Done ak (bel τ)){r:Rule}(hr:r∈ak):∃u∈r,¬Sat.wrong (bel τ) u:=by
 obtain⟨v,hv,b,I,M⟩|⟨u,hu,v,hv,_,I,_⟩:=hd r hr
 ·exact⟨v,hv,fun⟨c,g1,g2⟩=>by rw[I]at g1;cases g1;exact g2 M⟩
 ·exact⟨u,hu,fun⟨c,g1,g2⟩=>by rw[I]at g1;cases g1⟩
theorem NB.choose{τ:List Tr}{q:Tr}{ak:List Rule}(h:NB τ ak)(hd:Sat.Done ak (bel τ))(hn:((τ++[q]).map (·.1)).Nodup):NB (τ++[q]) ak:=by
 intro j hj hc r hr;by_cases hlt:j<τ.length
 ·rw[au6 hlt]at hc;obtain⟨u,hu,I⟩:=h j hlt hc r hr;exact⟨u,hu,λM=>I ((xW hn O).1 M)⟩
 ·have:j=τ.length:=by simp at hj;omega
  subst this;obtain⟨u,hu,I⟩:=Du hd hr;exact⟨u,hu,λM=>by
   obtain⟨b,g1,g2,_⟩:=(xW hn (an2 _)).1 M;exact I ⟨b,g1,g2⟩⟩
theorem jq.at{τ:List Tr}{C:Rule}{x k:Nat}{i:Bool}(h:Sat.jq (bel τ) C x i k):∃hk:k<τ.length,τ[k].1=x/\τ[k].2.1=i/\τ[k].2.2.2=[]:=by
 have I:=h.top;unfold bel at I;cases e:uS τ x with
 |none=>rw[e]at I;cases I
 |some q=>
  rw[e]at I;obtain⟨q,j⟩:=q;obtain⟨g1,g2,g3⟩:=fV e;simp at I;obtain⟨I,rfl,M⟩:=I;subst g3;exact⟨g2,g1,I,M⟩
theorem jq.none{τ:List Tr}(hn:(τ.map (·.1)).Nodup){C:Rule}{x k:Nat}{i:Bool}(h:Sat.jq (bel τ) C x i k):bel (τ.take k) x=none:=by
 rw[uV hn];cases e:Sat.before (bel τ) k x with
 |none=>rfl
 |some b=>
  obtain⟨I,M⟩:=Sat.fB.1 e;rw[h.top]at I;cases I;simp at M
theorem jq.wrong{τ:List Tr}(hn:(τ.map (·.1)).Nodup){C:Rule}{x k:Nat}{i:Bool}(h:Sat.jq (bel τ) C x i k){u:View}(hu:u∈C)(bg:u≠(x,!i)):Sat.wrong (bel (τ.take k)) u:=by
 obtain e|⟨j,m,I,M,h3⟩:=h.rest u hu
 ·exact absurd e bg
 ·rw[uV hn];exact⟨_,Sat.fB.2 ⟨I,h3⟩,by rw[M];cases j<;>simp⟩
theorem NB.back{τ:List Tr}{ak:List Rule}(h:NB τ ak)(hn:(τ.map (·.1)).Nodup){C:Rule}{x k:Nat}{i:Bool}(hC:Sat.jq (bel τ) C x i k):NB (τ.take k) (ak++[C]):=by
 intro j hj hc r hr;have nR:j<k/\j<τ.length:=by simp at hj;omega
 rw[List.getElem_take]at hc;obtain hr|hr:=aq7.1 hr
 ·obtain⟨u,hu,I⟩:=h j nR.2 hc r hr;exact⟨u,hu,λM=>I (by rw[uV hn]at M;exact(Sat.mD O).1 M)⟩
 ·rw[ap8.1 hr];refine⟨_,hC.mem,fun⟨b,g1,_⟩=>?_⟩;have:=jq.none hn hC;simp only at g1;rw[this]at g1;cases g1
def akK(τ:List Tr)(ak:List Rule):Prop:=¬Sat.Done ak (bel τ)/\∀r∈ak,∃u∈r,¬Sat.wrong (bel τ) u
theorem ZG{τ:List Tr}{ak:List Rule}(h:NB τ ak)(hn:(τ.map (·.1)).Nodup){C:Rule}{x k:Nat}{i:Bool}(hC:Sat.jq (bel τ) C x i k):akK (τ.take k) (ak++[C]):=by
 have h0:=jq.none hn hC;refine⟨λhd=>?_,λr hr=>?_⟩
 ·obtain⟨v,hv,b,I,M⟩|⟨u,hu,v,hv,bg,I,M⟩:=hd C R
  ·by_cases e:v=(x,!i)
   ·subst e;simp only at I;rw[h0]at I;cases I
   ·obtain⟨c,g1,g2⟩:=jq.wrong hn hC hv e;rw[I]at g1;cases g1;exact g2 M
  ·have k1:u=(x,!i):=aq4 λe=>by
    obtain⟨c,g1,g2⟩:=jq.wrong hn hC hu e;rw[I]at g1;cases g1
   have k2:v=(x,!i):=aq4 λe=>by
    obtain⟨c,g1,g2⟩:=jq.wrong hn hC hv e;rw[M]at g1;cases g1
   exact bg (k1.trans k2.symm)
 ·obtain⟨hk,_,_,hc⟩:=jq.at hC;obtain hr|hr:=aq7.1 hr
  ·obtain⟨u,hu,I⟩:=h k hk hc r hr;refine⟨u,hu,fun⟨b,g1,g2⟩=>I ?_⟩;rw[uV hn]at g1;obtain⟨g3,g4⟩:=Sat.fB.1 g1;exact⟨b,g3,g2,g4⟩
  ·rw[ap8.1 hr];refine⟨_,hC.mem,fun⟨b,g1,_⟩=>?_⟩;simp only at g1;rw[h0]at g1;cases g1
def J0(U:Nat)(p:Nat)(tp:List UInt8)(τ:List Tr)(ak:List Rule):Prop:=
 NB τ ak/\((tp≠[]/\tp.length+2 ^ U<=p)\/(tp=[]/\2 ^ U<=p+LD U τ))
def Jp0(U:Nat)(p:Nat)(tp:List UInt8)(τ:List Tr)(ak:List Rule):Prop:=
 NB τ ak/\((tp≠[]/\tp.length+2 ^ U<=p)\/(tp=[]/\(2 ^ U<=p+LD U τ\/(akK τ ak/\τ.length<U/\2 ^ U<=p+LD U τ+2 ^ (U-1-τ.length)))))
theorem akS(U:Nat):Pot U False (Jp0 U) (J0 U):=by
 refine⟨?_,?_,?_,λh=>h.elim⟩
 ·rintro p tp τ ak ρ ⟨GU,h⟩ hρ hti hor;refine⟨GU.follow hρ hti.nodup,?_⟩;obtain h|⟨I,M⟩:=h
  ·exact Or.inl h
  ·refine Or.inr ⟨I,?_⟩;obtain M|⟨⟨Ig,uZ⟩,hlt,M⟩:=M
   ·have:=Oq U τ ρ;omega
   ·cases ρ with
    |nil=>
     exfalso;rw[av7]at hor;obtain hor|⟨r,hr,hor⟩:=hor
     ·exact Ig hor
     ·obtain⟨u,hu,hw⟩:=uZ r hr;exact hw (hor u hu)
    |cons q ρ=>
     have:=Qy U τ q ρ (hρ q R) hlt;omega
 ·rintro p tp τ ak x v ⟨GU,h⟩ hti hd aiU;refine⟨GU.choose hd aiU.nodup,?_⟩;have hv:=Oq U τ [(x,decide (dg tp%2=1),v,[])];obtain⟨I,M⟩|⟨I,M⟩:=h
  ·cases tp with
   |nil=>exact absurd rfl I
   |cons c tp=>
    simp only[ao1,List.tail_cons]at M ⊢;by_cases e:tp=[]
    ·exact Or.inr ⟨e,Or.inl O⟩
    ·exact Or.inl ⟨e,O⟩
  ·subst I;exact Or.inr ⟨rfl,Or.inl O⟩
 ·rintro p tp τ ak C x i k ⟨GU,h⟩ hti hC;have hb:=GU.back hti.nodup hC;have h0:NB [] (ak++[C]):=λj hj=>by simp at hj
  have yL:=Nat.two_pow_pos U;obtain⟨I,M⟩|⟨I,M⟩:=h
  ·cases tp with
   |nil=>exact absurd rfl I
   |cons c tp=>
    simp only[ao1,List.tail_cons]at M ⊢;refine⟨p-1,O,?_,λ_=>?_⟩
    ·refine⟨hb,?_⟩;by_cases e:tp=[]
     ·exact Or.inr ⟨e,Or.inl O⟩
     ·exact Or.inl ⟨e,O⟩
    ·refine⟨h0,?_⟩;by_cases e:tp=[]
     ·exact Or.inr ⟨e,Or.inl O⟩
     ·exact Or.inl ⟨e,O⟩
  ·subst I;have hl:=U0 U τ;obtain⟨hk,_,_,hc⟩:=jq.at hC;have hlen:=hti.len;have hvb:=Qz U τ k hk hc O;have Fe:(τ.take k).length=k:=anf;refine⟨p-1,O,⟨hb,Or.inr ⟨rfl,Or.inr ⟨ZG GU hti.nodup hC,O,by rw[Fe];omega⟩⟩⟩,λh=>by simp[dg]at h⟩
theorem P6:∀(U:Nat) (f:Nat->Bool),∃c,c<2 ^ U/\∀x,x<U->c.testBit x=f x
 |0,_=>⟨0,R,λx hx=>O⟩
 |U+1,f=>by
  obtain⟨c,I,M⟩:=P6 U f;cases hf:f U
  ·refine⟨c,by rw[Nat.pow_succ];omega,λx hx=>?_⟩;by_cases e:x=U
   ·rw[e,hf];exact Nat.testBit_lt_two_pow I
   ·exact M x O
  ·refine⟨2 ^ U+c,by rw[Nat.pow_succ];omega,λx hx=>?_⟩;by_cases e:x=U
   ·rw[e,hf,Nat.testBit_two_pow_add_eq,Nat.testBit_lt_two_pow I];rfl
   ·rw[Nat.testBit_two_pow_add_gt O];exact M x O
def Tl(τ:List Tr):List Nat:=(τ.filter λq=>q.2.2.2.isEmpty&&q.2.1).map (·.1)
theorem abg{τ ρ:List Tr}(h:Byr ρ):Tl (τ++ρ)=Tl τ:=by
 unfold Tl;rw[ay6];have:ρ.filter (λq=>q.2.2.2.isEmpty&&q.2.1)=[]:=List.filter_eq_nil_iff.2 λq hq=>by
  have:=h q hq;simp[this]
 rw[this,av7]
theorem abh(τ:List Tr)(x:Nat)(v:Value)(i:Bool):(Tl (τ++[(x,i,v,[])]))=Tl τ++(if i then [x]else []):=by
 unfold Tl;rw[ay6];cases i<;>simp
theorem afL(τ:List Tr)(k:Nat):Tl (τ.take k) <+: Tl τ:=by
 unfold Tl;refine List.IsPrefix.map _ (List.IsPrefix.filter _ (List.take_prefix k τ))
theorem ah4{τ:List Tr}(hn:(τ.map (·.1)).Nodup){x m:Nat}{j:Bool}(h:bel τ x=some (j,m,[])):x∈Tl τ↔j=true:=by
 unfold bel at h;cases e:uS τ x with
 |none=>rw[e]at h;cases h
 |some q=>
  rw[e]at h;obtain⟨q,t⟩:=q;obtain⟨g1,g2,g3⟩:=fV e;simp at h;obtain⟨I,rfl,M⟩:=h;unfold Tl;constructor
  ·intro hx;obtain⟨q',hq,h3⟩:=ap6.1 hx;obtain⟨Qk,OX⟩:=as6.1 hq;obtain⟨s,hs,h4⟩:=ar6 Qk;have h5:=nU hn hs;rw[h4,h3,e]at h5;cases h5;simp at OX;rw[<-I];exact OX.2
  ·intro hj;refine ap6.2 ⟨q,as6.2 ⟨?_,?_⟩,g1⟩
   ·rw[<-g3];exact an5 _
   ·simp[M,I,hj]
structure AsI(U:Nat)(ak:List Rule)(As:List Nat):Prop where
 nodup:As.Nodup
 lt:∀c∈As,c<2 ^ U
 broke:∀c∈As,∃r∈ak,∀v∈r,c.testBit v.1≠v.2
theorem AsI.len{U:Nat}{ak:List Rule}{As:List Nat}(h:AsI U ak As):As.length<=2 ^ U:=nJ _ _ h.nodup h.lt
theorem AsI.more{U:Nat}{ak:List Rule}{As:List Nat}(h:AsI U ak As)(C:Rule):AsI U (ak++[C]) As:=
 ⟨h.nodup,h.lt,λc hc=>by obtain⟨r,hr,I⟩:=h.broke c hc;exact⟨r,as9 _ hr,I⟩⟩
structure LsI(U:Nat)(T:List Nat)(ak:List Rule)(Ls:List Nat):Prop where
 nodup:Ls.Nodup
 lt:∀c∈Ls,c<61*2 ^ U
 is:∀c∈Ls,T.length<c/2 ^ U\/(c/2 ^ U=T.length/\∃r∈ak,(∀x,(c%2 ^ U).testBit x=true↔∃s,(x,s)∈r)/\∀v∈r,(v.2=false↔v.1∈T))
theorem LsI.nil(U:Nat)(T:List Nat)(ak:List Rule):LsI U T ak []:=⟨az6,λc h=>by(cases h),λc h=>by(cases h)⟩
theorem LsI.back{U:Nat}{T T':List Nat}{ak:List Rule}{Ls:List Nat}(h:LsI U T ak Ls)(hp:T' <+: T)(C:Rule):LsI U T' (ak++[C]) Ls:=by
 refine⟨h.nodup,h.lt,λc hc=>?_⟩;have hl:=hp.length_le;obtain I|⟨I,r,hr,M⟩:=h.is c hc
 ·left;omega
 ·by_cases e:T'.length=T.length
  ·have:=hp.eq_of_length e;subst this;exact Or.inr ⟨I,r,as9 _ hr,M⟩
  ·left;omega
def J1(U:Nat)(p:Nat)(tp:List UInt8)(τ:List Tr)(ak:List Rule):Prop:=
 (Tl τ).length+tp.length<=60/\∃As,AsI U ak As/\((tp≠[]/\tp.length+62*2 ^ U<=p+As.length)\/(tp=[]/\∃Ls,LsI U (Tl τ) ak Ls/\62*2 ^ U<=p+Ls.length+As.length))
theorem akR(U:Nat):Pot U True (J1 U) (J1 U):=by
 have yL:=Nat.two_pow_pos U;refine⟨?_,?_,?_,λ_=>?_⟩
 ·rintro p tp τ ak ρ ⟨h0,h⟩ hρ hti hor;unfold J1;rw[abg hρ];exact⟨h0,h⟩
 ·rintro p tp τ ak x v ⟨h0,As,hA,h⟩ hti hd aiU;unfold J1;rw[abh];cases tp with
  |nil=>
   obtain⟨I,M⟩|⟨I,M⟩:=h
   ·exact absurd rfl I
   ·simp only[dg,List.tail_nil,ap0]at h0 ⊢;simp only[Nat.zero_mod,Nat.zero_ne_one,decide_false,ay7,az0,av7];exact⟨h0,As,hA,Or.inr ⟨trivial,M⟩⟩
  |cons c tp=>
   obtain⟨I,M⟩|⟨I,M⟩:=h
   ·simp only[ao1,List.tail_cons]at h0 M ⊢;refine⟨?_,As,hA,?_⟩
    ·rw[ap4];split<;>simp<;>omega
    ·by_cases e:tp=[]
     ·exact Or.inr ⟨e,[],LsI.nil _ _ _,anf⟩
     ·exact Or.inl ⟨e,O⟩
   ·cases I
 ·rintro p tp τ ak C x i k ⟨h0,As,hA,h⟩ hti hC;have hAl:=hA.len;have ht:=afL τ k;have hz:Tl [] <+: Tl τ:=by exact List.nil_prefix
  obtain⟨I,M⟩|⟨I,Ls,hL,M⟩:=h
  ·cases tp with
   |nil=>exact absurd rfl I
   |cons c tp=>
    simp only[ao1,List.tail_cons]at h0 M ⊢;have key:∀σ:List Tr,Tl σ <+: Tl τ->J1 U (p-1) tp σ (ak++[C]):=λσ hσ=>by
     have:=hσ.length_le;refine⟨O,As,hA.more C,?_⟩;by_cases e:tp=[]
     ·exact Or.inr ⟨e,[],LsI.nil _ _ _,anf⟩
     ·exact Or.inl ⟨e,O⟩
    exact⟨p-1,O,key _ ht,λ_=>key _ hz⟩
  ·subst I;simp only[ap0,List.tail_nil]at h0 ⊢;obtain⟨c0,zO,Gn⟩:=P6 U (λy=>C.any (λv=>v.1==y));have hCU:∀v∈C,v.1<U:=λv hv=>by
    have hb:∃b,bel τ v.1=some b:=by
     obtain e|⟨j,m,g,_⟩:=hC.rest v hv
     ·rw[e];exact⟨_,hC.top⟩
     ·exact⟨_,g⟩
    obtain⟨b,hb⟩:=hb;unfold bel at hb;cases e:uS τ v.1 with
    |none=>rw[e]at hb;cases hb
    |some q=>
     obtain⟨q,t⟩:=q;obtain⟨g1,g2,g3⟩:=fV e;rw[<-g1,<-g3];exact hti.lt _ (an5 _)
   have agf:∀y,c0.testBit y=true↔∃s,(y,s)∈C:=λy=>by
    constructor
    ·intro h;by_cases hy:y<U
     ·rw[Gn y hy]at h;obtain⟨v,hv,e⟩:=ay4.1 h;have e:v.1=y:=(by simpa using e);subst e;exact⟨v.2,hv⟩
     ·rw[Nat.testBit_lt_two_pow (ap2 zO (Nat.pow_le_pow_right O O))]at h;cases h
    ·rintro⟨s,hs⟩;rw[Gn y (hCU _ hs)];exact ay4.2 ⟨_,hs,R⟩
   have ac7:∀v∈C,(v.2=false↔v.1∈Tl τ):=λv hv=>by
    have hb:∃j m,bel τ v.1=some (j,m,[])/\v.2=!j:=by
     obtain e|⟨j,m,g,g2,_⟩:=hC.rest v hv
     ·rw[e];exact⟨_,_,hC.top,rfl⟩
     ·exact⟨_,_,g,g2⟩
    obtain⟨j,m,hb,h3⟩:=hb;rw[ah4 hti.nodup hb,h3];cases j<;>simp
   have hd:(c0+(Tl τ).length*2 ^ U)/2 ^ U=(Tl τ).length:=by
    rw[Nat.add_mul_div_right _ _ yL,Nat.div_eq_of_lt zO];omega
   have hm:(c0+(Tl τ).length*2 ^ U)%2 ^ U=c0:=by
    rw[Nat.add_mul_mod_self_right,Nat.mod_eq_of_lt zO]
   have hc:c0+(Tl τ).length*2 ^ U<61*2 ^ U:=by
    have:(Tl τ).length*2 ^ U<=60*2 ^ U:=Nat.mul_le_mul_right _ O;omega
   have OZ:c0+(Tl τ).length*2 ^ U∉Ls:=λfZ=>by
    obtain g|⟨_,r,hr,g1,g2⟩:=hL.is _ fZ
    ·omega
    ·rw[hm]at g1;refine hti.inv.fresh hC hr (λv=>?_);have hg:(∃s,(v.1,s)∈r)↔∃s,(v.1,s)∈C:=(g1 v.1).symm.trans (agf v.1);constructor
     ·intro hv;obtain⟨s,hs⟩:=hg.1 ⟨v.2,hv⟩;have e1:=g2 v hv;have e2:=ac7 _ hs;have:v=(v.1,s):=by
       have:v.2=s:=by
        have e3:=e1.trans e2.symm;cases BD:v.2<;>cases su:s<;>simp_all
       rw[<-this]
      rw[this];exact hs
     ·intro hv;obtain⟨s,hs⟩:=hg.2 ⟨v.2,hv⟩;have e1:=ac7 v hv;have e2:=g2 _ hs;have:v=(v.1,s):=by
       have:v.2=s:=by
        have e3:=e1.trans e2.symm;cases BD:v.2<;>cases su:s<;>simp_all
       rw[<-this]
      rw[this];exact hs
   have hL2:LsI U (Tl τ) (ak++[C]) ((c0+(Tl τ).length*2 ^ U)::Ls):=by
    have hb:=hL.back (av9 _) C;refine⟨List.nodup_cons.2 ⟨OZ,hb.nodup⟩,λc xg=>?_,λc xg=>?_⟩
    ·obtain e|xg:=ar9.1 xg
     ·rw[e];exact hc
     ·exact hb.lt c xg
    ·obtain e|xg:=ar9.1 xg
     ·rw[e];right;rw[hd,hm];exact⟨rfl,C,R,agf,ac7⟩
     ·exact hb.is c xg
   have hLl:=nJ _ _ hL2.nodup hL2.lt;simp only[ao1]at hLl;refine⟨p-1,O,⟨by simp;have:=ht.length_le;omega,As,hA.more C,Or.inr ⟨rfl,_,⟨hL2.nodup,hL2.lt,λc xg=>?_⟩,anf⟩⟩,λh=>by simp[dg]at h⟩;obtain g|⟨g,g2⟩:=hL2.is c xg
   ·left;have:=ht.length_le;omega
   ·by_cases e:(Tl (τ.take k)).length=(Tl τ).length
    ·have:=ht.eq_of_length e;rw[this];exact Or.inr ⟨g,g2⟩
    ·left;have:=ht.length_le;omega
 ·rintro p tp τ ak C ⟨h0,As,hA,h⟩ hti hd hru ac4 hC;obtain⟨a,ha,hb⟩:=P6 U (λy=>match bel τ y with|some b=>b.1|none=>false);have ahu:∀y b,y<U->bel τ y=some b->a.testBit y=b.1:=λy b hy fF=>by rw[hb y hy,fF]
  have OZ:a∉As:=λhm=>by
   obtain⟨r,hr,I⟩:=hA.broke a hm;obtain⟨v,hv,b,g1,g2⟩|⟨u,hu,v,hv,_,g1,_⟩:=hd r hr
   ·exact I v hv ((ahu _ _ (hru r hr v hv) g1).trans g2)
   ·exact ac4 _ (hru r hr u hu) g1
  have hA2:AsI U (ak++[C]) (a::As):=by
   refine⟨List.nodup_cons.2 ⟨OZ,hA.nodup⟩,λc hc=>?_,λc hc=>?_⟩
   ·obtain e|hc:=ar9.1 hc
    ·rw[e];exact ha
    ·exact hA.lt c hc
   ·obtain e|hc:=ar9.1 hc
    ·rw[e];refine⟨C,R,λv hv=>?_⟩;obtain⟨g0,b,g1,g2⟩:=hC v hv;rw[ahu _ _ g0 g1];exact g2
    ·exact(hA.more C).broke c hc
  have hAl:=hA2.len;simp only[ao1]at hAl;have hz:Tl [] <+: Tl τ:=by exact List.nil_prefix
  have hzl:=hz.length_le;obtain⟨I,M⟩|⟨I,Ls,hL,M⟩:=h
  ·exact⟨p-1,O,O,_,hA2,Or.inl ⟨I,anf⟩⟩
  ·subst I;have hLl:=nJ _ _ hL.nodup hL.lt;exact⟨p-1,O,O,_,hA2,Or.inr ⟨rfl,Ls,hL.back hz C,anf⟩⟩
end Go.Proofs.YthcppbmkacbbiabGreat
