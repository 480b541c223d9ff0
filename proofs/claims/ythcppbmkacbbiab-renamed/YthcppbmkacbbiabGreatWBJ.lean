import Derived.Test.YthcppbmkacbbiabGreatWBI
set_option linter.unusedSimpArgs false
set_option maxHeartbeats 16000000
set_option maxRecDepth 100000
namespace Go.Proofs.YthcppbmkacbbiabGreat
open Go.Proofs.Tryz
open Go.RowKit Go.Maps Go.WideMaps
open Sat (View Rule jk bG)
open aB (Key put dJ au aQ)
def xE(f:Key->Key)(cs:List (Int×Nat))(a b:Nat):List (List aU):=
 if (cs.getD a (0,0)).1=(cs.getD b (0,0)).1 then
  [[(f (bH (cs.getD a (0,0)).2 (cs.getD b (0,0)).2),false),(f ((cs.getD a (0,0)).1,a,0),true),(f ((cs.getD b (0,0)).1,b,0),false)],
   [(f (bH (cs.getD a (0,0)).2 (cs.getD b (0,0)).2),false),(f ((cs.getD a (0,0)).1,a,0),false),(f ((cs.getD b (0,0)).1,b,0),true)]]else []
theorem O0(f:Key->Key)(cs:List (Int×Nat)):X8 f cs=(List.range cs.length).flatMap λa=>(List.range a).flatMap λb=>xE f cs a b:=rfl
theorem CP(f:Key->Key)(cs:List (Int×Nat))(a b:Nat):(xE f cs a b).length<=2:=by unfold xE;split<;>simp
structure xQ(V:World)(n0 lb BU BS:Nat)(f:Key->Key)(dom:Key->Prop)(X:Nat->Prop)(aN:List Key)(ak:List Rule)(M:List (List aU))(U:List Key)(W:World):Prop where
 lg:LG n0 W lb BU BS f dom U ak (λk=>X k\/V.heap.size<=k)
 lp:jW U ak M
 cand:∀q∈U,q∈aN
 vk:VK V W
 below:Below n0 V W
 size:V.heap.size<=W.heap.size
theorem xQ.grow{V:World}{n0 lb BU BS:Nat}{f:Key->Key}{dom:Key->Prop}{X:Nat->Prop}{aN:List Key}{ak:List Rule}{M:List (List aU)}{U:List Key}{W W':World}(h:xQ V n0 lb BU BS f dom X aN ak M U W)(hn:n0<=V.heap.size)(hg:W.grownBy W' none):xQ V n0 lb BU BS f dom X aN ak M U W':=
 ⟨h.lg.grow hg,h.lp,h.cand,h.vk.trans (VK.grown hg),h.below.trans ((But.aA hg).below (af7 hn h.size) (λk _ e=>by cases e)),af7 h.size hg.size⟩
theorem xQ.set{V:World}{n0 lb BU BS:Nat}{f:Key->Key}{dom:Key->Prop}{X:Nat->Prop}{aN:List Key}{ak:List Rule}{M:List (List aU)}{U:List Key}{W:World}(h:xQ V n0 lb BU BS f dom X aN ak M U W)(hn:n0<=V.heap.size){b:Nat}{cur:Array Value}{x:Nat×Nat}(hz:W.heap[b]?=some (Obj.cells cur 207 x))(hb:V.heap.size<=b)(u0 u1:Value) :
  xQ V n0 lb BU BS f dom X aN ak M U ((W.setCell ⟨b,0,none⟩ u0).setCell ⟨b,1,none⟩ u1):=by
 have hB:But (λk=>k=b) W ((W.setCell ⟨b,0,none⟩ u0).setCell ⟨b,1,none⟩ u1):=But.setCell (S:=λk=>k=b) (But.setCell (S:=λk=>k=b) (But.refl _ _) (λ_=>rfl) _) (λ_=>rfl) _;refine⟨h.lg.NZ hB (λk e=>⟨Or.inr (by rw[e];exact hb),cur,207,x,by rw[e];exact hz,by decide,by decide⟩),h.lp,h.cand,?_,?_,af7 h.size hB.size⟩
 ·intro k cu t xx t1 t2 e;have e3:=h.vk _ _ _ _ t1 t2 e;have hk:=(ad3.1 e).1;exact(hB.block k (ad3.1 e3).1 (by omega)).trans e3
 ·exact h.below.trans (hB.below (af7 hn h.size) (λk hk e=>by omega))
def ZB(V W:World)(b:Nat):Prop:=W.heap[b]?=some (Obj.cells #[.int .i64 0,.bool false] 207 (0,0))/\V.heap.size<=b
theorem ZB.lt{V W:World}{b:Nat}(h:ZB V W b):b<W.heap.size:=(ad3.1 h.1).1
theorem ZB.vk{V W W':World}{b:Nat}(h:ZB V W b)(hk:VK W W'):ZB V W' b:=⟨aI hk h.1,h.2⟩
theorem ZB.al{V W:World}{b:Nat}(h:ZB V W b)(o:Obj):ZB V (W.alloc o) b:=⟨(ae3 _ _ _ h.lt).trans h.1,h.2⟩
theorem ZB.new{V W:World}(h:V.heap.size<=W.heap.size):ZB V (W.alloc (.cells #[.int .i64 0,.bool false] 207)) W.heap.size:=⟨ae9 _ _,h⟩
def ZL(V W:World)(l:Bool)(t:Value)(b:Nat):Prop:=l=true->t=.pointer (some ⟨b,0,none⟩)/\ZB V W b
theorem ZL.vk{V W W':World}{l:Bool}{t:Value}{b:Nat}(h:ZL V W l t b)(hk:VK W W'):ZL V W' l t b:=λe=>⟨(h e).1,(h e).2.vk hk⟩
theorem ZL.al{V W:World}{l:Bool}{t:Value}{b:Nat}(h:ZL V W l t b)(o:Obj):ZL V (W.alloc o) l t b:=λe=>⟨(h e).1,(h e).2.al o⟩
theorem ZL.new{V W:World}(h:V.heap.size<=W.heap.size):ZL V (W.alloc (.cells #[.int .i64 0,.bool false] 207)) true (.pointer (some ⟨W.heap.size,0,none⟩)) W.heap.size:=λ_=>⟨rfl,ZB.new h⟩
def ZD(l l':Bool)(b b':Nat):Prop:=l=true->l'=true->b≠b'
theorem ZL.dn{V W:World}{l:Bool}{t:Value}{b:Nat}(h:ZL V W l t b):ZD true l W.heap.size b:=λ_ e=>by
 have:=(h e).2.lt;omega
theorem ZL.nd{V W:World}{l:Bool}{t:Value}{b:Nat}(h:ZL V W l t b):ZD l true b W.heap.size:=λe _=>by
 have:=(h e).2.lt;omega
def cn(l:Bool):Nat:=if l then 0 else 1
theorem NK(X:Nat->Prop)(n0:Nat)(w:World)(lb BU BS:Nat)(f:Key->Key)(dom:Key->Prop)(aN:List Key)(L:List (List aU))(GC nt:Nat)(cs:List (Int×Nat))(hLS:LS n0 lb BU BS f dom X aN L w)(hX:∀k,X k->k<w.heap.size)(h9:aN.length<=900)(hsm:Vh f dom nt)(hc:∀a b,a<nt->b<nt->f (61,a,b)∈aN)(hcc:∀c (h:c<cs.length),f (cs[c].1,c,0)∈aN)(hnt:nt<=7)(h4:cs.length<=4)(hn:n0<=w.heap.size)(hL:L.length<=6000)
 (hrt:eF w GC cs)(hG:GC<n0)(hcs:∀x∈cs,(x.1=80\/x.1=81)/\x.2<nt) :
  Calls prog 114 #[.pointer (some ⟨lb,0,none⟩),.slice (some ⟨GC,0,none⟩) cs.length cs.length] w λe w'=>(∃z,e=.returned z)/\EI w n0 lb BU BS f dom X aN (L++X8 f cs) w':=by
 have hask:Hid (∀a b,a<nt->b<nt->Ask f dom aN (61,a,b)):=λa b ha hb=>hsm.ask hc (by omega) ha hb;have VE:Hid (∀c (h:c<cs.length),Ask f dom aN (cs[c].1,c,0)):=λc h=>by
  have h8:=hcs _ (ad8 h);have hf:=hsm.other (cs[c].1,c,0) (by show cs[c].1≠61;omega);have hd:=hsm.I8 (cs[c].1,c,0) (λe=>by have:cs[c].1=61:=e;omega);have hb:(0<=cs[c].1/\cs[c].1<=255)/\c<=1000/\0<=1000:=by omega
  exact⟨hd,by rw[hf];exact hd,by rw[hf,hf],hb,by rw[hf];exact hb,hcc c h⟩
 have hlen:Hid (∀a b,a<=cs.length->b<=a->((L++((List.range a).flatMap λa=>(List.range a).flatMap λb=>xE f cs a b))++((List.range b).flatMap λb=>xE f cs a b)).length<=7000):=λa b ha hb=>by
  have h1:((List.range a).flatMap λa=>(List.range a).flatMap λb=>xE f cs a b).length<=a*8:=by
   have key:∀k,k<=4->((List.range k).flatMap λa=>(List.range a).flatMap λb=>xE f cs a b).length<=k*8:=λk=>by
    induction k with
    |zero=>intro _;simp
    |succ k ih=>
     intro hk;rw[dO,af8,an0];have h1:=ih (by omega);have h2:=jV (λb=>xE f cs k b) 2 (CP f cs k) k;omega
   exact key a (by omega)
  have h2:=jV (λb=>xE f cs a b) 2 (CP f cs a) b;simp only[af8];omega
 have hE0:EI w n0 lb BU BS f dom X aN L w:=⟨hLS,ag6 _ _,VK.refl _,ad5 _⟩;have HE0:=aj hE0;have HRT:=aj hrt;have HT:=aj hcs;rw[O0];clear hsm hc hcc hLS hE0 hrt hcs
 go_enter func114,ntmps114
 go_wp2_with fail
 go_loopw [13] (λi wr=>∃a:Nat,a<=cs.length/\i=.int .i64 a/\EI w n0 lb BU BS f dom X aN (L++((List.range a).flatMap λa=>(List.range a).flatMap λb=>xE f cs a b)) wr) (λi _=>cs.length-(intOf i).toNat)
 case atStart=>exact⟨0,ah2 _,rfl,by simpa using ah HE0⟩
 case round=>
  obtain⟨a,ha,rfl,hE⟩:=hrel;by_cases hlt:a<cs.length
  ·have hbd:(a:Int)<(cs.length:Int):=(by omega);obtain⟨c0,c1⟩:=((ah HRT).below hE.below hG).2 a hlt;have ta1:=ah HT _ (ad8 hlt);have hga:cs.getD a (0,0)=cs[a]:=aG hlt _;have hAa:=ah VE a hlt;have hsz:=hE.size;have HGA:=aj hga;have HE:=aj hE;clear hE hga;generalize cs[a]=ka at c0 c1 ta1 HGA hAa;obtain⟨al,ax⟩:=ka;simp only at c0 c1 ta1 hAa;have hgA:wr.grownBy (wr.alloc (.cells #[.int .u8 al,.int .i64 ax] 79)) none:=ad4 _ _ none;have hE1:=(ah HE).grow hn hgA;have b5:(wr.alloc (.cells #[.int .u8 al,.int .i64 ax] 79)).heap[wr.heap.size]?=some (.cells #[.int .u8 al,.int .i64 ax] 79 (0,0)):=ae9 _ _;have HE1:=aj hE1;have B5:=aj b5;obtain⟨B,hB⟩:∃B,wr.heap.size=B:=⟨_,rfl⟩;clear hE1 b5 hgA
   go_wp2_with fail
   rw[hB]at B5;have HB:=aj hB;clear hB
   go_loopw [22] (λi wq=>∃b:Nat,b<=a/\i=.int .i64 b/\EI w n0 lb BU BS f dom X aN ((L++((List.range a).flatMap λa=>(List.range a).flatMap λb=>xE f cs a b))++((List.range b).flatMap λb=>xE f cs a b)) wq/\wq.heap[B]?=some (.cells #[.int .u8 al,.int .i64 ax] 79 (0,0))) (λi _=>a-(intOf i).toNat)
   case atStart=>exact⟨0,ah2 _,rfl,by simpa using ah HE1,ah B5⟩
   case round=>
    clear HE1 B5 c0 c1;obtain⟨b,hb,rfl,hE,b5⟩:=hrel;by_cases hlb:b<a
    ·have hbd2:(b:Int)<(a:Int):=(by omega);have hbl:b<cs.length:=(by omega);obtain⟨c0,c1⟩:=((ah HRT).below hE.below hG).2 b hbl;have tb1:=ah HT _ (ad8 hbl);have hgb:cs.getD b (0,0)=cs[b]:=aG hbl _;have hAb:=ah VE b hbl;have hll:=ah hlen a b (by omega) (by omega);have aaD:=hE.size;have hfb:xE f cs a b=if al=cs[b].1 then [[(f (61,ax,cs[b].2),false),(f (al,a,0),true),(f (cs[b].1,b,0),false)],[(f (61,ax,cs[b].2),false),(f (al,a,0),false),(f (cs[b].1,b,0),true)]]else []:=by
      unfold xE bH;rw[ah HGA,hgb]
     have cO:Hid (∀W',EI w n0 lb BU BS f dom X aN (((L++((List.range a).flatMap λa=>(List.range a).flatMap λb=>xE f cs a b))++((List.range b).flatMap λb=>xE f cs a b))++xE f cs a b) W'->EI w n0 lb BU BS f dom X aN ((L++((List.range a).flatMap λa=>(List.range a).flatMap λb=>xE f cs a b))++((List.range (b+1)).flatMap λb=>xE f cs a b)) W'):=λW' h=>by
      rw[dO,<-ak2];exact h
     rw[hfb]at cO;clear hfb hgb;generalize cs[b]=kb at c0 c1 tb1 cO hAb;obtain⟨bl,bx⟩:=kb;simp only at c0 c1 tb1 cO hAb;have hgA:wr.grownBy (wr.alloc (.cells #[.int .u8 bl,.int .i64 bx] 79)) none:=ad4 _ _ none;obtain⟨W1,hW1⟩:∃W1,wr.alloc (.cells #[.int .u8 bl,.int .i64 bx] 79)=W1:=⟨_,rfl⟩;have b7:W1.heap[wr.heap.size]?=some (.cells #[.int .u8 bl,.int .i64 bx] 79 (0,0)):=(by rw[<-hW1];exact ae9 _ _);rw[hW1]at hgA;have b51:=aI (VK.grown hgA) b5;have hE1:=hE.grow hn hgA;have k50:W1.cell? ⟨B,0,none⟩=some (.int .u8 al):=(by rw[cell_of b51];rfl);have k70:W1.cell? ⟨wr.heap.size,0,none⟩=some (.int .u8 bl):=(by rw[cell_of b7];rfl);obtain⟨C,hC⟩:∃C,wr.heap.size=C:=⟨_,rfl⟩;have HE1:=aj hE1;have B51:=aj b51;have B7:=aj b7;rw[hC]at B7 k70;obtain⟨M,hM⟩:∃M,(L++((List.range a).flatMap λa=>(List.range a).flatMap λb=>xE f cs a b))++((List.range b).flatMap λb=>xE f cs a b)=M:=⟨_,rfl⟩;rw[hM]at hll cO HE1;have hsW:=hE1.size;have HM:=aj hM;clear hE hE1 b51 b7 b5 hgA hM;by_cases hlet:al=bl
     ·subst hlet;rw[af6 rfl]at cO
      go_wp2_with fail
      clear hW1 hC;obtain⟨V,hVd⟩:∃V,W1.drew=V:=⟨_,rfl⟩;have jw:W1.grownBy V none:=(by rw[<-hVd];exact⟨rfl,rfl,rfl,ad5 _,λ_ _ _=>rfl⟩);refine ah0 (S:=λW'=>VK V W') rfl ?_;have hS0:VK V V:=VK.refl _;simp only[ae2,ae1,ae8,Nat.reduceAdd,ae0,ad9,ae4,ae7,ae6];change wpAnyH prog .any _ _ _ _ _ _ W1.drew;rw[hVd];clear hVd;have bA:=aI (VK.grown jw) (ah B51);have bB:=aI (VK.grown jw) (ah B7);have hEV:=(ah HE1).grow hn jw;have hsV:=hEV.size;obtain⟨Us,ak,iQ,kY,hUC⟩:=hEV.ls;have hnV:n0<=V.heap.size:=(by omega);have A1:=ah hask ax bx ta1.2 tb1.2;have hC0:xQ V n0 lb BU BS f dom X aN ak M Us V:=⟨iQ.other (λk hk h=>h.elim id (λh=>by omega)),kY,hUC,VK.refl _,ag6 _ _,ad5 _⟩;obtain⟨U1,hU1⟩:∃U,put Us (f (61,ax,bx))=U:=⟨_,rfl⟩;obtain⟨U2,hU2⟩:∃U,put U1 (f (al,a,0))=U:=⟨_,rfl⟩;obtain⟨U3,hU3⟩:∃U,put U2 (f (al,b,0))=U:=⟨_,rfl⟩;obtain⟨x1,hx1⟩:∃x,U1.idxOf (f (61,ax,bx))=x:=⟨_,rfl⟩;obtain⟨x2,hx2⟩:∃x,U2.idxOf (f (al,a,0))=x:=⟨_,rfl⟩;obtain⟨x3,hx3⟩:∃x,U3.idxOf (f (al,b,0))=x:=⟨_,rfl⟩;have hm1:f (61,ax,bx)∈U1:=(by rw[<-hU1];exact aT _ _);have hm2:f (al,a,0)∈U2:=(by rw[<-hU2];exact aT _ _);have hm3:f (al,b,0)∈U3:=(by rw[<-hU3];exact aT _ _);have hp12:U1 <+: U2:=(by rw[<-hU2];exact fH _ _);have hp23:U2 <+: U3:=(by rw[<-hU3];exact fH _ _);have F0:Hid (∀W,xQ V n0 lb BU BS f dom X aN ak M Us W->Calls prog 153 #[.int .i64 ax,.int .i64 bx] W λe W'=>e=.returned (.agg #[.int .u8 61,.int .i64 ax,.int .i64 bx])/\xQ V n0 lb BU BS f dom X aN ak M Us W'/\VK W W'):=λW h=>(gW ax bx W).mono (λe W' g=>⟨g.1,h.grow hnV g.2,VK.grown g.2⟩);have F1:Hid (∀W,xQ V n0 lb BU BS f dom X aN ak M Us W->Calls prog 154 #[.pointer (some ⟨lb,0,none⟩),.agg #[.int .u8 61,.int .i64 ax,.int .i64 bx]] W λe W'=>e=.returned (.agg #[.int .i64 x1,.bool true])/\xQ V n0 lb BU BS f dom X aN ak M U1 W'/\VK W W'):=λW h=>by
       refine(vX n0 W lb BU BS f dom _ aN Us ak M ax bx A1 h.lg h.lp h.cand h9 (af7 hnV h.size)).mono ?_;rintro e W' ⟨rfl,g1,g2,g3,g4,g5⟩;rw[hU1]at g1 g2 g3 ⊢;rw[hx1];exact⟨rfl,⟨g1,g2,g3,h.vk.trans g5,h.below.trans g4,af7 h.size g4.size⟩,g5⟩
      have F2:Hid (∀W,xQ V n0 lb BU BS f dom X aN ak M U1 W->Calls prog 127 #[.agg #[.int .i64 x1,.bool true]] W λe W'=>e=.returned (.agg #[.int .i64 x1,.bool false])/\xQ V n0 lb BU BS f dom X aN ak M U1 W'/\VK W W'):=λW h=>(fJ x1 true W).mono (λe W' g=>⟨g.1,h.grow hnV g.2,VK.grown g.2⟩);have F3:Hid (∀W,xQ V n0 lb BU BS f dom X aN ak M U1 W->Calls prog 154 #[.pointer (some ⟨lb,0,none⟩),.agg #[.int .u8 al,.int .i64 a,.int .i64 0]] W λe W'=>e=.returned (.agg #[.int .i64 x2,.bool true])/\xQ V n0 lb BU BS f dom X aN ak M U2 W'/\VK W W'):=λW h=>by
       refine(GR n0 W lb BU BS f dom _ aN U1 ak M (al,a,0) hAa h.lg h.lp h.cand h9 (af7 hnV h.size)).mono ?_;rintro e W' ⟨rfl,g1,g2,g3,g4,g5⟩;rw[hU2]at g1 g2 g3 ⊢;rw[hx2];exact⟨rfl,⟨g1,g2,g3,h.vk.trans g5,h.below.trans g4,af7 h.size g4.size⟩,g5⟩
      have F4:Hid (∀W,xQ V n0 lb BU BS f dom X aN ak M U2 W->Calls prog 154 #[.pointer (some ⟨lb,0,none⟩),.agg #[.int .u8 al,.int .i64 b,.int .i64 0]] W λe W'=>e=.returned (.agg #[.int .i64 x3,.bool true])/\xQ V n0 lb BU BS f dom X aN ak M U3 W'/\VK W W'):=λW h=>by
       refine(GR n0 W lb BU BS f dom _ aN U2 ak M (al,b,0) hAb h.lg h.lp h.cand h9 (af7 hnV h.size)).mono ?_;rintro e W' ⟨rfl,g1,g2,g3,g4,g5⟩;rw[hU3]at g1 g2 g3 ⊢;rw[hx3];exact⟨rfl,⟨g1,g2,g3,h.vk.trans g5,h.below.trans g4,af7 h.size g4.size⟩,g5⟩
      refine tH 0 (.pointer (some ⟨lb,0,none⟩)) (λw' hS=>?_) hS0 ?_
      ·go_simp
      simp only[aC];refine tH 1 (.pointer (some ⟨B,1,none⟩)) (λw' hS=>?_) hS0 ?_
      ·go_simp
      simp only[aC];refine tH 2 (.int .i64 ax) (λw' hS=>?_) hS0 ?_
      ·have q:=aI hS bA;have q0:=(cell_of q 1)
       go_simp
      simp only[aC];refine tH 3 (.pointer (some ⟨C,1,none⟩)) (λw' hS=>?_) hS0 ?_
      ·go_simp
      simp only[aC];refine tH 4 (.int .i64 bx) (λw' hS=>?_) hS0 ?_
      ·have q:=aI hS bB;have q0:=(cell_of q 1)
       go_simp
      simp only[aC];refine tH 8 (.pointer (some ⟨lb,0,none⟩)) (λw' hS=>?_) hS0 ?_
      ·go_simp
      simp only[aC];refine tH 9 (.pointer (some ⟨B,0,none⟩)) (λw' hS=>?_) hS0 ?_
      ·go_simp
      simp only[aC];refine tH 10 (.int .u8 al) (λw' hS=>?_) hS0 ?_
      ·have q:=aI hS bA;have q0:=(cell_of q 0)
       go_simp
      simp only[aC];refine tH 11 (.int .i64 a) (λw' hS=>?_) hS0 ?_
      ·go_simp
      simp only[aC];refine tH 12 (.agg #[.int .u8 al,.int .i64 a,.int .i64 0]) (λw' hS=>?_) hS0 ?_
      ·go_simp
      simp only[aC];refine tH 14 (.pointer (some ⟨lb,0,none⟩)) (λw' hS=>?_) hS0 ?_
      ·go_simp
      simp only[aC];refine tH 15 (.pointer (some ⟨C,0,none⟩)) (λw' hS=>?_) hS0 ?_
      ·go_simp
      simp only[aC];refine tH 16 (.int .u8 al) (λw' hS=>?_) hS0 ?_
      ·have q:=aI hS bB;have q0:=(cell_of q 0)
       go_simp
      simp only[aC];refine tH 17 (.int .i64 b) (λw' hS=>?_) hS0 ?_
      ·go_simp
      simp only[aC];refine tH 18 (.agg #[.int .u8 al,.int .i64 b,.int .i64 0]) (λw' hS=>?_) hS0 ?_
      ·go_simp
      simp only[aC];refine sF (λops Q1 hops hQ1=>?_);obtain⟨frm,iy⟩:∃frm:Value->Value->Value->Value->Value->Value->Value->Value->Act,frm=λt8 t9 t10 t37 t38 t39 t45 t51=>{tmps:=List.toArray (.pointer (some ⟨lb,0,none⟩)::.slice (some ⟨GC,0,none⟩) cs.length cs.length::undef::undef::.int .i64 a::.pointer (some ⟨B,0,none⟩)::.int .i64 b::.pointer (some ⟨C,0,none⟩)::t8::t9::t10::.slice (some ⟨GC,0,none⟩) cs.length cs.length::.int .i64 cs.length::.int .i64 a::.bool true::.int .i64 a::.pointer (some ⟨GC,a*2,none⟩)::.agg #[.int .u8 al,.int .i64 ax]::.slice (some ⟨GC,0,none⟩) cs.length cs.length::.int .i64 a::.slice (some ⟨GC,0,none⟩) a cs.length::.int .i64 a::.int .i64 b::.bool true::.int .i64 b::.pointer (some ⟨GC,b*2,none⟩)::.agg #[.int .u8 al,.int .i64 bx]::.pointer (some ⟨B,0,none⟩)::.int .u8 al::.pointer (some ⟨C,0,none⟩)::.int .u8 al::.bool true::.pointer (some ⟨lb,0,none⟩)::.pointer (some ⟨B,1,none⟩)::.int .i64 ax::.pointer (some ⟨C,1,none⟩)::.int .i64 bx::t37::t38::t39::.pointer (some ⟨lb,0,none⟩)::.pointer (some ⟨B,0,none⟩)::.int .u8 al::.int .i64 a::.agg #[.int .u8 al,.int .i64 a,.int .i64 0]::t45::.pointer (some ⟨lb,0,none⟩)::.pointer (some ⟨C,0,none⟩)::.int .u8 al::.int .i64 b::.agg #[.int .u8 al,.int .i64 b,.int .i64 0]::t51::u52::u53::u54::u55::u56::u57::u58::u59::u60::u61::u62::u63::u64::u65::u66::u67::[]),defers:=[]}:=⟨_,rfl⟩;obtain⟨lst,ig⟩:∃lst:Bool->Bool->Bool->Bool->Bool->Bool->Bool->Bool->Array Bool,lst=λl5 l6 l7 l13 l19 l20 l21 l22=>#[true,true,true,true,true,l5,l6,l7,true,true,true,true,true,l13,true,true,true,true,true,l19,l20,l21,l22,false,false,false]:=⟨_,rfl⟩;have stF:Hid (∀(n:Nat) (W:World) (b8 b9 b10:Nat),xQ V n0 lb BU BS f dom X aN ak M U3 W->ZB V W b8->ZB V W b9->ZB V W b10->b8≠b9->b8≠b10->b9≠b10->wpAnyH prog .any ops Q1 (λW'=>VK V W') (n+3) (lst true true true true true true true true) (frm (.pointer (some ⟨b8,0,none⟩)) (.pointer (some ⟨b9,0,none⟩)) (.pointer (some ⟨b10,0,none⟩)) (.agg #[.int .u8 61,.int .i64 ax,.int .i64 bx]) (.agg #[.int .i64 x1,.bool true]) (.agg #[.int .i64 x1,.bool false]) (.agg #[.int .i64 x2,.bool true]) (.agg #[.int .i64 x3,.bool true])) W):=by
       intro n W b8 b9 b10 hC z20 z21 z22 n2021 n2022 n2122;subst hops iy ig;dsimp only;subst hQ1;have yb8:=z20.1;have yb9:=z21.1;have yb10:=z22.1;have sb80:W.cell? ⟨b8,0,none⟩=some (.int .i64 0):=(by rw[cell_of yb8];rfl);have sb81:W.cell? ⟨b8,1,none⟩=some (.bool false):=(by rw[cell_of yb8];rfl);have fb80:W.frozen? ⟨b8,0,none⟩=false:=(by simp[World.frozen?,yb8]);have fb81:W.frozen? ⟨b8,1,none⟩=false:=(by simp[World.frozen?,yb8]);have ac1:=(ad3.1 yb8).1;have hCa:=hC.set hnV yb8 z20.2 (.int .i64 x1) (.bool false);have wb8:((W.setCell ⟨b8,0,none⟩ (.int .i64 x1)).setCell ⟨b8,1,none⟩ (.bool false)).heap[b8]?=some (Obj.cells #[.int .i64 x1,.bool false] 207 (0,0)):=by
        rw[heap_setCell_same (heap_setCell_same yb8)]
        congr 2
       replace yb9:=((af4 (W.setCell ⟨b8,0,none⟩ (.int .i64 x1)) ⟨b8,1,none⟩ (.bool false) b9 (by show b9≠b8;omega)).trans (af4 W ⟨b8,0,none⟩ (.int .i64 x1) b9 (by show b9≠b8;omega))).trans yb9;replace yb10:=((af4 (W.setCell ⟨b8,0,none⟩ (.int .i64 x1)) ⟨b8,1,none⟩ (.bool false) b10 (by show b10≠b8;omega)).trans (af4 W ⟨b8,0,none⟩ (.int .i64 x1) b10 (by show b10≠b8;omega))).trans yb10;obtain⟨Wa,hWa⟩:∃W',(W.setCell ⟨b8,0,none⟩ (.int .i64 x1)).setCell ⟨b8,1,none⟩ (.bool false)=W':=⟨_,rfl⟩;rw[hWa]at hCa wb8 yb9 yb10;refine oH 23 (λK hK=>?_);go_simp;refine hK.out _ _ hCa.vk ?_;clear hK K hWa sb80 sb81 fb80 fb81;have sb90:Wa.cell? ⟨b9,0,none⟩=some (.int .i64 0):=(by rw[cell_of yb9];rfl);have sb91:Wa.cell? ⟨b9,1,none⟩=some (.bool false):=(by rw[cell_of yb9];rfl);have fb90:Wa.frozen? ⟨b9,0,none⟩=false:=(by simp[World.frozen?,yb9]);have fb91:Wa.frozen? ⟨b9,1,none⟩=false:=(by simp[World.frozen?,yb9]);have ac0:=(ad3.1 yb9).1;have hCb:=hCa.set hnV yb9 z21.2 (.int .i64 x2) (.bool true);have wb9:((Wa.setCell ⟨b9,0,none⟩ (.int .i64 x2)).setCell ⟨b9,1,none⟩ (.bool true)).heap[b9]?=some (Obj.cells #[.int .i64 x2,.bool true] 207 (0,0)):=by
        rw[heap_setCell_same (heap_setCell_same yb9)]
        congr 2
       replace wb8:=((af4 (Wa.setCell ⟨b9,0,none⟩ (.int .i64 x2)) ⟨b9,1,none⟩ (.bool true) b8 (by show b8≠b9;omega)).trans (af4 Wa ⟨b9,0,none⟩ (.int .i64 x2) b8 (by show b8≠b9;omega))).trans wb8;replace yb10:=((af4 (Wa.setCell ⟨b9,0,none⟩ (.int .i64 x2)) ⟨b9,1,none⟩ (.bool true) b10 (by show b10≠b9;omega)).trans (af4 Wa ⟨b9,0,none⟩ (.int .i64 x2) b10 (by show b10≠b9;omega))).trans yb10;obtain⟨Wb,hWb⟩:∃W',(Wa.setCell ⟨b9,0,none⟩ (.int .i64 x2)).setCell ⟨b9,1,none⟩ (.bool true)=W':=⟨_,rfl⟩;rw[hWb]at hCb wb9 wb8 yb10;refine oH 24 (λK hK=>?_);go_simp;refine hK.out _ _ hCb.vk ?_;clear hK K hWb sb90 sb91 fb90 fb91;have sb100:Wb.cell? ⟨b10,0,none⟩=some (.int .i64 0):=(by rw[cell_of yb10];rfl);have sb101:Wb.cell? ⟨b10,1,none⟩=some (.bool false):=(by rw[cell_of yb10];rfl);have fb100:Wb.frozen? ⟨b10,0,none⟩=false:=(by simp[World.frozen?,yb10]);have fb101:Wb.frozen? ⟨b10,1,none⟩=false:=(by simp[World.frozen?,yb10]);have acp:=(ad3.1 yb10).1;have hCc:=hCb.set hnV yb10 z22.2 (.int .i64 x3) (.bool true);have wb10:((Wb.setCell ⟨b10,0,none⟩ (.int .i64 x3)).setCell ⟨b10,1,none⟩ (.bool true)).heap[b10]?=some (Obj.cells #[.int .i64 x3,.bool true] 207 (0,0)):=by
        rw[heap_setCell_same (heap_setCell_same yb10)]
        congr 2
       replace wb8:=((af4 (Wb.setCell ⟨b10,0,none⟩ (.int .i64 x3)) ⟨b10,1,none⟩ (.bool true) b8 (by show b8≠b10;omega)).trans (af4 Wb ⟨b10,0,none⟩ (.int .i64 x3) b8 (by show b8≠b10;omega))).trans wb8;replace wb9:=((af4 (Wb.setCell ⟨b10,0,none⟩ (.int .i64 x3)) ⟨b10,1,none⟩ (.bool true) b9 (by show b9≠b10;omega)).trans (af4 Wb ⟨b10,0,none⟩ (.int .i64 x3) b9 (by show b9≠b10;omega))).trans wb9;obtain⟨Wc,hWc⟩:∃W',(Wb.setCell ⟨b10,0,none⟩ (.int .i64 x3)).setCell ⟨b10,1,none⟩ (.bool true)=W':=⟨_,rfl⟩;rw[hWc]at hCc wb10 wb8 wb9;refine oH 25 (λK hK=>?_);go_simp;refine hK.out _ _ hCc.vk (ag5 (by kernel_rfl) ?_ _);clear hK K hWc sb100 sb101 fb100 fb101;have Zx:LG n0 Wc lb BU BS f dom U3 ak X:=hCc.lg.other (λk _ h=>Or.inl h);have hsc:=hCc.size;have bAc:=aI hCc.vk bA;have e1f:vw U3 (f (61,ax,bx),false)=(x1,false):=(by unfold vw;rw[jo (hp12.trans hp23) hm1,hx1]);have e2t:vw U3 (f (al,a,0),true)=(x2,true):=(by unfold vw;rw[jo hp23 hm2,hx2]);have e2f:vw U3 (f (al,a,0),false)=(x2,false):=(by unfold vw;rw[jo hp23 hm2,hx2]);have e3t:vw U3 (f (al,b,0),true)=(x3,true):=(by unfold vw;rw[hx3]);have e3f:vw U3 (f (al,b,0),false)=(x3,false):=(by unfold vw;rw[hx3]);have YS:f (61,ax,bx)∈U3:=(hp12.trans hp23).mem hm1;have YR:f (al,a,0)∈U3:=hp23.mem hm2;have abt:Below n0 w Wc:=hEV.below.trans hCc.below;have abn:VK w Wc:=hEV.keep.trans hCc.vk;have Xo:=hCc.lp;have abl:=hCc.cand;have HEE:=aj (And.intro e1f (And.intro e2t (And.intro e2f (And.intro e3t e3f))));clear F0 F1 F2 F3 F4 hC hCa hCb hCc hC0 iQ kY hUC hEV bA bB e1f e2t e2f e3t e3f hS0 A1 z20 z21 z22 yb8 yb9 yb10
       go_wp2_with fail
       obtain⟨V8,Xk⟩:∃V',Wc.drew=V':=⟨_,rfl⟩;have Ir:Wc.grownBy V8 none:=(by rw[<-Xk];exact⟨rfl,rfl,rfl,ad5 _,λ_ _ _=>rfl⟩);refine ah0 (S:=λW'=>VK V8 W') rfl ?_;have hS0:VK V8 V8:=VK.refl _;simp only[ae2,ae1,ae8,Nat.reduceAdd,ae0,ad9,ae4,ae7,ae6];change wpAnyH prog .any _ _ _ _ _ _ Wc.drew;rw[Xk];clear Xk;have vb88:=aI (VK.grown Ir) wb8;have vb98:=aI (VK.grown Ir) wb9;have vb108:=aI (VK.grown Ir) wb10;have acA:=Ir.size;refine tH 0 (.pointer (some ⟨lb,0,none⟩)) (λw' hS=>?_) hS0 ?_
       ·go_simp
       simp only[aC];refine tH 1 (.agg #[.int .i64 x1,.bool false]) (λw' hS=>?_) hS0 ?_
       ·have q:=aI hS vb88;have q0:=(cell_of q 0);have q1:=(cell_of q 1)
        go_simp
       simp only[aC];refine tH 2 (.agg #[.int .i64 x2,.bool true]) (λw' hS=>?_) hS0 ?_
       ·have q:=aI hS vb98;have q0:=(cell_of q 0);have q1:=(cell_of q 1)
        go_simp
       simp only[aC];refine tH 3 (.agg #[.int .i64 x3,.bool true]) (λw' hS=>?_) hS0 ?_
       ·have q:=aI hS vb108;have q0:=(cell_of q 0);have q1:=(cell_of q 1)
        go_simp
       simp only[aC];refine oH 4 (λK hK=>?_);go_simp;refine(fJ x3 true V8).mono ?_;rintro e n8 ⟨rfl,hn8⟩;replace hS0:=hS0.trans (VK.grown hn8);refine hK.out _ _ hS0 ?_;clear hK K;have acv:=hn8.size;have Uy:=nK n8 (x1,false) (x2,true) (x3,false);have YU:[(f (61,ax,bx),false),(f (al,a,0),true),(f (al,b,0),false)].map (vw U3)=[(x1,false),(x2,true),(x3,false)]:=(by obtain⟨q1,q2,q3,q4,q5⟩:=ah HEE;simp only[ap8,List.map_nil,q1,q2,q3,q4,q5]);rw[<-YU]at Uy;simp only at Uy;have WX:n8.grownBy (n8.alloc (.cells #[.int .i64 x1,.bool false,.int .i64 x2,.bool true,.int .i64 x3,.bool false] 207)) none:=ad4 _ _ none;refine oH 5 (λK hK=>?_);go_simp;replace hS0:=hS0.trans (VK.grown WX);refine hK.out _ _ hS0 ?_;clear hK K;have Zl:=dA X n0 _ lb BU BS f dom U3 ak M _ [(f (61,ax,bx),false),(f (al,a,0),true),(f (al,b,0),false)] (((Zx.grow Ir).grow hn8).grow WX) (λq e=>by have:=hX q e;simp;omega) Xo Uy (by simp) (by simp) (by
        intro l hl;simp only[ah8,ak8,ap2]at hl;rcases hl with rfl|rfl|rfl
        ·exact YS
        ·exact YR
        ·exact hm3) (by simp;omega) (by rw[Xo.len];omega)
       refine oH 6 (λK hK=>?_);go_simp;refine(Zl).mono ?_;rintro e d8 ⟨⟨z8,rfl⟩,VZ,Ag,vG,hB8,hK8⟩;refine hK.out _ _ (hS0.trans hK8) (ag5 (by kernel_rfl) ?_ _);clear hK K;have QJ:VK Wc d8:=(VK.grown Ir).trans (hS0.trans hK8);have Z4:Below n0 Wc d8:=(((But.aA Ir).below (by omega) (λk _ e=>by cases e)).trans (((But.aA hn8).below (by omega) (λk _ e=>by cases e)).trans ((But.aA WX).below (by omega) (λk _ e=>by cases e)))).trans hB8;have acy:=Z4.size;replace wb8:=aI QJ wb8;replace wb9:=aI QJ wb9;replace wb10:=aI QJ wb10;clear hS0 Zl Uy Zx Xo
       go_wp2_with fail
       obtain⟨V9,Xj⟩:∃V',d8.drew=V':=⟨_,rfl⟩;have Iq:d8.grownBy V9 none:=(by rw[<-Xj];exact⟨rfl,rfl,rfl,ad5 _,λ_ _ _=>rfl⟩);refine ah0 (S:=λW'=>VK V9 W') rfl ?_;have hS0:VK V9 V9:=VK.refl _;simp only[ae2,ae1,ae8,Nat.reduceAdd,ae0,ad9,ae4,ae7,ae6];change wpAnyH prog .any _ _ _ _ _ _ d8.drew;rw[Xj];clear Xj;have vb89:=aI (VK.grown Iq) wb8;have vb99:=aI (VK.grown Iq) wb9;have vb109:=aI (VK.grown Iq) wb10;have acz:=Iq.size;refine tH 0 (.pointer (some ⟨lb,0,none⟩)) (λw' hS=>?_) hS0 ?_
       ·go_simp
       simp only[aC];refine tH 1 (.agg #[.int .i64 x1,.bool false]) (λw' hS=>?_) hS0 ?_
       ·have q:=aI hS vb89;have q0:=(cell_of q 0);have q1:=(cell_of q 1)
        go_simp
       simp only[aC];refine tH 2 (.agg #[.int .i64 x2,.bool true]) (λw' hS=>?_) hS0 ?_
       ·have q:=aI hS vb99;have q0:=(cell_of q 0);have q1:=(cell_of q 1)
        go_simp
       simp only[aC];refine tH 4 (.agg #[.int .i64 x3,.bool true]) (λw' hS=>?_) hS0 ?_
       ·have q:=aI hS vb109;have q0:=(cell_of q 0);have q1:=(cell_of q 1)
        go_simp
       simp only[aC];refine oH 3 (λK hK=>?_);go_simp;refine(fJ x2 true V9).mono ?_;rintro e n9 ⟨rfl,hn9⟩;replace hS0:=hS0.trans (VK.grown hn9);refine hK.out _ _ hS0 ?_;clear hK K;have acu:=hn9.size;have Ux:=nK n9 (x1,false) (x2,false) (x3,true);have YT:[(f (61,ax,bx),false),(f (al,a,0),false),(f (al,b,0),true)].map (vw U3)=[(x1,false),(x2,false),(x3,true)]:=(by obtain⟨q1,q2,q3,q4,q5⟩:=ah HEE;simp only[ap8,List.map_nil,q1,q2,q3,q4,q5]);rw[<-YT]at Ux;simp only at Ux;have WW:n9.grownBy (n9.alloc (.cells #[.int .i64 x1,.bool false,.int .i64 x2,.bool false,.int .i64 x3,.bool true] 207)) none:=ad4 _ _ none;refine oH 5 (λK hK=>?_);go_simp;replace hS0:=hS0.trans (VK.grown WW);refine hK.out _ _ hS0 ?_;clear hK K;have Zk:=dA X n0 _ lb BU BS f dom U3 VZ (M++[[(f (61,ax,bx),false),(f (al,a,0),true),(f (al,b,0),false)]]) _ [(f (61,ax,bx),false),(f (al,a,0),false),(f (al,b,0),true)] (((Ag.grow Iq).grow hn9).grow WW) (λq e=>by have:=hX q e;simp;omega) vG Ux (by simp) (by simp) (by
        intro l hl;simp only[ah8,ak8,ap2]at hl;rcases hl with rfl|rfl|rfl
        ·exact YS
        ·exact YR
        ·exact hm3) (by simp;omega) (by rw[vG.len];simp;omega)
       refine oH 6 (λK hK=>?_);go_simp;refine(Zk).mono ?_;rintro e d9 ⟨⟨z9,rfl⟩,x9,FW,Dj,hB9,hK9⟩;refine hK.out _ _ (hS0.trans hK9) (ag5 (by kernel_rfl) ?_ _);clear hK K;have ZF:VK d8 d9:=(VK.grown Iq).trans (hS0.trans hK9);have ZY:Below n0 d8 d9:=(((But.aA Iq).below (by omega) (λk _ e=>by cases e)).trans (((But.aA hn9).below (by omega) (λk _ e=>by cases e)).trans ((But.aA WW).below (by omega) (λk _ e=>by cases e)))).trans hB9;have acw:=ZY.size;rw[ak2]at Dj;have hEF:=ah cO d9 ⟨⟨U3,x9,FW,Dj,abl⟩,(abt.trans Z4).trans ZY,(abn.trans QJ).trans ZF,by omega⟩;have b59:=aI ZF (aI QJ bAc);have HEF:=aj hEF;have B59:=aj b59;clear hEF b59 hS0 Zk Ux Ag vG FW Dj
       go_wp2_with fail
       exact⟨⟨b+1,hlb,by go_num,ah HEF,ah B59⟩,by simp[intOf];omega⟩
      have st5:Hid (∀k n W l0 l1 l2 t0 t1 t2 b0 b1 b2,cn l0+cn l1+cn l2=k->k+3<=n->xQ V n0 lb BU BS f dom X aN ak M U3 W->ZL V W l0 t0 b0->ZL V W l1 t1 b1->ZL V W l2 t2 b2->ZD l0 l1 b0 b1->ZD l0 l2 b0 b2->ZD l1 l2 b1 b2->wpAnyH prog .any ops Q1 (λW'=>VK V W') n (lst true true true true true l0 l1 l2) (frm t0 t1 t2 (.agg #[.int .u8 61,.int .i64 ax,.int .i64 bx]) (.agg #[.int .i64 x1,.bool true]) (.agg #[.int .i64 x1,.bool false]) (.agg #[.int .i64 x2,.bool true]) (.agg #[.int .i64 x3,.bool true])) W):=by
       intro k
       induction k using Nat.strongRecOn with
       |ind k ih=>
       intro n W l0 l1 l2 t0 t1 t2 b0 b1 b2 hk hn hC z0 z1 z2 d0 d1 d2;obtain⟨m,rfl⟩:∃m,n=m+1:=⟨n-1,by omega⟩;have A0:l0=false->qU prog .any ops Q1 (λW'=>VK V W') m (lst true true true true true l0 l1 l2) 20 (frm t0 t1 t2 (.agg #[.int .u8 61,.int .i64 ax,.int .i64 bx]) (.agg #[.int .i64 x1,.bool true]) (.agg #[.int .i64 x1,.bool false]) (.agg #[.int .i64 x2,.bool true]) (.agg #[.int .i64 x3,.bool true])) W:=by
        intro e;subst e;subst hops iy ig;dsimp only;refine oO (λK hK=>?_);have hC2:=hC.grow hnV (ad4 W (.cells #[.int .i64 0,.bool false] 207) none);go_simp;refine hK.out _ _ ⟨hC2.vk,?_⟩;clear hK K;have hkk:cn true+cn l1+cn l2+1=k:=(by simp[cn]at hk ⊢;omega);exact ih _ (by omega) m _ true l1 l2 (.pointer (some ⟨W.heap.size,0,none⟩)) t1 t2 W.heap.size b1 b2 rfl (by omega) hC2 (ZL.new hC.size) (z1.al _) (z2.al _) z1.dn z2.dn d2
       have A1:l1=false->qU prog .any ops Q1 (λW'=>VK V W') m (lst true true true true true l0 l1 l2) 21 (frm t0 t1 t2 (.agg #[.int .u8 61,.int .i64 ax,.int .i64 bx]) (.agg #[.int .i64 x1,.bool true]) (.agg #[.int .i64 x1,.bool false]) (.agg #[.int .i64 x2,.bool true]) (.agg #[.int .i64 x3,.bool true])) W:=by
        intro e;subst e;subst hops iy ig;dsimp only;refine oO (λK hK=>?_);have hC2:=hC.grow hnV (ad4 W (.cells #[.int .i64 0,.bool false] 207) none);go_simp;refine hK.out _ _ ⟨hC2.vk,?_⟩;clear hK K;have hkk:cn l0+cn true+cn l2+1=k:=(by simp[cn]at hk ⊢;omega);exact ih _ (by omega) m _ l0 true l2 t0 (.pointer (some ⟨W.heap.size,0,none⟩)) t2 b0 W.heap.size b2 rfl (by omega) hC2 (z0.al _) (ZL.new hC.size) (z2.al _) z0.nd d1 z2.dn
       have A2:l2=false->qU prog .any ops Q1 (λW'=>VK V W') m (lst true true true true true l0 l1 l2) 22 (frm t0 t1 t2 (.agg #[.int .u8 61,.int .i64 ax,.int .i64 bx]) (.agg #[.int .i64 x1,.bool true]) (.agg #[.int .i64 x1,.bool false]) (.agg #[.int .i64 x2,.bool true]) (.agg #[.int .i64 x3,.bool true])) W:=by
        intro e;subst e;subst hops iy ig;dsimp only;refine oO (λK hK=>?_);have hC2:=hC.grow hnV (ad4 W (.cells #[.int .i64 0,.bool false] 207) none);go_simp;refine hK.out _ _ ⟨hC2.vk,?_⟩;clear hK K;have hkk:cn l0+cn l1+cn true+1=k:=(by simp[cn]at hk ⊢;omega);exact ih _ (by omega) m _ l0 l1 true t0 t1 (.pointer (some ⟨W.heap.size,0,none⟩)) b0 b1 W.heap.size rfl (by omega) hC2 (z0.al _) (z1.al _) (ZL.new hC.size) d0 z0.nd z1.nd
       subst hops iy ig;cases l0<;>cases l1<;>cases l2
       ·exact a3 20 21 22 (A0 rfl) (A1 rfl) (A2 rfl)
       ·exact a2 20 21 (A0 rfl) (A1 rfl)
       ·exact a2 20 22 (A0 rfl) (A2 rfl)
       ·exact a1 20 (A0 rfl)
       ·exact a2 21 22 (A1 rfl) (A2 rfl)
       ·exact a1 21 (A1 rfl)
       ·exact a1 22 (A2 rfl)
       ·obtain⟨r,rfl⟩:∃r,m=r+2:=⟨m-2,by omega⟩;obtain⟨rfl,y0⟩:=z0 rfl;obtain⟨rfl,y1⟩:=z1 rfl;obtain⟨rfl,y2⟩:=z2 rfl;exact ah stF r W b0 b1 b2 hC y0 y1 y2 (d0 rfl rfl) (d1 rfl rfl) (d2 rfl rfl)
      have st4:Hid (∀k n W l0 l1 l2 t0 t1 t2 b0 b1 b2,cn l0+cn l1+cn l2=k->k+4<=n->xQ V n0 lb BU BS f dom X aN ak M U2 W->ZL V W l0 t0 b0->ZL V W l1 t1 b1->ZL V W l2 t2 b2->ZD l0 l1 b0 b1->ZD l0 l2 b0 b2->ZD l1 l2 b1 b2->wpAnyH prog .any ops Q1 (λW'=>VK V W') n (lst true true true true false l0 l1 l2) (frm t0 t1 t2 (.agg #[.int .u8 61,.int .i64 ax,.int .i64 bx]) (.agg #[.int .i64 x1,.bool true]) (.agg #[.int .i64 x1,.bool false]) (.agg #[.int .i64 x2,.bool true]) u51) W):=by
       intro k
       induction k using Nat.strongRecOn with
       |ind k ih=>
       intro n W l0 l1 l2 t0 t1 t2 b0 b1 b2 hk hn hC z0 z1 z2 d0 d1 d2;obtain⟨m,rfl⟩:∃m,n=m+1:=⟨n-1,by omega⟩;have C:qU prog .any ops Q1 (λW'=>VK V W') m (lst true true true true false l0 l1 l2) 19 (frm t0 t1 t2 (.agg #[.int .u8 61,.int .i64 ax,.int .i64 bx]) (.agg #[.int .i64 x1,.bool true]) (.agg #[.int .i64 x1,.bool false]) (.agg #[.int .i64 x2,.bool true]) u51) W:=by
        subst hops iy ig;dsimp only;refine oO (λK hK=>?_);go_simp;refine(ah F4 W hC).mono ?_;rintro e W2 ⟨rfl,hC2,hk2⟩;refine hK.out _ _ ⟨hC2.vk,?_⟩;clear hK K;exact ah st5 k m W2 l0 l1 l2 t0 t1 t2 b0 b1 b2 hk (by omega) hC2 (z0.vk hk2) (z1.vk hk2) (z2.vk hk2) d0 d1 d2
       have A0:l0=false->qU prog .any ops Q1 (λW'=>VK V W') m (lst true true true true false l0 l1 l2) 20 (frm t0 t1 t2 (.agg #[.int .u8 61,.int .i64 ax,.int .i64 bx]) (.agg #[.int .i64 x1,.bool true]) (.agg #[.int .i64 x1,.bool false]) (.agg #[.int .i64 x2,.bool true]) u51) W:=by
        intro e;subst e;subst hops iy ig;dsimp only;refine oO (λK hK=>?_);have hC2:=hC.grow hnV (ad4 W (.cells #[.int .i64 0,.bool false] 207) none);go_simp;refine hK.out _ _ ⟨hC2.vk,?_⟩;clear hK K;have hkk:cn true+cn l1+cn l2+1=k:=(by simp[cn]at hk ⊢;omega);exact ih _ (by omega) m _ true l1 l2 (.pointer (some ⟨W.heap.size,0,none⟩)) t1 t2 W.heap.size b1 b2 rfl (by omega) hC2 (ZL.new hC.size) (z1.al _) (z2.al _) z1.dn z2.dn d2
       have A1:l1=false->qU prog .any ops Q1 (λW'=>VK V W') m (lst true true true true false l0 l1 l2) 21 (frm t0 t1 t2 (.agg #[.int .u8 61,.int .i64 ax,.int .i64 bx]) (.agg #[.int .i64 x1,.bool true]) (.agg #[.int .i64 x1,.bool false]) (.agg #[.int .i64 x2,.bool true]) u51) W:=by
        intro e;subst e;subst hops iy ig;dsimp only;refine oO (λK hK=>?_);have hC2:=hC.grow hnV (ad4 W (.cells #[.int .i64 0,.bool false] 207) none);go_simp;refine hK.out _ _ ⟨hC2.vk,?_⟩;clear hK K;have hkk:cn l0+cn true+cn l2+1=k:=(by simp[cn]at hk ⊢;omega);exact ih _ (by omega) m _ l0 true l2 t0 (.pointer (some ⟨W.heap.size,0,none⟩)) t2 b0 W.heap.size b2 rfl (by omega) hC2 (z0.al _) (ZL.new hC.size) (z2.al _) z0.nd d1 z2.dn
       have A2:l2=false->qU prog .any ops Q1 (λW'=>VK V W') m (lst true true true true false l0 l1 l2) 22 (frm t0 t1 t2 (.agg #[.int .u8 61,.int .i64 ax,.int .i64 bx]) (.agg #[.int .i64 x1,.bool true]) (.agg #[.int .i64 x1,.bool false]) (.agg #[.int .i64 x2,.bool true]) u51) W:=by
        intro e;subst e;subst hops iy ig;dsimp only;refine oO (λK hK=>?_);have hC2:=hC.grow hnV (ad4 W (.cells #[.int .i64 0,.bool false] 207) none);go_simp;refine hK.out _ _ ⟨hC2.vk,?_⟩;clear hK K;have hkk:cn l0+cn l1+cn true+1=k:=(by simp[cn]at hk ⊢;omega);exact ih _ (by omega) m _ l0 l1 true t0 t1 (.pointer (some ⟨W.heap.size,0,none⟩)) b0 b1 W.heap.size rfl (by omega) hC2 (z0.al _) (z1.al _) (ZL.new hC.size) d0 z0.nd z1.nd
       subst hops iy ig;cases l0<;>cases l1<;>cases l2
       ·exact a4 19 20 21 22 C (A0 rfl) (A1 rfl) (A2 rfl)
       ·exact a3 19 20 21 C (A0 rfl) (A1 rfl)
       ·exact a3 19 20 22 C (A0 rfl) (A2 rfl)
       ·exact a2 19 20 C (A0 rfl)
       ·exact a3 19 21 22 C (A1 rfl) (A2 rfl)
       ·exact a2 19 21 C (A1 rfl)
       ·exact a2 19 22 C (A2 rfl)
       ·exact a1 19 C
      have st3:Hid (∀k n W l0 l1 l2 t0 t1 t2 b0 b1 b2,cn l0+cn l1+cn l2=k->k+5<=n->xQ V n0 lb BU BS f dom X aN ak M U1 W->ZL V W l0 t0 b0->ZL V W l1 t1 b1->ZL V W l2 t2 b2->ZD l0 l1 b0 b1->ZD l0 l2 b0 b2->ZD l1 l2 b1 b2->wpAnyH prog .any ops Q1 (λW'=>VK V W') n (lst true true true false false l0 l1 l2) (frm t0 t1 t2 (.agg #[.int .u8 61,.int .i64 ax,.int .i64 bx]) (.agg #[.int .i64 x1,.bool true]) (.agg #[.int .i64 x1,.bool false]) u45 u51) W):=by
       intro k
       induction k using Nat.strongRecOn with
       |ind k ih=>
       intro n W l0 l1 l2 t0 t1 t2 b0 b1 b2 hk hn hC z0 z1 z2 d0 d1 d2;obtain⟨m,rfl⟩:∃m,n=m+1:=⟨n-1,by omega⟩;have C:qU prog .any ops Q1 (λW'=>VK V W') m (lst true true true false false l0 l1 l2) 13 (frm t0 t1 t2 (.agg #[.int .u8 61,.int .i64 ax,.int .i64 bx]) (.agg #[.int .i64 x1,.bool true]) (.agg #[.int .i64 x1,.bool false]) u45 u51) W:=by
        subst hops iy ig;dsimp only;refine oO (λK hK=>?_);go_simp;refine(ah F3 W hC).mono ?_;rintro e W2 ⟨rfl,hC2,hk2⟩;refine hK.out _ _ ⟨hC2.vk,?_⟩;clear hK K;exact ah st4 k m W2 l0 l1 l2 t0 t1 t2 b0 b1 b2 hk (by omega) hC2 (z0.vk hk2) (z1.vk hk2) (z2.vk hk2) d0 d1 d2
       have A0:l0=false->qU prog .any ops Q1 (λW'=>VK V W') m (lst true true true false false l0 l1 l2) 20 (frm t0 t1 t2 (.agg #[.int .u8 61,.int .i64 ax,.int .i64 bx]) (.agg #[.int .i64 x1,.bool true]) (.agg #[.int .i64 x1,.bool false]) u45 u51) W:=by
        intro e;subst e;subst hops iy ig;dsimp only;refine oO (λK hK=>?_);have hC2:=hC.grow hnV (ad4 W (.cells #[.int .i64 0,.bool false] 207) none);go_simp;refine hK.out _ _ ⟨hC2.vk,?_⟩;clear hK K;have hkk:cn true+cn l1+cn l2+1=k:=(by simp[cn]at hk ⊢;omega);exact ih _ (by omega) m _ true l1 l2 (.pointer (some ⟨W.heap.size,0,none⟩)) t1 t2 W.heap.size b1 b2 rfl (by omega) hC2 (ZL.new hC.size) (z1.al _) (z2.al _) z1.dn z2.dn d2
       have A1:l1=false->qU prog .any ops Q1 (λW'=>VK V W') m (lst true true true false false l0 l1 l2) 21 (frm t0 t1 t2 (.agg #[.int .u8 61,.int .i64 ax,.int .i64 bx]) (.agg #[.int .i64 x1,.bool true]) (.agg #[.int .i64 x1,.bool false]) u45 u51) W:=by
        intro e;subst e;subst hops iy ig;dsimp only;refine oO (λK hK=>?_);have hC2:=hC.grow hnV (ad4 W (.cells #[.int .i64 0,.bool false] 207) none);go_simp;refine hK.out _ _ ⟨hC2.vk,?_⟩;clear hK K;have hkk:cn l0+cn true+cn l2+1=k:=(by simp[cn]at hk ⊢;omega);exact ih _ (by omega) m _ l0 true l2 t0 (.pointer (some ⟨W.heap.size,0,none⟩)) t2 b0 W.heap.size b2 rfl (by omega) hC2 (z0.al _) (ZL.new hC.size) (z2.al _) z0.nd d1 z2.dn
       have A2:l2=false->qU prog .any ops Q1 (λW'=>VK V W') m (lst true true true false false l0 l1 l2) 22 (frm t0 t1 t2 (.agg #[.int .u8 61,.int .i64 ax,.int .i64 bx]) (.agg #[.int .i64 x1,.bool true]) (.agg #[.int .i64 x1,.bool false]) u45 u51) W:=by
        intro e;subst e;subst hops iy ig;dsimp only;refine oO (λK hK=>?_);have hC2:=hC.grow hnV (ad4 W (.cells #[.int .i64 0,.bool false] 207) none);go_simp;refine hK.out _ _ ⟨hC2.vk,?_⟩;clear hK K;have hkk:cn l0+cn l1+cn true+1=k:=(by simp[cn]at hk ⊢;omega);exact ih _ (by omega) m _ l0 l1 true t0 t1 (.pointer (some ⟨W.heap.size,0,none⟩)) b0 b1 W.heap.size rfl (by omega) hC2 (z0.al _) (z1.al _) (ZL.new hC.size) d0 z0.nd z1.nd
       subst hops iy ig;cases l0<;>cases l1<;>cases l2
       ·exact a4 13 20 21 22 C (A0 rfl) (A1 rfl) (A2 rfl)
       ·exact a3 13 20 21 C (A0 rfl) (A1 rfl)
       ·exact a3 13 20 22 C (A0 rfl) (A2 rfl)
       ·exact a2 13 20 C (A0 rfl)
       ·exact a3 13 21 22 C (A1 rfl) (A2 rfl)
       ·exact a2 13 21 C (A1 rfl)
       ·exact a2 13 22 C (A2 rfl)
       ·exact a1 13 C
      have st2:Hid (∀k n W l0 l1 l2 t0 t1 t2 b0 b1 b2,cn l0+cn l1+cn l2=k->k+6<=n->xQ V n0 lb BU BS f dom X aN ak M U1 W->ZL V W l0 t0 b0->ZL V W l1 t1 b1->ZL V W l2 t2 b2->ZD l0 l1 b0 b1->ZD l0 l2 b0 b2->ZD l1 l2 b1 b2->wpAnyH prog .any ops Q1 (λW'=>VK V W') n (lst true true false false false l0 l1 l2) (frm t0 t1 t2 (.agg #[.int .u8 61,.int .i64 ax,.int .i64 bx]) (.agg #[.int .i64 x1,.bool true]) u39 u45 u51) W):=by
       intro k
       induction k using Nat.strongRecOn with
       |ind k ih=>
       intro n W l0 l1 l2 t0 t1 t2 b0 b1 b2 hk hn hC z0 z1 z2 d0 d1 d2;obtain⟨m,rfl⟩:∃m,n=m+1:=⟨n-1,by omega⟩;have C:qU prog .any ops Q1 (λW'=>VK V W') m (lst true true false false false l0 l1 l2) 7 (frm t0 t1 t2 (.agg #[.int .u8 61,.int .i64 ax,.int .i64 bx]) (.agg #[.int .i64 x1,.bool true]) u39 u45 u51) W:=by
        subst hops iy ig;dsimp only;refine oO (λK hK=>?_);go_simp;refine(ah F2 W hC).mono ?_;rintro e W2 ⟨rfl,hC2,hk2⟩;refine hK.out _ _ ⟨hC2.vk,?_⟩;clear hK K;exact ah st3 k m W2 l0 l1 l2 t0 t1 t2 b0 b1 b2 hk (by omega) hC2 (z0.vk hk2) (z1.vk hk2) (z2.vk hk2) d0 d1 d2
       have A0:l0=false->qU prog .any ops Q1 (λW'=>VK V W') m (lst true true false false false l0 l1 l2) 20 (frm t0 t1 t2 (.agg #[.int .u8 61,.int .i64 ax,.int .i64 bx]) (.agg #[.int .i64 x1,.bool true]) u39 u45 u51) W:=by
        intro e;subst e;subst hops iy ig;dsimp only;refine oO (λK hK=>?_);have hC2:=hC.grow hnV (ad4 W (.cells #[.int .i64 0,.bool false] 207) none);go_simp;refine hK.out _ _ ⟨hC2.vk,?_⟩;clear hK K;have hkk:cn true+cn l1+cn l2+1=k:=(by simp[cn]at hk ⊢;omega);exact ih _ (by omega) m _ true l1 l2 (.pointer (some ⟨W.heap.size,0,none⟩)) t1 t2 W.heap.size b1 b2 rfl (by omega) hC2 (ZL.new hC.size) (z1.al _) (z2.al _) z1.dn z2.dn d2
       have A1:l1=false->qU prog .any ops Q1 (λW'=>VK V W') m (lst true true false false false l0 l1 l2) 21 (frm t0 t1 t2 (.agg #[.int .u8 61,.int .i64 ax,.int .i64 bx]) (.agg #[.int .i64 x1,.bool true]) u39 u45 u51) W:=by
        intro e;subst e;subst hops iy ig;dsimp only;refine oO (λK hK=>?_);have hC2:=hC.grow hnV (ad4 W (.cells #[.int .i64 0,.bool false] 207) none);go_simp;refine hK.out _ _ ⟨hC2.vk,?_⟩;clear hK K;have hkk:cn l0+cn true+cn l2+1=k:=(by simp[cn]at hk ⊢;omega);exact ih _ (by omega) m _ l0 true l2 t0 (.pointer (some ⟨W.heap.size,0,none⟩)) t2 b0 W.heap.size b2 rfl (by omega) hC2 (z0.al _) (ZL.new hC.size) (z2.al _) z0.nd d1 z2.dn
       have A2:l2=false->qU prog .any ops Q1 (λW'=>VK V W') m (lst true true false false false l0 l1 l2) 22 (frm t0 t1 t2 (.agg #[.int .u8 61,.int .i64 ax,.int .i64 bx]) (.agg #[.int .i64 x1,.bool true]) u39 u45 u51) W:=by
        intro e;subst e;subst hops iy ig;dsimp only;refine oO (λK hK=>?_);have hC2:=hC.grow hnV (ad4 W (.cells #[.int .i64 0,.bool false] 207) none);go_simp;refine hK.out _ _ ⟨hC2.vk,?_⟩;clear hK K;have hkk:cn l0+cn l1+cn true+1=k:=(by simp[cn]at hk ⊢;omega);exact ih _ (by omega) m _ l0 l1 true t0 t1 (.pointer (some ⟨W.heap.size,0,none⟩)) b0 b1 W.heap.size rfl (by omega) hC2 (z0.al _) (z1.al _) (ZL.new hC.size) d0 z0.nd z1.nd
       subst hops iy ig;cases l0<;>cases l1<;>cases l2
       ·exact a4 7 20 21 22 C (A0 rfl) (A1 rfl) (A2 rfl)
       ·exact a3 7 20 21 C (A0 rfl) (A1 rfl)
       ·exact a3 7 20 22 C (A0 rfl) (A2 rfl)
       ·exact a2 7 20 C (A0 rfl)
       ·exact a3 7 21 22 C (A1 rfl) (A2 rfl)
       ·exact a2 7 21 C (A1 rfl)
       ·exact a2 7 22 C (A2 rfl)
       ·exact a1 7 C
      have st1:Hid (∀k n W l0 l1 l2 t0 t1 t2 b0 b1 b2,cn l0+cn l1+cn l2=k->k+7<=n->xQ V n0 lb BU BS f dom X aN ak M Us W->ZL V W l0 t0 b0->ZL V W l1 t1 b1->ZL V W l2 t2 b2->ZD l0 l1 b0 b1->ZD l0 l2 b0 b2->ZD l1 l2 b1 b2->wpAnyH prog .any ops Q1 (λW'=>VK V W') n (lst true false false false false l0 l1 l2) (frm t0 t1 t2 (.agg #[.int .u8 61,.int .i64 ax,.int .i64 bx]) u38 u39 u45 u51) W):=by
       intro k
       induction k using Nat.strongRecOn with
       |ind k ih=>
       intro n W l0 l1 l2 t0 t1 t2 b0 b1 b2 hk hn hC z0 z1 z2 d0 d1 d2;obtain⟨m,rfl⟩:∃m,n=m+1:=⟨n-1,by omega⟩;have C:qU prog .any ops Q1 (λW'=>VK V W') m (lst true false false false false l0 l1 l2) 6 (frm t0 t1 t2 (.agg #[.int .u8 61,.int .i64 ax,.int .i64 bx]) u38 u39 u45 u51) W:=by
        subst hops iy ig;dsimp only;refine oO (λK hK=>?_);go_simp;refine(ah F1 W hC).mono ?_;rintro e W2 ⟨rfl,hC2,hk2⟩;refine hK.out _ _ ⟨hC2.vk,?_⟩;clear hK K;exact ah st2 k m W2 l0 l1 l2 t0 t1 t2 b0 b1 b2 hk (by omega) hC2 (z0.vk hk2) (z1.vk hk2) (z2.vk hk2) d0 d1 d2
       have A0:l0=false->qU prog .any ops Q1 (λW'=>VK V W') m (lst true false false false false l0 l1 l2) 20 (frm t0 t1 t2 (.agg #[.int .u8 61,.int .i64 ax,.int .i64 bx]) u38 u39 u45 u51) W:=by
        intro e;subst e;subst hops iy ig;dsimp only;refine oO (λK hK=>?_);have hC2:=hC.grow hnV (ad4 W (.cells #[.int .i64 0,.bool false] 207) none);go_simp;refine hK.out _ _ ⟨hC2.vk,?_⟩;clear hK K;have hkk:cn true+cn l1+cn l2+1=k:=(by simp[cn]at hk ⊢;omega);exact ih _ (by omega) m _ true l1 l2 (.pointer (some ⟨W.heap.size,0,none⟩)) t1 t2 W.heap.size b1 b2 rfl (by omega) hC2 (ZL.new hC.size) (z1.al _) (z2.al _) z1.dn z2.dn d2
       have A1:l1=false->qU prog .any ops Q1 (λW'=>VK V W') m (lst true false false false false l0 l1 l2) 21 (frm t0 t1 t2 (.agg #[.int .u8 61,.int .i64 ax,.int .i64 bx]) u38 u39 u45 u51) W:=by
        intro e;subst e;subst hops iy ig;dsimp only;refine oO (λK hK=>?_);have hC2:=hC.grow hnV (ad4 W (.cells #[.int .i64 0,.bool false] 207) none);go_simp;refine hK.out _ _ ⟨hC2.vk,?_⟩;clear hK K;have hkk:cn l0+cn true+cn l2+1=k:=(by simp[cn]at hk ⊢;omega);exact ih _ (by omega) m _ l0 true l2 t0 (.pointer (some ⟨W.heap.size,0,none⟩)) t2 b0 W.heap.size b2 rfl (by omega) hC2 (z0.al _) (ZL.new hC.size) (z2.al _) z0.nd d1 z2.dn
       have A2:l2=false->qU prog .any ops Q1 (λW'=>VK V W') m (lst true false false false false l0 l1 l2) 22 (frm t0 t1 t2 (.agg #[.int .u8 61,.int .i64 ax,.int .i64 bx]) u38 u39 u45 u51) W:=by
        intro e;subst e;subst hops iy ig;dsimp only;refine oO (λK hK=>?_);have hC2:=hC.grow hnV (ad4 W (.cells #[.int .i64 0,.bool false] 207) none);go_simp;refine hK.out _ _ ⟨hC2.vk,?_⟩;clear hK K;have hkk:cn l0+cn l1+cn true+1=k:=(by simp[cn]at hk ⊢;omega);exact ih _ (by omega) m _ l0 l1 true t0 t1 (.pointer (some ⟨W.heap.size,0,none⟩)) b0 b1 W.heap.size rfl (by omega) hC2 (z0.al _) (z1.al _) (ZL.new hC.size) d0 z0.nd z1.nd
       subst hops iy ig;cases l0<;>cases l1<;>cases l2
       ·exact a4 6 20 21 22 C (A0 rfl) (A1 rfl) (A2 rfl)
       ·exact a3 6 20 21 C (A0 rfl) (A1 rfl)
       ·exact a3 6 20 22 C (A0 rfl) (A2 rfl)
       ·exact a2 6 20 C (A0 rfl)
       ·exact a3 6 21 22 C (A1 rfl) (A2 rfl)
       ·exact a2 6 21 C (A1 rfl)
       ·exact a2 6 22 C (A2 rfl)
       ·exact a1 6 C
      have st0:Hid (∀k n W l0 l1 l2 t0 t1 t2 b0 b1 b2,cn l0+cn l1+cn l2=k->k+8<=n->xQ V n0 lb BU BS f dom X aN ak M Us W->ZL V W l0 t0 b0->ZL V W l1 t1 b1->ZL V W l2 t2 b2->ZD l0 l1 b0 b1->ZD l0 l2 b0 b2->ZD l1 l2 b1 b2->wpAnyH prog .any ops Q1 (λW'=>VK V W') n (lst false false false false false l0 l1 l2) (frm t0 t1 t2 u37 u38 u39 u45 u51) W):=by
       intro k
       induction k using Nat.strongRecOn with
       |ind k ih=>
       intro n W l0 l1 l2 t0 t1 t2 b0 b1 b2 hk hn hC z0 z1 z2 d0 d1 d2;obtain⟨m,rfl⟩:∃m,n=m+1:=⟨n-1,by omega⟩;have C:qU prog .any ops Q1 (λW'=>VK V W') m (lst false false false false false l0 l1 l2) 5 (frm t0 t1 t2 u37 u38 u39 u45 u51) W:=by
        subst hops iy ig;dsimp only;refine oO (λK hK=>?_);go_simp;refine(ah F0 W hC).mono ?_;rintro e W2 ⟨rfl,hC2,hk2⟩;refine hK.out _ _ ⟨hC2.vk,?_⟩;clear hK K;exact ah st1 k m W2 l0 l1 l2 t0 t1 t2 b0 b1 b2 hk (by omega) hC2 (z0.vk hk2) (z1.vk hk2) (z2.vk hk2) d0 d1 d2
       have A0:l0=false->qU prog .any ops Q1 (λW'=>VK V W') m (lst false false false false false l0 l1 l2) 20 (frm t0 t1 t2 u37 u38 u39 u45 u51) W:=by
        intro e;subst e;subst hops iy ig;dsimp only;refine oO (λK hK=>?_);have hC2:=hC.grow hnV (ad4 W (.cells #[.int .i64 0,.bool false] 207) none);go_simp;refine hK.out _ _ ⟨hC2.vk,?_⟩;clear hK K;have hkk:cn true+cn l1+cn l2+1=k:=(by simp[cn]at hk ⊢;omega);exact ih _ (by omega) m _ true l1 l2 (.pointer (some ⟨W.heap.size,0,none⟩)) t1 t2 W.heap.size b1 b2 rfl (by omega) hC2 (ZL.new hC.size) (z1.al _) (z2.al _) z1.dn z2.dn d2
       have A1:l1=false->qU prog .any ops Q1 (λW'=>VK V W') m (lst false false false false false l0 l1 l2) 21 (frm t0 t1 t2 u37 u38 u39 u45 u51) W:=by
        intro e;subst e;subst hops iy ig;dsimp only;refine oO (λK hK=>?_);have hC2:=hC.grow hnV (ad4 W (.cells #[.int .i64 0,.bool false] 207) none);go_simp;refine hK.out _ _ ⟨hC2.vk,?_⟩;clear hK K;have hkk:cn l0+cn true+cn l2+1=k:=(by simp[cn]at hk ⊢;omega);exact ih _ (by omega) m _ l0 true l2 t0 (.pointer (some ⟨W.heap.size,0,none⟩)) t2 b0 W.heap.size b2 rfl (by omega) hC2 (z0.al _) (ZL.new hC.size) (z2.al _) z0.nd d1 z2.dn
       have A2:l2=false->qU prog .any ops Q1 (λW'=>VK V W') m (lst false false false false false l0 l1 l2) 22 (frm t0 t1 t2 u37 u38 u39 u45 u51) W:=by
        intro e;subst e;subst hops iy ig;dsimp only;refine oO (λK hK=>?_);have hC2:=hC.grow hnV (ad4 W (.cells #[.int .i64 0,.bool false] 207) none);go_simp;refine hK.out _ _ ⟨hC2.vk,?_⟩;clear hK K;have hkk:cn l0+cn l1+cn true+1=k:=(by simp[cn]at hk ⊢;omega);exact ih _ (by omega) m _ l0 l1 true t0 t1 (.pointer (some ⟨W.heap.size,0,none⟩)) b0 b1 W.heap.size rfl (by omega) hC2 (z0.al _) (z1.al _) (ZL.new hC.size) d0 z0.nd z1.nd
       subst hops iy ig;cases l0<;>cases l1<;>cases l2
       ·exact a4 5 20 21 22 C (A0 rfl) (A1 rfl) (A2 rfl)
       ·exact a3 5 20 21 C (A0 rfl) (A1 rfl)
       ·exact a3 5 20 22 C (A0 rfl) (A2 rfl)
       ·exact a2 5 20 C (A0 rfl)
       ·exact a3 5 21 22 C (A1 rfl) (A2 rfl)
       ·exact a2 5 21 C (A1 rfl)
       ·exact a2 5 22 C (A2 rfl)
       ·exact a1 5 C
      subst hops iy ig;exact ah st0 3 11 V false false false _ _ _ 0 0 0 rfl (by omega) hC0 (λe=>by cases e) (λe=>by cases e) (λe=>by cases e) (λe=>by cases e) (λe=>by cases e) (λe=>by cases e)
     ·rw[af2 hlet,ak9]at cO
      go_wp2_with fail
      exact⟨⟨b+1,hlb,by go_num,ah cO _ (ah HE1),ah B51⟩,by simp[intOf];omega⟩
    ·have hbb:b=a:=(by omega);subst hbb;have hbd2:¬(b:Int)<(b:Int):=(by omega);have HN:=aj (dO (λa=>(List.range a).flatMap λb=>xE f cs a b) b);have HE3:=aj hE;clear hE
     go_wp2_with fail
     refine⟨⟨b+1,hlt,by go_num,?_⟩,by simp[intOf];omega⟩;rw[ah HN,<-ak2];exact ah HE3
  ·have haa:a=cs.length:=(by omega);subst haa;have hbd:¬(cs.length:Int)<(cs.length:Int):=(by omega);have HE3:=aj hE;clear hE
   go_wp2_with fail
   go_end0
   exact⟨⟨_,rfl⟩,ah HE3⟩
end Go.Proofs.YthcppbmkacbbiabGreat
