import Derived.Test.YthcppbmkacbbiabGreatVBG
set_option linter.unusedSimpArgs false
set_option maxHeartbeats 16000000
set_option maxRecDepth 100000
namespace Go.Proofs.YthcppbmkacbbiabGreat
open Go.Proofs.Tryz
open Go.RowKit Go.Maps Go.WideMaps
open Sat (View Rule og dN)
open au (Key put fQ aB bJ)
def H9(f:Key->Key)(cs:Ah)(a b:Nat):List (List dw):=
 if (cs.getD a (0,0)).1=(cs.getD b (0,0)).1 then
  [[(f (dP (cs.getD a (0,0)).2 (cs.getD b (0,0)).2),false),(f ((cs.getD a (0,0)).1,a,0),true),(f ((cs.getD b (0,0)).1,b,0),false)],
   [(f (dP (cs.getD a (0,0)).2 (cs.getD b (0,0)).2),false),(f ((cs.getD a (0,0)).1,a,0),false),(f ((cs.getD b (0,0)).1,b,0),true)]]else []
theorem acg(f:Key->Key)(cs:Ah):prC f cs=(List.range cs.length).flatMap λa=>(List.range a).flatMap λb=>H9 f cs a b:=rfl
theorem OE(f:Key->Key)(cs:Ah)(a b:Nat):(H9 f cs a b).length<=2:=by unfold H9;split<;>simp
structure IE(V:World)(n0 lb BU BS:Nat)(f:Key->Key)(dom:Key->Prop)(X:Nat->Prop)(aY:Ai)(ak:List Rule)(h2:List (List dw))(U:Ai)(W:World):Prop where
 lg:LG n0 W lb BU BS f dom U ak (λk=>X k\/V.heap.size<=k)
 lp:vG U ak h2
 cand:∀q∈U,q∈aY
 vk:VK V W
 below:Below n0 V W
 size:V.heap.size<=W.heap.size
theorem IE.grow{V:World}{n0 lb BU BS:Nat}{f:Key->Key}{dom:Key->Prop}{X:Nat->Prop}{aY:Ai}{ak:List Rule}{h2:List (List dw)}{U:Ai}{W W':World}(h:IE V n0 lb BU BS f dom X aY ak h2 U W)(hn:n0<=V.heap.size)(hg:W.grownBy W' none):IE V n0 lb BU BS f dom X aY ak h2 U W':=
 ⟨h.lg.grow hg,h.lp,h.cand,h.vk.trans (VK.grown hg),h.below.trans ((But.aC hg).below (ap3 hn h.size) (λk _ e=>by cases e)),ap3 h.size hg.size⟩
theorem IE.set{V:World}{n0 lb BU BS:Nat}{f:Key->Key}{dom:Key->Prop}{X:Nat->Prop}{aY:Ai}{ak:List Rule}{h2:List (List dw)}{U:Ai}{W:World}(h:IE V n0 lb BU BS f dom X aY ak h2 U W)(hn:n0<=V.heap.size){b:Nat}{cur:Array Value}{x:Nat×Nat}(hz:W.heap[b]?=some (Obj.cells cur 207 x))(hb:V.heap.size<=b)(u0 u1:Value) :
  IE V n0 lb BU BS f dom X aY ak h2 U ((W.setCell (J b 0) u0).setCell (J b 1) u1):=by
 have hB:But (λk=>k=b) W ((W.setCell (J b 0) u0).setCell (J b 1) u1):=But.setCell (S:=λk=>k=b) (But.setCell (S:=λk=>k=b) (But.refl _ _) (λ_=>rfl) _) (λ_=>rfl) _;refine⟨h.lg.ahY hB (λk e=>⟨Or.inr (by rw[e];exact hb),cur,207,x,by rw[e];exact hz,ane,ane⟩),h.lp,h.cand,?_,?_,ap3 h.size hB.size⟩
 ·intro k cu t xx t1 t2 e;have e3:=h.vk _ _ _ _ t1 t2 e;have hk:=(an0.1 e).1;exact(hB.block k (an0.1 e3).1 O).trans e3
 ·exact h.below.trans (hB.below (ap3 hn h.size) (λk hk e=>O))
def ZB(V W:World)(b:Nat):Prop:=W.heap[b]?=some (Obj.cells #[A 0,.bool false] 207 (0,0))/\V.heap.size<=b
theorem ZB.lt{V W:World}{b:Nat}(h:ZB V W b):b<W.heap.size:=(an0.1 h.1).1
theorem ZB.vk{V W W':World}{b:Nat}(h:ZB V W b)(hk:VK W W'):ZB V W' b:=⟨aZ hk h.1,h.2⟩
theorem ZB.al{V W:World}{b:Nat}(h:ZB V W b)(o:Obj):ZB V (W.alloc o) b:=⟨(ao3 _ _ _ h.lt).trans h.1,h.2⟩
theorem ZB.new{V W:World}(h:V.heap.size<=W.heap.size):ZB V (W.alloc (.cells #[A 0,.bool false] 207)) W.heap.size:=⟨ap5 _ _,h⟩
def ZL(V W:World)(l:Bool)(t:Value)(b:Nat):Prop:=l=true->t=Aa b 0/\ZB V W b
theorem ZL.vk{V W W':World}{l:Bool}{t:Value}{b:Nat}(h:ZL V W l t b)(hk:VK W W'):ZL V W' l t b:=λe=>⟨(h e).1,(h e).2.vk hk⟩
theorem ZL.al{V W:World}{l:Bool}{t:Value}{b:Nat}(h:ZL V W l t b)(o:Obj):ZL V (W.alloc o) l t b:=λe=>⟨(h e).1,(h e).2.al o⟩
theorem ZL.new{V W:World}(h:V.heap.size<=W.heap.size):ZL V (W.alloc (.cells #[A 0,.bool false] 207)) true (Aa W.heap.size 0) W.heap.size:=λ_=>⟨rfl,ZB.new h⟩
def ZD(l l':Bool)(b b':Nat):Prop:=l=true->l'=true->b≠b'
theorem ZL.dn{V W:World}{l:Bool}{t:Value}{b:Nat}(h:ZL V W l t b):ZD true l W.heap.size b:=λ_ e=>by
 have:=(h e).2.lt;omega
theorem ZL.nd{V W:World}{l:Bool}{t:Value}{b:Nat}(h:ZL V W l t b):ZD l true b W.heap.size:=λe _=>by
 have:=(h e).2.lt;omega
def cn(l:Bool):Nat:=if l then 0 else 1
theorem aaW(X:Nat->Prop)(n0:Nat)(w:World)(lb BU BS:Nat)(f:Key->Key)(dom:Key->Prop)(aY:Ai)(L:List (List dw))(GC nt:Nat)(cs:Ah)(hLS:LS n0 lb BU BS f dom X aY L w)(hX:∀k,X k->k<w.heap.size)(h9:aY.length<=900)(BF:SmD f dom nt)(hc:∀a b,a<nt->b<nt->f (61,a,b)∈aY)(Gm:∀c (h:c<cs.length),f (cs[c].1,c,0)∈aY)(Bc:nt<=7)(h4:cs.length<=4)(hn:n0<=w.heap.size)(hL:L.length<=6000)
 (kE:gZ w GC cs)(hG:GC<n0)(hcs:∀x∈cs,(x.1=80\/x.1=81)/\x.2<nt) :
  Calls prog 114 #[Aa lb 0,Ac GC 0 cs.length cs.length] w λe w'=>(∃z,e=.returned z)/\EI w n0 lb BU BS f dom X aY (L++prC f cs) w':=by
 have MC:Hid (∀a b,a<nt->b<nt->Ask f dom aY (61,a,b)):=λa b ha hb=>BF.ask hc O ha hb;have agh:Hid (∀c (h:c<cs.length),Ask f dom aY (cs[c].1,c,0)):=λc h=>by
  have h8:=hcs _ (an5 h);have hf:=BF.other (cs[c].1,c,0) (by show cs[c].1≠61;omega);have hd:=BF.WV (cs[c].1,c,0) (λe=>by have:cs[c].1=61:=e;omega);have hb:(0<=cs[c].1/\cs[c].1<=255)/\c<=1000/\0<=1000:=O
  exact⟨hd,by rw[hf];exact hd,by rw[hf,hf],hb,by rw[hf];exact hb,Gm c h⟩
 have hlen:Hid (∀a b,a<=cs.length->b<=a->((L++((List.range a).flatMap λa=>(List.range a).flatMap λb=>H9 f cs a b))++((List.range b).flatMap λb=>H9 f cs a b)).length<=7000):=λa b ha hb=>by
  have I:((List.range a).flatMap λa=>(List.range a).flatMap λb=>H9 f cs a b).length<=a*8:=by
   have key:∀k,k<=4->((List.range k).flatMap λa=>(List.range a).flatMap λb=>H9 f cs a b).length<=k*8:=λk=>by
    induction k with
    |zero=>intro _;simp
    |succ k ih=>
     intro hk;rw[iE,ap4,ay2];have I:=ih O;have M:=qL (λb=>H9 f cs k b) 2 (OE f cs k) k;omega
   exact key a O
  have M:=qL (λb=>H9 f cs a b) 2 (OE f cs a) b;simp only[ap4];omega
 have Bf:EI w n0 lb BU BS f dom X aY L w:=⟨hLS,aq1 _ _,VK.refl _,an2 _⟩;have HE0:=F Bf;have Eu:=F kE;have HT:=F hcs;rw[acg];clear BF hc Gm hLS Bf kE hcs
 go_in
 go_wp2_with fail
 go_loopw [13] (λi wr=>∃a:Nat,a<=cs.length/\i=A a/\EI w n0 lb BU BS f dom X aY (L++((List.range a).flatMap λa=>(List.range a).flatMap λb=>H9 f cs a b)) wr) (λi _=>cs.length-(intOf i).toNat)
 case atStart=>exact⟨0,ap7 _,rfl,by simpa using Z HE0⟩
 case round=>
  obtain⟨a,ha,rfl,hE⟩:=hrel;by_cases hlt:a<cs.length
  ·have iF:(a:Int)<(cs.length:Int):=O;obtain⟨c0,c1⟩:=((Z Eu).below hE.below hG).2 a hlt;have ta1:=Z HT _ (an5 hlt);have fK:cs.getD a (0,0)=cs[a]:=aU hlt _;have hAa:=Z agh a hlt;have eH:=hE.size;have HGA:=F fK;have HE:=F hE;clear hE fK;generalize cs[a]=ka at c0 c1 ta1 HGA hAa;obtain⟨al,ax⟩:=ka;simp only at c0 c1 ta1 hAa;have jd:wr.grownBy (wr.alloc (.cells #[Ae al,A ax] 79)) none:=an1 _ _ none;have hE1:=(Z HE).grow hn jd;have b5:(wr.alloc (.cells #[Ae al,A ax] 79)).heap[wr.heap.size]?=some (.cells #[Ae al,A ax] 79 (0,0)):=ap5 _ _;have HE1:=F hE1;have B5:=F b5;obtain⟨B,hB⟩:∃B,wr.heap.size=B:=⟨_,rfl⟩;clear hE1 b5 jd
   go_wp2_with fail
   rw[hB]at B5;have HB:=F hB;clear hB
   go_loopw [22] (λi wq=>∃b:Nat,b<=a/\i=A b/\EI w n0 lb BU BS f dom X aY ((L++((List.range a).flatMap λa=>(List.range a).flatMap λb=>H9 f cs a b))++((List.range b).flatMap λb=>H9 f cs a b)) wq/\wq.heap[B]?=some (.cells #[Ae al,A ax] 79 (0,0))) (λi _=>a-(intOf i).toNat)
   case atStart=>exact⟨0,ap7 _,rfl,by simpa using Z HE1,Z B5⟩
   case round=>
    clear HE1 B5 c0 c1;obtain⟨b,hb,rfl,hE,b5⟩:=hrel;by_cases Yw:b<a
    ·have JR:(b:Int)<(a:Int):=O;have mg:b<cs.length:=O;obtain⟨c0,c1⟩:=((Z Eu).below hE.below hG).2 b mg;have tb1:=Z HT _ (an5 mg);have fD:cs.getD b (0,0)=cs[b]:=aU mg _;have hAb:=Z agh b mg;have GV:=Z hlen a b O O;have ak6:=hE.size;have hfb:H9 f cs a b=if al=cs[b].1 then [[(f (61,ax,cs[b].2),false),(f (al,a,0),true),(f (cs[b].1,b,0),false)],[(f (61,ax,cs[b].2),false),(f (al,a,0),false),(f (cs[b].1,b,0),true)]]else []:=by
      unfold H9 dP;rw[Z HGA,fD]
     have gB:Hid (∀W',EI w n0 lb BU BS f dom X aY (((L++((List.range a).flatMap λa=>(List.range a).flatMap λb=>H9 f cs a b))++((List.range b).flatMap λb=>H9 f cs a b))++H9 f cs a b) W'->EI w n0 lb BU BS f dom X aY ((L++((List.range a).flatMap λa=>(List.range a).flatMap λb=>H9 f cs a b))++((List.range (b+1)).flatMap λb=>H9 f cs a b)) W'):=λW' h=>by
      rw[iE,<-at1];exact h
     rw[hfb]at gB;clear hfb fD;generalize cs[b]=kb at c0 c1 tb1 gB hAb;obtain⟨bl,bx⟩:=kb;simp only at c0 c1 tb1 gB hAb;have jd:wr.grownBy (wr.alloc (.cells #[Ae bl,A bx] 79)) none:=an1 _ _ none;obtain⟨W1,dO⟩:∃W1,wr.alloc (.cells #[Ae bl,A bx] 79)=W1:=⟨_,rfl⟩;have b7:W1.heap[wr.heap.size]?=some (.cells #[Ae bl,A bx] 79 (0,0)):=(by rw[<-dO];exact ap5 _ _);rw[dO]at jd;have b51:=aZ (VK.grown jd) b5;have hE1:=hE.grow hn jd;have k50:W1.cell? (J B 0)=some (Ae al):=(by rw[cell_of b51];rfl);have k70:W1.cell? (J wr.heap.size 0)=some (Ae bl):=(by rw[cell_of b7];rfl);obtain⟨C,hC⟩:∃C,wr.heap.size=C:=⟨_,rfl⟩;have HE1:=F hE1;have B51:=F b51;have B7:=F b7;rw[hC]at B7 k70;obtain⟨h2,hM⟩:∃h2,(L++((List.range a).flatMap λa=>(List.range a).flatMap λb=>H9 f cs a b))++((List.range b).flatMap λb=>H9 f cs a b)=h2:=⟨_,rfl⟩;rw[hM]at GV gB HE1;have Gh:=hE1.size;have HM:=F hM;clear hE hE1 b51 b7 b5 jd hM;by_cases JJ:al=bl
     ·subst JJ;rw[ao4 rfl]at gB
      go_wp2_with fail
      clear dO hC;obtain⟨V,O8⟩:∃V,W1.drew=V:=⟨_,rfl⟩;have Gl:W1.grownBy V none:=(by rw[<-O8];exact⟨rfl,rfl,rfl,an2 _,λ_ _ _=>rfl⟩);refine aq8 (S:=λW'=>VK V W') rfl ?_;have aA:VK V V:=VK.refl _;simp only[ao5,ao1,ap0,Nat.reduceAdd,an7,an6,ao6,ao8,ao7];change wpAnyH prog .any _ _ _ _ _ _ W1.drew;rw[O8];clear O8;have bA:=aZ (VK.grown Gl) (Z B51);have bB:=aZ (VK.grown Gl) (Z B7);have hEV:=(Z HE1).grow hn Gl;have hsV:=hEV.size;obtain⟨Us,ak,wM,EJ,hUC⟩:=hEV.ls;have Gj:n0<=V.heap.size:=O;have A1:=Z MC ax bx ta1.2 tb1.2;have AX:IE V n0 lb BU BS f dom X aY ak h2 Us V:=⟨wM.other (λk hk h=>h.elim id (λh=>O)),EJ,hUC,VK.refl _,aq1 _ _,an2 _⟩;obtain⟨U1,hU1⟩:∃U,put Us (f (61,ax,bx))=U:=⟨_,rfl⟩;obtain⟨U2,hU2⟩:∃U,put U1 (f (al,a,0))=U:=⟨_,rfl⟩;obtain⟨U3,hU3⟩:∃U,put U2 (f (al,b,0))=U:=⟨_,rfl⟩;obtain⟨x1,nN⟩:∃x,U1.idxOf (f (61,ax,bx))=x:=⟨_,rfl⟩;obtain⟨x2,mM⟩:∃x,U2.idxOf (f (al,a,0))=x:=⟨_,rfl⟩;obtain⟨x3,qh⟩:∃x,U3.idxOf (f (al,b,0))=x:=⟨_,rfl⟩;have Fb:f (61,ax,bx)∈U1:=(by rw[<-hU1];exact dL _ _);have tC:f (al,a,0)∈U2:=(by rw[<-hU2];exact dL _ _);have hm3:f (al,b,0)∈U3:=(by rw[<-hU3];exact dL _ _);have LZ:U1 <+: U2:=(by rw[<-hU2];exact mG _ _);have yN:U2 <+: U3:=(by rw[<-hU3];exact mG _ _);have F0:Hid (∀W,IE V n0 lb BU BS f dom X aY ak h2 Us W->Calls prog 153 #[A ax,A bx] W λe W'=>e=.returned (.agg #[Ae 61,A ax,A bx])/\IE V n0 lb BU BS f dom X aY ak h2 Us W'/\VK W W'):=λW h=>(lD ax bx W).mono (λe W' g=>⟨g.1,h.grow Gj g.2,VK.grown g.2⟩);have F1:Hid (∀W,IE V n0 lb BU BS f dom X aY ak h2 Us W->Calls prog 154 #[Aa lb 0,.agg #[Ae 61,A ax,A bx]] W λe W'=>e=.returned (.agg #[A x1,.bool true])/\IE V n0 lb BU BS f dom X aY ak h2 U1 W'/\VK W W'):=λW h=>by
       refine(FX n0 W lb BU BS f dom _ aY Us ak h2 ax bx A1 h.lg h.lp h.cand h9 (ap3 Gj h.size)).mono ?_;rintro e W' ⟨rfl,g1,g2,g3,g4,g5⟩;rw[hU1]at g1 g2 g3 ⊢;rw[nN];exact⟨rfl,⟨g1,g2,g3,h.vk.trans g5,h.below.trans g4,ap3 h.size g4.size⟩,g5⟩
      have F2:Hid (∀W,IE V n0 lb BU BS f dom X aY ak h2 U1 W->Calls prog 127 #[.agg #[A x1,.bool true]] W λe W'=>e=.returned (.agg #[A x1,.bool false])/\IE V n0 lb BU BS f dom X aY ak h2 U1 W'/\VK W W'):=λW h=>(jT x1 true W).mono (λe W' g=>⟨g.1,h.grow Gj g.2,VK.grown g.2⟩);have F3:Hid (∀W,IE V n0 lb BU BS f dom X aY ak h2 U1 W->Calls prog 154 #[Aa lb 0,.agg #[Ae al,A a,A 0]] W λe W'=>e=.returned (.agg #[A x2,.bool true])/\IE V n0 lb BU BS f dom X aY ak h2 U2 W'/\VK W W'):=λW h=>by
       refine(U8 n0 W lb BU BS f dom _ aY U1 ak h2 (al,a,0) hAa h.lg h.lp h.cand h9 (ap3 Gj h.size)).mono ?_;rintro e W' ⟨rfl,g1,g2,g3,g4,g5⟩;rw[hU2]at g1 g2 g3 ⊢;rw[mM];exact⟨rfl,⟨g1,g2,g3,h.vk.trans g5,h.below.trans g4,ap3 h.size g4.size⟩,g5⟩
      have F4:Hid (∀W,IE V n0 lb BU BS f dom X aY ak h2 U2 W->Calls prog 154 #[Aa lb 0,.agg #[Ae al,A b,A 0]] W λe W'=>e=.returned (.agg #[A x3,.bool true])/\IE V n0 lb BU BS f dom X aY ak h2 U3 W'/\VK W W'):=λW h=>by
       refine(U8 n0 W lb BU BS f dom _ aY U2 ak h2 (al,b,0) hAb h.lg h.lp h.cand h9 (ap3 Gj h.size)).mono ?_;rintro e W' ⟨rfl,g1,g2,g3,g4,g5⟩;rw[hU3]at g1 g2 g3 ⊢;rw[qh];exact⟨rfl,⟨g1,g2,g3,h.vk.trans g5,h.below.trans g4,ap3 h.size g4.size⟩,g5⟩
      refine dF 0 (Aa lb 0) aA ?_
      simp only[aF];refine dF 1 (Aa B 1) aA ?_
      simp only[aF];refine tH 2 (A ax) (λw' hS=>?_) aA ?_
      ·have q:=aZ hS bA;have q0:=(cell_of q 1)
       go_simp
      simp only[aF];refine dF 3 (Aa C 1) aA ?_
      simp only[aF];refine tH 4 (A bx) (λw' hS=>?_) aA ?_
      ·have q:=aZ hS bB;have q0:=(cell_of q 1)
       go_simp
      simp only[aF];refine dF 8 (Aa lb 0) aA ?_
      simp only[aF];refine dF 9 (Aa B 0) aA ?_
      simp only[aF];refine tH 10 (Ae al) (λw' hS=>?_) aA ?_
      ·have q:=aZ hS bA;have q0:=(cell_of q 0)
       go_simp
      simp only[aF];refine dF 11 (A a) aA ?_
      simp only[aF];refine dF 12 (.agg #[Ae al,A a,A 0]) aA ?_
      simp only[aF];refine dF 14 (Aa lb 0) aA ?_
      simp only[aF];refine dF 15 (Aa C 0) aA ?_
      simp only[aF];refine tH 16 (Ae al) (λw' hS=>?_) aA ?_
      ·have q:=aZ hS bB;have q0:=(cell_of q 0)
       go_simp
      simp only[aF];refine dF 17 (A b) aA ?_
      simp only[aF];refine dF 18 (.agg #[Ae al,A b,A 0]) aA ?_
      simp only[aF];refine CQ (λops Q1 JE hQ1=>?_);obtain⟨frm,Tj⟩:∃frm:Value->Value->Value->Value->Value->Value->Value->Value->Act,frm=λt8 t9 t10 t37 t38 t39 t45 t51=>{tmps:=List.toArray (Aa lb 0::Ac GC 0 cs.length cs.length::undef::undef::A a::Aa B 0::A b::Aa C 0::t8::t9::t10::Ac GC 0 cs.length cs.length::A cs.length::A a::.bool true::A a::.pointer (some ⟨GC,a*2,none⟩)::.agg #[Ae al,A ax]::Ac GC 0 cs.length cs.length::A a::Ac GC 0 a cs.length::A a::A b::.bool true::A b::.pointer (some ⟨GC,b*2,none⟩)::.agg #[Ae al,A bx]::Aa B 0::Ae al::Aa C 0::Ae al::.bool true::Aa lb 0::Aa B 1::A ax::Aa C 1::A bx::t37::t38::t39::Aa lb 0::Aa B 0::Ae al::A a::.agg #[Ae al,A a,A 0]::t45::Aa lb 0::Aa C 0::Ae al::A b::.agg #[Ae al,A b,A 0]::t51::u52::u53::u54::u55::u56::u57::u58::u59::u60::u61::u62::u63::u64::u65::u66::u67::[]),defers:=[]}:=⟨_,rfl⟩;obtain⟨lst,SQ⟩:∃lst:Bool->Bool->Bool->Bool->Bool->Bool->Bool->Bool->Array Bool,lst=λl5 l6 l7 l13 l19 l20 l21 l22=>#[true,true,true,true,true,l5,l6,l7,true,true,true,true,true,l13,true,true,true,true,true,l19,l20,l21,l22,false,false,false]:=⟨_,rfl⟩;have stF:Hid (∀(n:Nat) (W:World) (b8 b9 b10:Nat),IE V n0 lb BU BS f dom X aY ak h2 U3 W->ZB V W b8->ZB V W b9->ZB V W b10->b8≠b9->b8≠b10->b9≠b10->wpAnyH prog .any ops Q1 (λW'=>VK V W') (n+3) (lst true true true true true true true true) (frm (Aa b8 0) (Aa b9 0) (Aa b10 0) (.agg #[Ae 61,A ax,A bx]) (.agg #[A x1,.bool true]) (.agg #[A x1,.bool false]) (.agg #[A x2,.bool true]) (.agg #[A x3,.bool true])) W):=by
       intro n W b8 b9 b10 hC z20 z21 z22 n2021 n2022 n2122;subst JE Tj SQ;dsimp only;subst hQ1;have yb8:=z20.1;have yb9:=z21.1;have CP:=z22.1;have sb80:W.cell? (J b8 0)=some (A 0):=(by rw[cell_of yb8];rfl);have sb81:W.cell? (J b8 1)=some (.bool false):=(by rw[cell_of yb8];rfl);have fb80:W.frozen? (J b8 0)=false:=(by simp[World.frozen?,yb8]);have fb81:W.frozen? (J b8 1)=false:=(by simp[World.frozen?,yb8]);have amF:=(an0.1 yb8).1;have hCa:=hC.set Gj yb8 z20.2 (A x1) (.bool false);have wb8:((W.setCell (J b8 0) (A x1)).setCell (J b8 1) (.bool false)).heap[b8]?=some (Obj.cells #[A x1,.bool false] 207 (0,0)):=by
        rw[heap_setCell_same (heap_setCell_same yb8)]
        congr 2
       replace yb9:=((ao9 (W.setCell (J b8 0) (A x1)) (J b8 1) (.bool false) b9 (by show b9≠b8;omega)).trans (ao9 W (J b8 0) (A x1) b9 (by show b9≠b8;omega))).trans yb9;replace CP:=((ao9 (W.setCell (J b8 0) (A x1)) (J b8 1) (.bool false) b10 (by show b10≠b8;omega)).trans (ao9 W (J b8 0) (A x1) b10 (by show b10≠b8;omega))).trans CP;obtain⟨Wa,hWa⟩:∃W',(W.setCell (J b8 0) (A x1)).setCell (J b8 1) (.bool false)=W':=⟨_,rfl⟩;rw[hWa]at hCa wb8 yb9 CP;refine oH 23 (λK hK=>?_);go_simp;refine hK.out _ _ hCa.vk ?_;clear hK K hWa sb80 sb81 fb80 fb81;have sb90:Wa.cell? (J b9 0)=some (A 0):=(by rw[cell_of yb9];rfl);have sb91:Wa.cell? (J b9 1)=some (.bool false):=(by rw[cell_of yb9];rfl);have fb90:Wa.frozen? (J b9 0)=false:=(by simp[World.frozen?,yb9]);have fb91:Wa.frozen? (J b9 1)=false:=(by simp[World.frozen?,yb9]);have amE:=(an0.1 yb9).1;have hCb:=hCa.set Gj yb9 z21.2 (A x2) (.bool true);have wb9:((Wa.setCell (J b9 0) (A x2)).setCell (J b9 1) (.bool true)).heap[b9]?=some (Obj.cells #[A x2,.bool true] 207 (0,0)):=by
        rw[heap_setCell_same (heap_setCell_same yb9)]
        congr 2
       replace wb8:=((ao9 (Wa.setCell (J b9 0) (A x2)) (J b9 1) (.bool true) b8 (by show b8≠b9;omega)).trans (ao9 Wa (J b9 0) (A x2) b8 (by show b8≠b9;omega))).trans wb8;replace CP:=((ao9 (Wa.setCell (J b9 0) (A x2)) (J b9 1) (.bool true) b10 (by show b10≠b9;omega)).trans (ao9 Wa (J b9 0) (A x2) b10 (by show b10≠b9;omega))).trans CP;obtain⟨Wb,hWb⟩:∃W',(Wa.setCell (J b9 0) (A x2)).setCell (J b9 1) (.bool true)=W':=⟨_,rfl⟩;rw[hWb]at hCb wb9 wb8 CP;refine oH 24 (λK hK=>?_);go_simp;refine hK.out _ _ hCb.vk ?_;clear hK K hWb sb90 sb91 fb90 fb91;have sb100:Wb.cell? (J b10 0)=some (A 0):=(by rw[cell_of CP];rfl);have sb101:Wb.cell? (J b10 1)=some (.bool false):=(by rw[cell_of CP];rfl);have fb100:Wb.frozen? (J b10 0)=false:=(by simp[World.frozen?,CP]);have fb101:Wb.frozen? (J b10 1)=false:=(by simp[World.frozen?,CP]);have amq:=(an0.1 CP).1;have hCc:=hCb.set Gj CP z22.2 (A x3) (.bool true);have wb10:((Wb.setCell (J b10 0) (A x3)).setCell (J b10 1) (.bool true)).heap[b10]?=some (Obj.cells #[A x3,.bool true] 207 (0,0)):=by
        rw[heap_setCell_same (heap_setCell_same CP)]
        congr 2
       replace wb8:=((ao9 (Wb.setCell (J b10 0) (A x3)) (J b10 1) (.bool true) b8 (by show b8≠b10;omega)).trans (ao9 Wb (J b10 0) (A x3) b8 (by show b8≠b10;omega))).trans wb8;replace wb9:=((ao9 (Wb.setCell (J b10 0) (A x3)) (J b10 1) (.bool true) b9 (by show b9≠b10;omega)).trans (ao9 Wb (J b10 0) (A x3) b9 (by show b9≠b10;omega))).trans wb9;obtain⟨Wc,hWc⟩:∃W',(Wb.setCell (J b10 0) (A x3)).setCell (J b10 1) (.bool true)=W':=⟨_,rfl⟩;rw[hWc]at hCc wb10 wb8 wb9;refine oH 25 (λK hK=>?_);go_simp;refine hK.out _ _ hCc.vk (ar2 (by kernel_rfl) ?_ _);clear hK K hWc sb100 sb101 fb100 fb101;have aj8:LG n0 Wc lb BU BS f dom U3 ak X:=hCc.lg.other (λk _ h=>Or.inl h);have hsc:=hCc.size;have bAc:=aZ hCc.vk bA;have e1f:vw U3 (f (61,ax,bx),false)=(x1,false):=(by unfold vw;rw[oD (LZ.trans yN) Fb,nN]);have e2t:vw U3 (f (al,a,0),true)=(x2,true):=(by unfold vw;rw[oD yN tC,mM]);have e2f:vw U3 (f (al,a,0),false)=(x2,false):=(by unfold vw;rw[oD yN tC,mM]);have e3t:vw U3 (f (al,b,0),true)=(x3,true):=(by unfold vw;rw[qh]);have e3f:vw U3 (f (al,b,0),false)=(x3,false):=(by unfold vw;rw[qh]);have ajt:f (61,ax,bx)∈U3:=(LZ.trans yN).mem Fb;have ajs:f (al,a,0)∈U3:=yN.mem tC;have al1:Below n0 w Wc:=hEV.below.trans hCc.below;have alX:VK w Wc:=hEV.keep.trans hCc.vk;have ahH:=hCc.lp;have alU:=hCc.cand;have HEE:=F (And.intro e1f (And.intro e2t (And.intro e2f (And.intro e3t e3f))));clear F0 F1 F2 F3 F4 hC hCa hCb hCc AX wM EJ hUC hEV bA bB e1f e2t e2f e3t e3f aA A1 z20 z21 z22 yb8 yb9 CP
       go_wp2_with fail
       obtain⟨V8,ahC⟩:∃V',Wc.drew=V':=⟨_,rfl⟩;have V6:Wc.grownBy V8 none:=(by rw[<-ahC];exact⟨rfl,rfl,rfl,an2 _,λ_ _ _=>rfl⟩);refine aq8 (S:=λW'=>VK V8 W') rfl ?_;have aA:VK V8 V8:=VK.refl _;simp only[ao5,ao1,ap0,Nat.reduceAdd,an7,an6,ao6,ao8,ao7];change wpAnyH prog .any _ _ _ _ _ _ Wc.drew;rw[ahC];clear ahC;have vb88:=aZ (VK.grown V6) wb8;have vb98:=aZ (VK.grown V6) wb9;have vb108:=aZ (VK.grown V6) wb10;have amz:=V6.size;refine dF 0 (Aa lb 0) aA ?_
       simp only[aF];refine tH 1 (.agg #[A x1,.bool false]) (λw' hS=>?_) aA ?_
       ·have q:=aZ hS vb88;have q0:=(cell_of q 0);have q1:=(cell_of q 1)
        go_simp
       simp only[aF];refine tH 2 (.agg #[A x2,.bool true]) (λw' hS=>?_) aA ?_
       ·have q:=aZ hS vb98;have q0:=(cell_of q 0);have q1:=(cell_of q 1)
        go_simp
       simp only[aF];refine tH 3 (.agg #[A x3,.bool true]) (λw' hS=>?_) aA ?_
       ·have q:=aZ hS vb108;have q0:=(cell_of q 0);have q1:=(cell_of q 1)
        go_simp
       simp only[aF];refine oH 4 (λK hK=>?_);go_simp;refine(jT x3 true V8).mono ?_;rintro e n8 ⟨rfl,hn8⟩;replace aA:=aA.trans (VK.grown hn8);refine hK.out _ _ aA ?_;clear hK K;have amv:=hn8.size;have afn:=wQ n8 (x1,false) (x2,true) (x3,false);have ajw:[(f (61,ax,bx),false),(f (al,a,0),true),(f (al,b,0),false)].map (vw U3)=[(x1,false),(x2,true),(x3,false)]:=(by obtain⟨q1,q2,q3,q4,q5⟩:=Z HEE;simp only[ay3,List.map_nil,q1,q2,q3,q4,q5]);rw[<-ajw]at afn;simp only at afn;have ahj:n8.grownBy (n8.alloc (.cells #[A x1,.bool false,A x2,.bool true,A x3,.bool false] 207)) none:=an1 _ _ none;refine oH 5 (λK hK=>?_);go_simp;replace aA:=aA.trans (VK.grown ahj);refine hK.out _ _ aA ?_;clear hK K;have ajS:=fH X n0 _ lb BU BS f dom U3 ak h2 _ [(f (61,ax,bx),false),(f (al,a,0),true),(f (al,b,0),false)] (((aj8.grow V6).grow hn8).grow ahj) (λq e=>by have:=hX q e;simp;omega) ahH afn R R (by
        intro l hl;simp only[ar9,av3,aA4]at hl;obtain rfl|rfl|rfl:=hl
        ·exact ajt
        ·exact ajs
        ·exact hm3) anf (by rw[ahH.len];omega)
       refine oH 6 (λK hK=>?_);go_simp;refine(ajS).mono ?_;rintro e d8 ⟨⟨z8,rfl⟩,agB,TL,JV,hB8,hK8⟩;refine hK.out _ _ (aA.trans hK8) (ar2 (by kernel_rfl) ?_ _);clear hK K;have adF:VK Wc d8:=(VK.grown V6).trans (aA.trans hK8);have akm:Below n0 Wc d8:=(((But.aC V6).below O (λk _ e=>by cases e)).trans (((But.aC hn8).below O (λk _ e=>by cases e)).trans ((But.aC ahj).below O (λk _ e=>by cases e)))).trans hB8;have amx:=akm.size;replace wb8:=aZ adF wb8;replace wb9:=aZ adF wb9;replace wb10:=aZ adF wb10;clear aA ajS afn aj8 ahH
       go_wp2_with fail
       obtain⟨V9,ahB⟩:∃V',d8.drew=V':=⟨_,rfl⟩;have V5:d8.grownBy V9 none:=(by rw[<-ahB];exact⟨rfl,rfl,rfl,an2 _,λ_ _ _=>rfl⟩);refine aq8 (S:=λW'=>VK V9 W') rfl ?_;have aA:VK V9 V9:=VK.refl _;simp only[ao5,ao1,ap0,Nat.reduceAdd,an7,an6,ao6,ao8,ao7];change wpAnyH prog .any _ _ _ _ _ _ d8.drew;rw[ahB];clear ahB;have vb89:=aZ (VK.grown V5) wb8;have vb99:=aZ (VK.grown V5) wb9;have vb109:=aZ (VK.grown V5) wb10;have amy:=V5.size;refine dF 0 (Aa lb 0) aA ?_
       simp only[aF];refine tH 1 (.agg #[A x1,.bool false]) (λw' hS=>?_) aA ?_
       ·have q:=aZ hS vb89;have q0:=(cell_of q 0);have q1:=(cell_of q 1)
        go_simp
       simp only[aF];refine tH 2 (.agg #[A x2,.bool true]) (λw' hS=>?_) aA ?_
       ·have q:=aZ hS vb99;have q0:=(cell_of q 0);have q1:=(cell_of q 1)
        go_simp
       simp only[aF];refine tH 4 (.agg #[A x3,.bool true]) (λw' hS=>?_) aA ?_
       ·have q:=aZ hS vb109;have q0:=(cell_of q 0);have q1:=(cell_of q 1)
        go_simp
       simp only[aF];refine oH 3 (λK hK=>?_);go_simp;refine(jT x2 true V9).mono ?_;rintro e n9 ⟨rfl,hn9⟩;replace aA:=aA.trans (VK.grown hn9);refine hK.out _ _ aA ?_;clear hK K;have amu:=hn9.size;have afm:=wQ n9 (x1,false) (x2,false) (x3,true);have ajv:[(f (61,ax,bx),false),(f (al,a,0),false),(f (al,b,0),true)].map (vw U3)=[(x1,false),(x2,false),(x3,true)]:=(by obtain⟨q1,q2,q3,q4,q5⟩:=Z HEE;simp only[ay3,List.map_nil,q1,q2,q3,q4,q5]);rw[<-ajv]at afm;simp only at afm;have ahi:n9.grownBy (n9.alloc (.cells #[A x1,.bool false,A x2,.bool false,A x3,.bool true] 207)) none:=an1 _ _ none;refine oH 5 (λK hK=>?_);go_simp;replace aA:=aA.trans (VK.grown ahi);refine hK.out _ _ aA ?_;clear hK K;have ajR:=fH X n0 _ lb BU BS f dom U3 agB (h2++[[(f (61,ax,bx),false),(f (al,a,0),true),(f (al,b,0),false)]]) _ [(f (61,ax,bx),false),(f (al,a,0),false),(f (al,b,0),true)] (((TL.grow V5).grow hn9).grow ahi) (λq e=>by have:=hX q e;simp;omega) JV afm R R (by
        intro l hl;simp only[ar9,av3,aA4]at hl;obtain rfl|rfl|rfl:=hl
        ·exact ajt
        ·exact ajs
        ·exact hm3) anf (by rw[JV.len];simp;omega)
       refine oH 6 (λK hK=>?_);go_simp;refine(ajR).mono ?_;rintro e d9 ⟨⟨z9,rfl⟩,IW,aaO,Wx,WI,hK9⟩;refine hK.out _ _ (aA.trans hK9) (ar2 (by kernel_rfl) ?_ _);clear hK K;have ake:VK d8 d9:=(VK.grown V5).trans (aA.trans hK9);have akl:Below n0 d8 d9:=(((But.aC V5).below O (λk _ e=>by cases e)).trans (((But.aC hn9).below O (λk _ e=>by cases e)).trans ((But.aC ahi).below O (λk _ e=>by cases e)))).trans WI;have amw:=akl.size;rw[at1]at Wx;have hEF:=Z gB d9 ⟨⟨U3,IW,aaO,Wx,alU⟩,(al1.trans akm).trans akl,(alX.trans adF).trans ake,O⟩;have b59:=aZ ake (aZ adF bAc);have HEF:=F hEF;have B59:=F b59;clear hEF b59 aA ajR afm TL JV aaO Wx
       go_wp2_with fail
       exact⟨⟨_,_,_,_,_,_,_,_,_,_,_,_,_,_,_,_,_,_,_,_,_,_,_,_,_,_,_,_,_,_,_,_,_,_,_,_,_,_,_,_,_,_,_,_,_,_,_,_,_,_,⟨b+1,Yw,by go_num,Z HEF,Z B59⟩,rfl⟩,by simp[intOf];omega⟩
      have st5:Hid (∀k n W l0 l1 l2 t0 t1 t2 b0 b1 b2,cn l0+cn l1+cn l2=k->k+3<=n->IE V n0 lb BU BS f dom X aY ak h2 U3 W->ZL V W l0 t0 b0->ZL V W l1 t1 b1->ZL V W l2 t2 b2->ZD l0 l1 b0 b1->ZD l0 l2 b0 b2->ZD l1 l2 b1 b2->wpAnyH prog .any ops Q1 (λW'=>VK V W') n (lst true true true true true l0 l1 l2) (frm t0 t1 t2 (.agg #[Ae 61,A ax,A bx]) (.agg #[A x1,.bool true]) (.agg #[A x1,.bool false]) (.agg #[A x2,.bool true]) (.agg #[A x3,.bool true])) W):=by
       intro k
       induction k using Nat.strongRecOn with
       |ind k ih=>
       intro n W l0 l1 l2 t0 t1 t2 b0 b1 b2 hk hn hC z0 z1 z2 d0 d1 d2;obtain⟨m,rfl⟩:∃m,n=m+1:=⟨n-1,O⟩;subst JE Tj SQ;cases l0<;>cases l1<;>cases l2;refine a3 20 21 22 ?_ ?_ ?_
       rotate_left 3
       refine a2 20 21 ?_ ?_
       rotate_left 2
       refine a2 20 22 ?_ ?_
       rotate_left 2
       refine a1 20 ?_
       rotate_left 1
       refine a2 21 22 ?_ ?_
       rotate_left 2
       refine a1 21 ?_
       rotate_left 1
       refine a1 22 ?_
       rotate_left 1
       obtain⟨r,rfl⟩:∃r,m=r+2:=⟨m-2,O⟩;obtain⟨rfl,y0⟩:=z0 rfl;obtain⟨rfl,y1⟩:=z1 rfl;obtain⟨rfl,y2⟩:=z2 rfl;exact Z stF r W b0 b1 b2 hC y0 y1 y2 (d0 rfl rfl) (d1 rfl rfl) (d2 rfl rfl)
       all_goals
        first
        |(show pz _ _ _ _ _ _ _ 20 _ _
          dsimp only;refine oO (λK hK=>?_);have jG:=hC.grow Gj (an1 W (.cells #[A 0,.bool false] 207) none);go_simp;refine hK.out _ _ ⟨jG.vk,?_⟩;clear hK K;exact ih _ (by simp[cn]at hk ⊢;omega) m _ _ _ _ (Aa W.heap.size 0) t1 t2 W.heap.size b1 b2 rfl (by simp[cn]at hk ⊢;omega) jG (ZL.new hC.size) (z1.al _) (z2.al _) z1.dn z2.dn d2)
        |(show pz _ _ _ _ _ _ _ 21 _ _
          dsimp only;refine oO (λK hK=>?_);have jG:=hC.grow Gj (an1 W (.cells #[A 0,.bool false] 207) none);go_simp;refine hK.out _ _ ⟨jG.vk,?_⟩;clear hK K;exact ih _ (by simp[cn]at hk ⊢;omega) m _ _ _ _ t0 (Aa W.heap.size 0) t2 b0 W.heap.size b2 rfl (by simp[cn]at hk ⊢;omega) jG (z0.al _) (ZL.new hC.size) (z2.al _) z0.nd d1 z2.dn)
        |(show pz _ _ _ _ _ _ _ 22 _ _
          dsimp only;refine oO (λK hK=>?_);have jG:=hC.grow Gj (an1 W (.cells #[A 0,.bool false] 207) none);go_simp;refine hK.out _ _ ⟨jG.vk,?_⟩;clear hK K;exact ih _ (by simp[cn]at hk ⊢;omega) m _ _ _ _ t0 t1 (Aa W.heap.size 0) b0 b1 W.heap.size rfl (by simp[cn]at hk ⊢;omega) jG (z0.al _) (z1.al _) (ZL.new hC.size) d0 z0.nd z1.nd)
      have st4:Hid (∀k n W l0 l1 l2 t0 t1 t2 b0 b1 b2,cn l0+cn l1+cn l2=k->k+4<=n->IE V n0 lb BU BS f dom X aY ak h2 U2 W->ZL V W l0 t0 b0->ZL V W l1 t1 b1->ZL V W l2 t2 b2->ZD l0 l1 b0 b1->ZD l0 l2 b0 b2->ZD l1 l2 b1 b2->wpAnyH prog .any ops Q1 (λW'=>VK V W') n (lst true true true true false l0 l1 l2) (frm t0 t1 t2 (.agg #[Ae 61,A ax,A bx]) (.agg #[A x1,.bool true]) (.agg #[A x1,.bool false]) (.agg #[A x2,.bool true]) u51) W):=by
       intro k
       induction k using Nat.strongRecOn with
       |ind k ih=>
       intro n W l0 l1 l2 t0 t1 t2 b0 b1 b2 hk hn hC z0 z1 z2 d0 d1 d2;obtain⟨m,rfl⟩:∃m,n=m+1:=⟨n-1,O⟩;subst JE Tj SQ;cases l0<;>cases l1<;>cases l2;refine a4 19 20 21 22 ?_ ?_ ?_ ?_
       rotate_left 4
       refine a3 19 20 21 ?_ ?_ ?_
       rotate_left 3
       refine a3 19 20 22 ?_ ?_ ?_
       rotate_left 3
       refine a2 19 20 ?_ ?_
       rotate_left 2
       refine a3 19 21 22 ?_ ?_ ?_
       rotate_left 3
       refine a2 19 21 ?_ ?_
       rotate_left 2
       refine a2 19 22 ?_ ?_
       rotate_left 2
       refine a1 19 ?_
       rotate_left 1
       all_goals
        first
        |(show pz _ _ _ _ _ _ _ 19 _ _
          dsimp only;refine oO (λK hK=>?_);go_simp;refine(Z F4 W hC).mono ?_;rintro e W2 ⟨rfl,jG,sH⟩;refine hK.out _ _ ⟨jG.vk,?_⟩;clear hK K;exact Z st5 k m W2 _ _ _ t0 t1 t2 b0 b1 b2 hk O jG (z0.vk sH) (z1.vk sH) (z2.vk sH) d0 d1 d2)
        |(show pz _ _ _ _ _ _ _ 20 _ _
          dsimp only;refine oO (λK hK=>?_);have jG:=hC.grow Gj (an1 W (.cells #[A 0,.bool false] 207) none);go_simp;refine hK.out _ _ ⟨jG.vk,?_⟩;clear hK K;exact ih _ (by simp[cn]at hk ⊢;omega) m _ _ _ _ (Aa W.heap.size 0) t1 t2 W.heap.size b1 b2 rfl (by simp[cn]at hk ⊢;omega) jG (ZL.new hC.size) (z1.al _) (z2.al _) z1.dn z2.dn d2)
        |(show pz _ _ _ _ _ _ _ 21 _ _
          dsimp only;refine oO (λK hK=>?_);have jG:=hC.grow Gj (an1 W (.cells #[A 0,.bool false] 207) none);go_simp;refine hK.out _ _ ⟨jG.vk,?_⟩;clear hK K;exact ih _ (by simp[cn]at hk ⊢;omega) m _ _ _ _ t0 (Aa W.heap.size 0) t2 b0 W.heap.size b2 rfl (by simp[cn]at hk ⊢;omega) jG (z0.al _) (ZL.new hC.size) (z2.al _) z0.nd d1 z2.dn)
        |(show pz _ _ _ _ _ _ _ 22 _ _
          dsimp only;refine oO (λK hK=>?_);have jG:=hC.grow Gj (an1 W (.cells #[A 0,.bool false] 207) none);go_simp;refine hK.out _ _ ⟨jG.vk,?_⟩;clear hK K;exact ih _ (by simp[cn]at hk ⊢;omega) m _ _ _ _ t0 t1 (Aa W.heap.size 0) b0 b1 W.heap.size rfl (by simp[cn]at hk ⊢;omega) jG (z0.al _) (z1.al _) (ZL.new hC.size) d0 z0.nd z1.nd)
      have st3:Hid (∀k n W l0 l1 l2 t0 t1 t2 b0 b1 b2,cn l0+cn l1+cn l2=k->k+5<=n->IE V n0 lb BU BS f dom X aY ak h2 U1 W->ZL V W l0 t0 b0->ZL V W l1 t1 b1->ZL V W l2 t2 b2->ZD l0 l1 b0 b1->ZD l0 l2 b0 b2->ZD l1 l2 b1 b2->wpAnyH prog .any ops Q1 (λW'=>VK V W') n (lst true true true false false l0 l1 l2) (frm t0 t1 t2 (.agg #[Ae 61,A ax,A bx]) (.agg #[A x1,.bool true]) (.agg #[A x1,.bool false]) u45 u51) W):=by
       intro k
       induction k using Nat.strongRecOn with
       |ind k ih=>
       intro n W l0 l1 l2 t0 t1 t2 b0 b1 b2 hk hn hC z0 z1 z2 d0 d1 d2;obtain⟨m,rfl⟩:∃m,n=m+1:=⟨n-1,O⟩;subst JE Tj SQ;cases l0<;>cases l1<;>cases l2;refine a4 13 20 21 22 ?_ ?_ ?_ ?_
       rotate_left 4
       refine a3 13 20 21 ?_ ?_ ?_
       rotate_left 3
       refine a3 13 20 22 ?_ ?_ ?_
       rotate_left 3
       refine a2 13 20 ?_ ?_
       rotate_left 2
       refine a3 13 21 22 ?_ ?_ ?_
       rotate_left 3
       refine a2 13 21 ?_ ?_
       rotate_left 2
       refine a2 13 22 ?_ ?_
       rotate_left 2
       refine a1 13 ?_
       rotate_left 1
       all_goals
        first
        |(show pz _ _ _ _ _ _ _ 13 _ _
          dsimp only;refine oO (λK hK=>?_);go_simp;refine(Z F3 W hC).mono ?_;rintro e W2 ⟨rfl,jG,sH⟩;refine hK.out _ _ ⟨jG.vk,?_⟩;clear hK K;exact Z st4 k m W2 _ _ _ t0 t1 t2 b0 b1 b2 hk O jG (z0.vk sH) (z1.vk sH) (z2.vk sH) d0 d1 d2)
        |(show pz _ _ _ _ _ _ _ 20 _ _
          dsimp only;refine oO (λK hK=>?_);have jG:=hC.grow Gj (an1 W (.cells #[A 0,.bool false] 207) none);go_simp;refine hK.out _ _ ⟨jG.vk,?_⟩;clear hK K;exact ih _ (by simp[cn]at hk ⊢;omega) m _ _ _ _ (Aa W.heap.size 0) t1 t2 W.heap.size b1 b2 rfl (by simp[cn]at hk ⊢;omega) jG (ZL.new hC.size) (z1.al _) (z2.al _) z1.dn z2.dn d2)
        |(show pz _ _ _ _ _ _ _ 21 _ _
          dsimp only;refine oO (λK hK=>?_);have jG:=hC.grow Gj (an1 W (.cells #[A 0,.bool false] 207) none);go_simp;refine hK.out _ _ ⟨jG.vk,?_⟩;clear hK K;exact ih _ (by simp[cn]at hk ⊢;omega) m _ _ _ _ t0 (Aa W.heap.size 0) t2 b0 W.heap.size b2 rfl (by simp[cn]at hk ⊢;omega) jG (z0.al _) (ZL.new hC.size) (z2.al _) z0.nd d1 z2.dn)
        |(show pz _ _ _ _ _ _ _ 22 _ _
          dsimp only;refine oO (λK hK=>?_);have jG:=hC.grow Gj (an1 W (.cells #[A 0,.bool false] 207) none);go_simp;refine hK.out _ _ ⟨jG.vk,?_⟩;clear hK K;exact ih _ (by simp[cn]at hk ⊢;omega) m _ _ _ _ t0 t1 (Aa W.heap.size 0) b0 b1 W.heap.size rfl (by simp[cn]at hk ⊢;omega) jG (z0.al _) (z1.al _) (ZL.new hC.size) d0 z0.nd z1.nd)
      have st2:Hid (∀k n W l0 l1 l2 t0 t1 t2 b0 b1 b2,cn l0+cn l1+cn l2=k->k+6<=n->IE V n0 lb BU BS f dom X aY ak h2 U1 W->ZL V W l0 t0 b0->ZL V W l1 t1 b1->ZL V W l2 t2 b2->ZD l0 l1 b0 b1->ZD l0 l2 b0 b2->ZD l1 l2 b1 b2->wpAnyH prog .any ops Q1 (λW'=>VK V W') n (lst true true false false false l0 l1 l2) (frm t0 t1 t2 (.agg #[Ae 61,A ax,A bx]) (.agg #[A x1,.bool true]) u39 u45 u51) W):=by
       intro k
       induction k using Nat.strongRecOn with
       |ind k ih=>
       intro n W l0 l1 l2 t0 t1 t2 b0 b1 b2 hk hn hC z0 z1 z2 d0 d1 d2;obtain⟨m,rfl⟩:∃m,n=m+1:=⟨n-1,O⟩;subst JE Tj SQ;cases l0<;>cases l1<;>cases l2;refine a4 7 20 21 22 ?_ ?_ ?_ ?_
       rotate_left 4
       refine a3 7 20 21 ?_ ?_ ?_
       rotate_left 3
       refine a3 7 20 22 ?_ ?_ ?_
       rotate_left 3
       refine a2 7 20 ?_ ?_
       rotate_left 2
       refine a3 7 21 22 ?_ ?_ ?_
       rotate_left 3
       refine a2 7 21 ?_ ?_
       rotate_left 2
       refine a2 7 22 ?_ ?_
       rotate_left 2
       refine a1 7 ?_
       rotate_left 1
       all_goals
        first
        |(show pz _ _ _ _ _ _ _ 7 _ _
          dsimp only;refine oO (λK hK=>?_);go_simp;refine(Z F2 W hC).mono ?_;rintro e W2 ⟨rfl,jG,sH⟩;refine hK.out _ _ ⟨jG.vk,?_⟩;clear hK K;exact Z st3 k m W2 _ _ _ t0 t1 t2 b0 b1 b2 hk O jG (z0.vk sH) (z1.vk sH) (z2.vk sH) d0 d1 d2)
        |(show pz _ _ _ _ _ _ _ 20 _ _
          dsimp only;refine oO (λK hK=>?_);have jG:=hC.grow Gj (an1 W (.cells #[A 0,.bool false] 207) none);go_simp;refine hK.out _ _ ⟨jG.vk,?_⟩;clear hK K;exact ih _ (by simp[cn]at hk ⊢;omega) m _ _ _ _ (Aa W.heap.size 0) t1 t2 W.heap.size b1 b2 rfl (by simp[cn]at hk ⊢;omega) jG (ZL.new hC.size) (z1.al _) (z2.al _) z1.dn z2.dn d2)
        |(show pz _ _ _ _ _ _ _ 21 _ _
          dsimp only;refine oO (λK hK=>?_);have jG:=hC.grow Gj (an1 W (.cells #[A 0,.bool false] 207) none);go_simp;refine hK.out _ _ ⟨jG.vk,?_⟩;clear hK K;exact ih _ (by simp[cn]at hk ⊢;omega) m _ _ _ _ t0 (Aa W.heap.size 0) t2 b0 W.heap.size b2 rfl (by simp[cn]at hk ⊢;omega) jG (z0.al _) (ZL.new hC.size) (z2.al _) z0.nd d1 z2.dn)
        |(show pz _ _ _ _ _ _ _ 22 _ _
          dsimp only;refine oO (λK hK=>?_);have jG:=hC.grow Gj (an1 W (.cells #[A 0,.bool false] 207) none);go_simp;refine hK.out _ _ ⟨jG.vk,?_⟩;clear hK K;exact ih _ (by simp[cn]at hk ⊢;omega) m _ _ _ _ t0 t1 (Aa W.heap.size 0) b0 b1 W.heap.size rfl (by simp[cn]at hk ⊢;omega) jG (z0.al _) (z1.al _) (ZL.new hC.size) d0 z0.nd z1.nd)
      have st1:Hid (∀k n W l0 l1 l2 t0 t1 t2 b0 b1 b2,cn l0+cn l1+cn l2=k->k+7<=n->IE V n0 lb BU BS f dom X aY ak h2 Us W->ZL V W l0 t0 b0->ZL V W l1 t1 b1->ZL V W l2 t2 b2->ZD l0 l1 b0 b1->ZD l0 l2 b0 b2->ZD l1 l2 b1 b2->wpAnyH prog .any ops Q1 (λW'=>VK V W') n (lst true false false false false l0 l1 l2) (frm t0 t1 t2 (.agg #[Ae 61,A ax,A bx]) u38 u39 u45 u51) W):=by
       intro k
       induction k using Nat.strongRecOn with
       |ind k ih=>
       intro n W l0 l1 l2 t0 t1 t2 b0 b1 b2 hk hn hC z0 z1 z2 d0 d1 d2;obtain⟨m,rfl⟩:∃m,n=m+1:=⟨n-1,O⟩;subst JE Tj SQ;cases l0<;>cases l1<;>cases l2;refine a4 6 20 21 22 ?_ ?_ ?_ ?_
       rotate_left 4
       refine a3 6 20 21 ?_ ?_ ?_
       rotate_left 3
       refine a3 6 20 22 ?_ ?_ ?_
       rotate_left 3
       refine a2 6 20 ?_ ?_
       rotate_left 2
       refine a3 6 21 22 ?_ ?_ ?_
       rotate_left 3
       refine a2 6 21 ?_ ?_
       rotate_left 2
       refine a2 6 22 ?_ ?_
       rotate_left 2
       refine a1 6 ?_
       rotate_left 1
       all_goals
        first
        |(show pz _ _ _ _ _ _ _ 6 _ _
          dsimp only;refine oO (λK hK=>?_);go_simp;refine(Z F1 W hC).mono ?_;rintro e W2 ⟨rfl,jG,sH⟩;refine hK.out _ _ ⟨jG.vk,?_⟩;clear hK K;exact Z st2 k m W2 _ _ _ t0 t1 t2 b0 b1 b2 hk O jG (z0.vk sH) (z1.vk sH) (z2.vk sH) d0 d1 d2)
        |(show pz _ _ _ _ _ _ _ 20 _ _
          dsimp only;refine oO (λK hK=>?_);have jG:=hC.grow Gj (an1 W (.cells #[A 0,.bool false] 207) none);go_simp;refine hK.out _ _ ⟨jG.vk,?_⟩;clear hK K;exact ih _ (by simp[cn]at hk ⊢;omega) m _ _ _ _ (Aa W.heap.size 0) t1 t2 W.heap.size b1 b2 rfl (by simp[cn]at hk ⊢;omega) jG (ZL.new hC.size) (z1.al _) (z2.al _) z1.dn z2.dn d2)
        |(show pz _ _ _ _ _ _ _ 21 _ _
          dsimp only;refine oO (λK hK=>?_);have jG:=hC.grow Gj (an1 W (.cells #[A 0,.bool false] 207) none);go_simp;refine hK.out _ _ ⟨jG.vk,?_⟩;clear hK K;exact ih _ (by simp[cn]at hk ⊢;omega) m _ _ _ _ t0 (Aa W.heap.size 0) t2 b0 W.heap.size b2 rfl (by simp[cn]at hk ⊢;omega) jG (z0.al _) (ZL.new hC.size) (z2.al _) z0.nd d1 z2.dn)
        |(show pz _ _ _ _ _ _ _ 22 _ _
          dsimp only;refine oO (λK hK=>?_);have jG:=hC.grow Gj (an1 W (.cells #[A 0,.bool false] 207) none);go_simp;refine hK.out _ _ ⟨jG.vk,?_⟩;clear hK K;exact ih _ (by simp[cn]at hk ⊢;omega) m _ _ _ _ t0 t1 (Aa W.heap.size 0) b0 b1 W.heap.size rfl (by simp[cn]at hk ⊢;omega) jG (z0.al _) (z1.al _) (ZL.new hC.size) d0 z0.nd z1.nd)
      have st0:Hid (∀k n W l0 l1 l2 t0 t1 t2 b0 b1 b2,cn l0+cn l1+cn l2=k->k+8<=n->IE V n0 lb BU BS f dom X aY ak h2 Us W->ZL V W l0 t0 b0->ZL V W l1 t1 b1->ZL V W l2 t2 b2->ZD l0 l1 b0 b1->ZD l0 l2 b0 b2->ZD l1 l2 b1 b2->wpAnyH prog .any ops Q1 (λW'=>VK V W') n (lst false false false false false l0 l1 l2) (frm t0 t1 t2 u37 u38 u39 u45 u51) W):=by
       intro k
       induction k using Nat.strongRecOn with
       |ind k ih=>
       intro n W l0 l1 l2 t0 t1 t2 b0 b1 b2 hk hn hC z0 z1 z2 d0 d1 d2;obtain⟨m,rfl⟩:∃m,n=m+1:=⟨n-1,O⟩;subst JE Tj SQ;cases l0<;>cases l1<;>cases l2;refine a4 5 20 21 22 ?_ ?_ ?_ ?_
       rotate_left 4
       refine a3 5 20 21 ?_ ?_ ?_
       rotate_left 3
       refine a3 5 20 22 ?_ ?_ ?_
       rotate_left 3
       refine a2 5 20 ?_ ?_
       rotate_left 2
       refine a3 5 21 22 ?_ ?_ ?_
       rotate_left 3
       refine a2 5 21 ?_ ?_
       rotate_left 2
       refine a2 5 22 ?_ ?_
       rotate_left 2
       refine a1 5 ?_
       rotate_left 1
       all_goals
        first
        |(show pz _ _ _ _ _ _ _ 5 _ _
          dsimp only;refine oO (λK hK=>?_);go_simp;refine(Z F0 W hC).mono ?_;rintro e W2 ⟨rfl,jG,sH⟩;refine hK.out _ _ ⟨jG.vk,?_⟩;clear hK K;exact Z st1 k m W2 _ _ _ t0 t1 t2 b0 b1 b2 hk O jG (z0.vk sH) (z1.vk sH) (z2.vk sH) d0 d1 d2)
        |(show pz _ _ _ _ _ _ _ 20 _ _
          dsimp only;refine oO (λK hK=>?_);have jG:=hC.grow Gj (an1 W (.cells #[A 0,.bool false] 207) none);go_simp;refine hK.out _ _ ⟨jG.vk,?_⟩;clear hK K;exact ih _ (by simp[cn]at hk ⊢;omega) m _ _ _ _ (Aa W.heap.size 0) t1 t2 W.heap.size b1 b2 rfl (by simp[cn]at hk ⊢;omega) jG (ZL.new hC.size) (z1.al _) (z2.al _) z1.dn z2.dn d2)
        |(show pz _ _ _ _ _ _ _ 21 _ _
          dsimp only;refine oO (λK hK=>?_);have jG:=hC.grow Gj (an1 W (.cells #[A 0,.bool false] 207) none);go_simp;refine hK.out _ _ ⟨jG.vk,?_⟩;clear hK K;exact ih _ (by simp[cn]at hk ⊢;omega) m _ _ _ _ t0 (Aa W.heap.size 0) t2 b0 W.heap.size b2 rfl (by simp[cn]at hk ⊢;omega) jG (z0.al _) (ZL.new hC.size) (z2.al _) z0.nd d1 z2.dn)
        |(show pz _ _ _ _ _ _ _ 22 _ _
          dsimp only;refine oO (λK hK=>?_);have jG:=hC.grow Gj (an1 W (.cells #[A 0,.bool false] 207) none);go_simp;refine hK.out _ _ ⟨jG.vk,?_⟩;clear hK K;exact ih _ (by simp[cn]at hk ⊢;omega) m _ _ _ _ t0 t1 (Aa W.heap.size 0) b0 b1 W.heap.size rfl (by simp[cn]at hk ⊢;omega) jG (z0.al _) (z1.al _) (ZL.new hC.size) d0 z0.nd z1.nd)
      subst JE Tj SQ;exact Z st0 3 11 V false false false _ _ _ 0 0 0 rfl O AX (λe=>by cases e) (λe=>by cases e) (λe=>by cases e) (λe=>by cases e) (λe=>by cases e) (λe=>by cases e)
     ·rw[an8 JJ,av7]at gB
      go_wp2_with fail
      exact⟨⟨b+1,Yw,by go_num,Z gB _ (Z HE1),Z B51⟩,by simp[intOf];omega⟩
    ·have qK:b=a:=O;subst qK;have JR:¬(b:Int)<(b:Int):=O;have HN:=F (iE (λa=>(List.range a).flatMap λb=>H9 f cs a b) b);have UO:=F hE;clear hE
     go_wp2_with fail
     refine⟨⟨b+1,hlt,by go_num,?_⟩,by simp[intOf];omega⟩;rw[Z HN,<-at1];exact Z UO
  ·have haa:a=cs.length:=O;subst haa;have iF:¬(cs.length:Int)<(cs.length:Int):=O;have UO:=F hE;clear hE
   go_wp2_with fail
   go_end0
   exact⟨⟨_,rfl⟩,Z UO⟩
end Go.Proofs.YthcppbmkacbbiabGreat
