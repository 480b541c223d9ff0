import Derived.Test.YthcppbmkacbbiabGreatVBG
import Derived.Test.YthcppbmkacbbiabGreatVAZ
set_option linter.unusedSimpArgs false
set_option maxHeartbeats 8000000
set_option maxRecDepth 100000
namespace Go.Proofs.YthcppbmkacbbiabGreat
open Go.Proofs.Tryz
section
open Sat (View Rule og dN)
open au (Key put tV gV jn aB bJ fQ jD)
def eqs(said:List dw):List (Nat×Nat):=(said.filter λl=>l.2&&decide (l.1.1=61)).map λl=>l.1.2
def cZ(said:List dw):Nat->Nat:=lY id (eqs said)
theorem Ie{said:List dw}{p:Nat×Nat}:p∈eqs said↔((61,p),true)∈said:=by
 unfold eqs;rw[ap6];constructor
 ·rintro⟨l,hl,rfl⟩;obtain⟨I,M⟩:=as6.1 hl;simp at M;obtain⟨⟨c,q⟩,b⟩:=l;simp at M;obtain⟨rfl,rfl⟩:=M;exact I
 ·intro h;exact⟨_,as6.2 ⟨h,R⟩,rfl⟩
structure Closed(Y:Ai)(f f':Nat->Nat):Prop where
 roots:lX f' Y.length
 Ue:GI f' Y
 ker:∀a b,f a=f b->f' a=f' b
 least:∀anc:Nat->Nat->Prop,Eqv anc->Y8 anc Y->(∀a b,a<Y.length->b<Y.length->f a=f b->anc a b)->∀a b,a<Y.length->b<Y.length->f' a=f' b->anc a b
def cb(f':Nat->Nat)(cs:Ah)(said:List dw):Prop:=
 (∀l∈said,l.1.1=61->l.2=false->f' l.1.2.1≠f' l.1.2.2)/\
 (∀l∈said,∀m∈said,l.1.1≠61->m.1.1≠61->l.1.1=m.1.1->f' (cs.getD l.1.2.1 (0,0)).2=f' (cs.getD m.1.2.1 (0,0)).2->l.2=m.2)
def amd(g:Nat->Nat)(hl:List Bool)(said:List dw):Prop:=
 ∀l∈said,(l.1.1=61->(g l.1.2.1=g l.1.2.2↔l.2=true))/\(l.1.1≠61->hl.getD l.1.2.1 false=l.2)
def wU(Y:Ai)(cs:Ah)(said:List dw):Prop:=
 ∀l∈said,(l.1.1=61/\l.1.2.1<Y.length/\l.1.2.2<Y.length)\/((l.1.1=80\/l.1.1=81)/\∃h:l.1.2.1<cs.length,cs[l.1.2.1].1=l.1.1)
theorem aeg{Y:Ai}{cs:Ah}{said:List dw}{f' g:Nat->Nat}{hl:List Bool}(hs:wU Y cs said)(hc:Closed Y (cZ said) f')(vC:∀x∈cs,(x.1=80\/x.1=81)/\x.2<Y.length)
 (hg:GI g Y)(ha:afU g cs hl)(h:amd g hl said):cb f' cs said:=by
 have hle:=hc.least (λa b=>g a=g b) (Pz g) ((qM g Y).1 hg) (λa b I M e=>by
  refine OQ (Pz g) (l:=eqs said) (f:=id) (λp hp=>?_) (λx y _ _ e=>by rw[show x=y from e]) a b I M e;have hm:=Ie.1 hp;have hb:p.1<Y.length/\p.2<Y.length:=by
   obtain⟨_,q1,q2⟩|⟨q,_⟩:=hs _ hm
   ·exact⟨q1,q2⟩
   ·simp at q
  exact⟨hb.1,hb.2,((h _ hm).1 rfl).2 rfl⟩)
 refine⟨λl Ij jP hf e=>?_,λl Ij m hm jP WJ JJ e=>?_⟩
 ·obtain⟨_,q1,q2⟩|⟨q,_⟩:=hs l Ij
  ·have:=((h l Ij).1 jP).1 (hle _ _ q1 q2 e);rw[hf]at this;cases this
  ·omega
 ·obtain⟨q,_⟩|⟨_,p1,p2⟩:=hs l Ij
  ·exact absurd q jP
  ·obtain⟨q,_⟩|⟨_,r1,r2⟩:=hs m hm
   ·exact absurd q WJ
   ·rw[aU p1,aU r1]at e;have:=ha _ _ p1 r1 (by rw[p2,r2];exact JJ) (hle _ _ (vC _ (an5 p1)).2 (vC _ (an5 r1)).2 e);rw[<-(h l Ij).2 jP,<-(h m hm).2 WJ];exact this
theorem Ug{v:Key->Bool}{Y:Ai}{cs:Ah}{ps:Ai}{hl:List Bool}{said:List dw}{f':Nat->Nat}(hi:bJ Y.length cs.length ps)(hk:jD cs ps)(h0:0<ps.length)(vC:∀x∈cs,(x.1=80\/x.1=81)/\x.2<Y.length)
 (h:Hold v (tZ id ps))(aX:∀q∈ps,q.1=61\/q.1=80\/q.1=81->(q,v q)∈said)(hc:Closed Y (cZ said) f')(yP:cb f' cs said)(hh:∀c (h:c<cs.length),hl.getD c false=v (cs[c].1,c,0)):Om f' Y cs ps hl:=by
 refine UU hi hk h0 h hc.Ue (λi j pI nR e1 e2=>?_) (λq hq jP=>?_) hh
 ·rw[hh i pI,hh j nR];have a1:=vC _ (an5 pI);have b1:=vC _ (an5 nR);have m1:=aX _ (hk.has i pI) (Or.inr a1.1);have m2:=aX _ (hk.has j nR) (Or.inr b1.1);exact yP.2 _ m1 _ m2 (by show cs[i].1≠61;omega) (by show cs[j].1≠61;omega) e1 (by simp only;rw[aU pI,aU nR];exact e2)
 ·have hm:=aX q hq (Or.inl jP);constructor
  ·intro e;cases hv:v q
   ·rw[hv]at hm;exact absurd e (yP.1 _ hm jP rfl)
   ·rfl
  ·intro hv;rw[hv]at hm;have:q.2∈eqs said:=Ie.2 (by rw[<-jP];exact hm);exact hc.ker _ _ (Ju this)
end
section
open Go.RowKit Go.Maps Go.WideMaps
open Sat (View Rule og dN)
open au (Key put fQ aB bJ)
def yV(nt:Nat)(p:Key):Prop:=p.1=61->p.2.1<nt/\p.2.2<nt
def CJ(a:Nat)(d:Bool)(b:Nat)(q:Key):Key:=if q.1=61/\(q.2.1<a\/(q.2.1=a/\((d=true/\q.2.2=a)\/q.2.2<b)))then kF q else q
theorem yg{x y:Nat}(h:x<y):kF (61,x,y)=(61,x,y):=by
 unfold kF;simp only[av8];rw[an8 O,an8 O]
theorem Df{x y:Nat}(h:y<x):kF (61,x,y)=(61,y,x):=by
 unfold kF;simp only[av8];rw[an8 O,ao4 h]
theorem yh(x:Nat):kF (61,x,x)=(61,0,0):=by simp[kF]
theorem Nb(q:Key):CJ 0 false 0 q=q:=by
 unfold CJ;rw[an8];rintro⟨_,h|⟨_,h|h⟩⟩
 ·omega
 ·simp at h
 ·omega
theorem abP(a:Nat)(d:Bool)(b:Nat):CJ a d b (61,0,0)=(61,0,0):=by
 unfold CJ;split
 ·exact yh 0
 ·rfl
theorem abS(a:Nat):CJ a false 0 (61,a,a)=(61,a,a):=by
 unfold CJ;rw[an8];rintro⟨_,h|⟨_,h|h⟩⟩
 ·simp at h
 ·simp at h
 ·omega
theorem agz{a b:Nat}(d:Bool)(h:b<a)(c:Nat):CJ a d c (61,b,a)=(61,b,a):=by
 unfold CJ;split
 ·exact yg h
 ·rfl
theorem abR{a b:Nat}(h:b<a):CJ a true b (61,a,b)=(61,a,b):=by
 unfold CJ;rw[an8];rintro⟨_,I|⟨_,I|I⟩⟩
 ·simp at I
 ·simp at I;omega
 ·simp at I
theorem Zt(a:Nat)(q:Key):(if q=(61,a,a)then(61,0,0)else CJ a false 0 q)=CJ a true 0 q:=by
 obtain⟨c,x,y⟩:=q;by_cases e:(c,x,y)=((61,a,a):Key)
 ·rw[ao4 e];cases e;unfold CJ;rw[ao4 ⟨rfl,Or.inr ⟨rfl,Or.inl ⟨rfl,rfl⟩⟩⟩,yh]
 ·rw[an8 e];unfold CJ;by_cases h:c=61/\x<a
  ·rw[ao4 ⟨h.1,Or.inl h.2⟩,ao4 ⟨h.1,Or.inl h.2⟩]
  ·rw[an8,an8]
   ·rintro⟨I,M|⟨M,h3|h3⟩⟩
    ·exact h ⟨I,M⟩
    ·simp only at I M h3;exact e (by rw[I,M,h3.2])
    ·omega
   ·rintro⟨I,M|⟨M,h3|h3⟩⟩
    ·exact h ⟨I,M⟩
    ·simp at h3
    ·omega
theorem abQ(a b:Nat)(hb:b<a)(q:Key):(if q=(61,a,b)then(61,b,a)else CJ a true b q)=CJ a true (b+1) q:=by
 obtain⟨c,x,y⟩:=q;by_cases e:(c,x,y)=((61,a,b):Key)
 ·rw[ao4 e];cases e;unfold CJ;rw[ao4 ⟨rfl,Or.inr ⟨rfl,Or.inr (Nat.lt_succ_self _)⟩⟩,Df hb]
 ·rw[an8 e];unfold CJ;by_cases h:c=61/\(x<a\/(x=a/\((true=true/\y=a)\/y<b)))
  ·rw[ao4 h,ao4];refine⟨h.1,h.2.imp id (λg=>⟨g.1,g.2.imp id (λg2=>by show y<b+1;omega)⟩)⟩
  ·rw[an8 h,an8];rintro⟨I,M|⟨M,h3|h3⟩⟩
   ·exact h ⟨I,Or.inl M⟩
   ·exact h ⟨I,Or.inr ⟨M,Or.inl h3⟩⟩
   ·simp only at I M h3;by_cases hy:y=b
    ·exact e (by rw[I,M,hy])
    ·exact h ⟨I,Or.inr ⟨M,Or.inr (by show y<b;omega)⟩⟩
theorem aeI(a:Nat)(q:Key):CJ a true a q=CJ (a+1) false 0 q:=by
 obtain⟨c,x,y⟩:=q;unfold CJ;by_cases h:c=61/\x<a+1
 ·rw[ao4 (c:=_/\(x<a+1\/_)) ⟨h.1,Or.inl h.2⟩];by_cases M:c=61/\(x<a\/(x=a/\((true=true/\y=a)\/y<a)))
  ·rw[ao4 M]
  ·rw[an8 M];have hx:x=a:=by
    refine aq4 λhn=>M ⟨h.1,Or.inl ?_⟩
    show x<a
    have:=h.2;omega
   have hy:x<y:=by
    refine aq4 λhn=>M ⟨h.1,Or.inr ⟨hx,?_⟩⟩;by_cases e:y=a
    ·exact Or.inl ⟨rfl,e⟩
    ·right;show y<a;omega
   have:=h.1;rw[this,yg hy]
 ·rw[an8,an8]
  ·rintro⟨I,M|⟨_,h3|h3⟩⟩
   ·exact h ⟨I,M⟩
   ·simp at h3
   ·omega
  ·rintro⟨I,M|⟨M,_⟩⟩
   ·exact h ⟨I,by show x<a+1;simp only at M;omega⟩
   ·exact h ⟨I,by show x<a+1;simp only at M;omega⟩
theorem aeJ(n:Nat)(q:Key)(hq:yV n q):CJ n false 0 q=kF q:=by
 unfold CJ;by_cases h:q.1=61
 ·rw[ao4 ⟨h,Or.inl (hq h).1⟩]
 ·rw[an8 (λg=>h g.1),jl.other q h]
theorem LG.cls{n0:Nat}{w w':World}{lb BU BS:Nat}{f f':Key->Key}{dom:Key->Prop}{Us:Ai}{ak:List Rule}{X:Nat->Prop}(h:LG n0 w lb BU BS f dom Us ak X)(hg:w.grownBy w' (some BS))(hp:kL w' BS f' dom 500):LG n0 w' lb BU BS f' dom Us ak X:=by
 obtain⟨rv,I,M,h3⟩:=h.rv;exact⟨⟨rv,I.kept (hg.block lb I.lt (by simpa using I.Jj h.sm)),M.but (But.aC hg) (λk e=>by cases e;exact h.sm.xG) (λk hk e=>M.v.Jj h.sm k hk (by cases e;rfl)),h3⟩,h.us.kept (hg.block BU h.us.lt (by simpa using h.ne)),hp,h.ne,h.lo⟩
theorem kL.le{w:World}{b c c':Nat}{f:Key->Key}{dom:Key->Prop}(h:kL w b f dom c)(hc:c<=c'):kL w b f dom c':=by
 obtain⟨D,nn,h0,I,M⟩:=h;exact⟨D,nn,O,I,M⟩
theorem kL.noC{w:World}{b c:Nat}{f:Key->Key}{dom:Key->Prop}(h:kL w b f dom c):∀cur t x,w.heap[b]?≠some (Obj.cells cur t x):=by
 obtain⟨D,nn,_,⟨es,c,I,_⟩,_⟩:=h;intro cur t x e;rw[I]at e;cases e
structure JI(w:World)(n0 lb BU BS:Nat)(nt:Nat)(Us:Ai)(ak:List Rule)(X:Nat->Prop)(a:Nat)(d:Bool)(b:Nat)(c:Nat)(W:World):Prop where
 lg:LG n0 W lb BU BS (CJ a d b) (yV nt) Us ak X
 p:kL W BS (CJ a d b) (yV nt) c
 below:Below n0 w W
 keep:VK w W
 size:w.heap.size<=W.heap.size
theorem JI.grow{w:World}{n0 lb BU BS nt:Nat}{Us:Ai}{ak:List Rule}{X:Nat->Prop}{a:Nat}{d:Bool}{b c:Nat}{W W':World}(h:JI w n0 lb BU BS nt Us ak X a d b c W)(hn:n0<=w.heap.size)(hg:W.grownBy W' none):JI w n0 lb BU BS nt Us ak X a d b c W':=
 ⟨h.lg.grow hg,h.p.kept (hg.block BS h.p.lt R),h.below.trans ((But.aC hg).below (ap3 hn h.size) (λk _ e=>by cases e)),h.keep.trans (VK.grown hg),ap3 h.size hg.size⟩
theorem JI.join{w:World}{n0 lb BU BS nt:Nat}{Us:Ai}{ak:List Rule}{X:Nat->Prop}{a:Nat}{d:Bool}{b c:Nat}{W W':World}(h:JI w n0 lb BU BS nt Us ak X a d b c W)(hn:n0<=w.heap.size)(hg:W.grownBy W' (some BS)){d':Bool}{b':Nat}(hp:kL W' BS (CJ a d' b') (yV nt) (c+1))(hc:c+1<=500):JI w n0 lb BU BS nt Us ak X a d' b' (c+1) W':=
 ⟨h.lg.cls hg (hp.le hc),hp,h.below.trans ((But.aC hg).below (ap3 hn h.size) (λk hk e=>by cases e;have:=h.lg.lo.2.2;omega)),h.keep.trans (VK.map hg h.p.noC),ap3 h.size hg.size⟩
theorem VF(X:Nat->Prop)(n0:Nat)(w:World)(lb BU BS nt:Nat)(Us:Ai)(ak:List Rule)(wM:LG n0 w lb BU BS id (yV nt) Us ak X)(hP:kL w BS id (yV nt) 0)(Bc:nt<=7)(hn:n0<=w.heap.size) :
  Calls prog 111 #[Aa lb 0,A nt] w λe w'=>(∃z,e=.returned z)/\LG n0 w' lb BU BS kF (yV nt) Us ak X/\Below n0 w w'/\VK w w'/\w.heap.size<=w'.heap.size:=by
 have hJ0:JI w n0 lb BU BS nt Us ak X 0 false 0 0 w:=⟨wM.cls (as8 _ _) ((hP.congr (λk _=>(Nb k).symm)).le O),hP.congr (λk _=>(Nb k).symm),aq1 _ _,VK.refl _,an2 _⟩;have HJ0:=F hJ0
 go_in
 go_wp2_with fail
 go_loopw [7] (λi wr=>∃a c:Nat,a<=nt/\c<=a*8/\i=A a/\JI w n0 lb BU BS nt Us ak X a false 0 c wr) (λi _=>nt-(intOf i).toNat)
 case atStart=>exact⟨0,0,ap7 _,an2 _,rfl,Z HJ0⟩
 case round=>
  obtain⟨a,c,ha,hc8,rfl,hJ⟩:=hrel;by_cases hlt:a<nt
  ·have iF:(a:Int)<(nt:Int):=O;obtain⟨rv,hL,_,_⟩:=hJ.lg.rv;have c1:=hL.cells.2.1;have GV:=hL.lt;have bg:lb≠BS:=hL.Jj hJ.lg.sm;have HJ:=F hJ;have YH:=hJ.p.lt
   go_wp2_with fail
   obtain⟨V,O8⟩:∃V,wr.drew=V:=⟨_,rfl⟩;have Gl:wr.grownBy V none:=(by rw[<-O8];exact⟨rfl,rfl,rfl,an2 _,λ_ _ _=>rfl⟩);refine aq8 (S:=λW'=>V.grownBy W' (some BS)) rfl ?_;have aA:V.grownBy V (some BS):=as8 _ _;simp only[ao5,ao1,ap0,Nat.reduceAdd,an7,an6,ao6,ao8,ao7];change wpAnyH prog .any _ _ _ _ _ _ wr.drew;rw[O8];have c1V:=Gl.cell c1 R;have NR:(some lb:Option Nat)≠some BS:=(by simpa using bg);have hJV:=(Z HJ).grow hn Gl;refine dF 0 (Aa lb 0) aA ?_
   simp only[aF];refine dF 1 (Aa lb 0) aA ?_
   simp only[aF];refine dF 2 (Aa lb 1) aA ?_
   simp only[aF];refine tH 3 (.map (some BS)) (λw' hS=>?_) aA ?_
   ·have q:=hS.cell c1V NR;go_simp
   simp only[aF];refine dF 5 (A a) aA ?_
   simp only[aF];refine dF 6 (A a) aA ?_
   simp only[aF];have he0:=lD 0 0 V;simp only[Int.natCast_zero]at he0;refine oH 4 (λK hK=>?_);go_simp;refine(he0).mono ?_;rintro e w1 ⟨rfl,bG⟩;replace aA:=aA.trans (bG.but (some BS));refine hK.out _ _ aA ?_;refine oH 7 (λK hK=>?_);go_simp;refine(lD a a w1).mono ?_;rintro e w2 ⟨rfl,dh⟩;replace aA:=aA.trans (dh.but (some BS));refine hK.out _ _ aA ?_;have JW:=(hJV.grow hn bG).grow hn dh;have hjp:=ND w2 BS c (CJ a false 0) (yV nt) (61,0,0) (61,a,a) JW.p O (λ_=>⟨by show 0<nt;omega,by show 0<nt;omega⟩) (λ_=>⟨hlt,hlt⟩) (abP _ _ _) (abS a) ⟨R,R,R⟩ ⟨R,by show a<=1000;omega,by show a<=1000;omega⟩;simp only[bZ,Int.natCast_zero]at hjp;refine oH 8 (λK hK=>?_);go_simp;refine(hjp).mono ?_;rintro e w3 ⟨⟨z3,rfl⟩,dY,hP3⟩;refine hK.out _ _ (aA.trans dY) (ar2 (by kernel_rfl) ?_ _);have xM:=JW.join (d':=true) (b':=0) hn dY (hP3.congr (λk _=>Zt a k)) O;have HJ3:=F xM
   go_wp2_with fail
   go_loopw [20] (λi wq=>∃b c':Nat,b<=a/\c'<=a*8+1+b/\i=A b/\JI w n0 lb BU BS nt Us ak X a true b c' wq) (λi _=>a-(intOf i).toNat)
   case atStart=>exact⟨0,c+1,ap7 _,O,rfl,Z HJ3⟩
   case round=>
    obtain⟨b,c',hb,hc9,rfl,hJ⟩:=hrel;by_cases Yw:b<a
    ·have JR:(b:Int)<(a:Int):=O;obtain⟨rv,hL,_,_⟩:=hJ.lg.rv;have c1:=hL.cells.2.1;have GV:=hL.lt;have bg:lb≠BS:=hL.Jj hJ.lg.sm;have HJ:=F hJ;have YH:=hJ.p.lt
     go_wp2_with fail
     obtain⟨V,O8⟩:∃V,wr.drew=V:=⟨_,rfl⟩;have Gl:wr.grownBy V none:=(by rw[<-O8];exact⟨rfl,rfl,rfl,an2 _,λ_ _ _=>rfl⟩);refine aq8 (S:=λW'=>V.grownBy W' (some BS)) rfl ?_;have aA:V.grownBy V (some BS):=as8 _ _;simp only[ao5,ao1,ap0,Nat.reduceAdd,an7,an6,ao6,ao8,ao7];change wpAnyH prog .any _ _ _ _ _ _ wr.drew;rw[O8];have c1V:=Gl.cell c1 R;have NR:(some lb:Option Nat)≠some BS:=(by simpa using bg);have hJV:=(Z HJ).grow hn Gl;refine dF 0 (Aa lb 0) aA ?_
     simp only[aF];refine dF 1 (Aa lb 0) aA ?_
     simp only[aF];refine dF 2 (Aa lb 1) aA ?_
     simp only[aF];refine tH 3 (.map (some BS)) (λw' hS=>?_) aA ?_
     ·have q:=hS.cell c1V NR;go_simp
     simp only[aF];refine dF 4 (A b) aA ?_
     simp only[aF];refine dF 5 (A a) aA ?_
     simp only[aF];refine dF 7 (A a) aA ?_
     simp only[aF];refine dF 8 (A b) aA ?_
     simp only[aF];refine oH 6 (λK hK=>?_);go_simp;refine(lD b a V).mono ?_;rintro e w1 ⟨rfl,bG⟩;replace aA:=aA.trans (bG.but (some BS));refine hK.out _ _ aA ?_;refine oH 9 (λK hK=>?_);go_simp;refine(lD a b w1).mono ?_;rintro e w2 ⟨rfl,dh⟩;replace aA:=aA.trans (dh.but (some BS));refine hK.out _ _ aA ?_;have JW:=(hJV.grow hn bG).grow hn dh;have hjp:=ND w2 BS c' (CJ a true b) (yV nt) (61,b,a) (61,a,b) JW.p O (λ_=>⟨by show b<nt;omega,hlt⟩) (λ_=>⟨hlt,by show b<nt;omega⟩) (agz true Yw b) (abR Yw) ⟨R,by show b<=1000;omega,by show a<=1000;omega⟩ ⟨R,by show a<=1000;omega,by show b<=1000;omega⟩;simp only[bZ]at hjp;refine oH 10 (λK hK=>?_);go_simp;refine(hjp).mono ?_;rintro e w3 ⟨⟨z3,rfl⟩,dY,hP3⟩;refine hK.out _ _ (aA.trans dY) (ar2 (by kernel_rfl) ?_ _);have xM:=JW.join (d':=true) (b':=b+1) hn dY (hP3.congr (λk _=>abQ a b Yw k)) O;have HJ3:=F xM
     go_wp2_with fail
     exact⟨⟨b+1,c'+1,Yw,O,by go_num,Z HJ3⟩,by simp[intOf];omega⟩
    ·have qK:b=a:=O;subst qK;have JR:¬(b:Int)<(b:Int):=O;have JW:JI w n0 lb BU BS nt Us ak X (b+1) false 0 c' wr:=by
      have e:CJ b true b=CJ (b+1) false 0:=funext (aeI b);exact⟨by rw[<-e];exact hJ.lg,by rw[<-e];exact hJ.p,hJ.below,hJ.keep,hJ.size⟩
     have HJ2:=F JW
     go_wp2_with fail
     exact⟨⟨b+1,c',hlt,O,by go_num,Z HJ2⟩,by simp[intOf];omega⟩
  ·have haa:a=nt:=O;subst haa;have iF:¬(a:Int)<(a:Int):=O;have hLF:LG n0 wr lb BU BS kF (yV a) Us ak X:=hJ.lg.cls (as8 _ _) (hJ.lg.sm.congr (λk hk=>aeJ a k hk));have Q1:=F hLF;have Q2:=F hJ
   go_wp2_with fail
   go_end0
   exact⟨⟨_,rfl⟩,Z Q1,(Z Q2).below,(Z Q2).keep,(Z Q2).size⟩
end
section
open Go.RowKit
theorem FB(m:Option Nat)(w:World):Calls prog 60 #[.map m] w λe w'=>e=.returned (.slice none 0 0)/\w'=w:=by
 go_in
 go_wp2_with fail
 go_ret
 exact⟨rfl,rfl⟩
end
section
open Go.RowKit
open au (St put)
theorem Dt(E:Int)(w:World):Calls prog 38 #[A E] w λe w'=>e=.returned (A E)/\w'=w:=by
 go_in
 go_wp2_with fail
 go_ret
 exact⟨rfl,rfl⟩
theorem Rk(w:World)(n:Int)(s t:ByteArray)(hm:s.size<=maxLen) :
  Calls prog 22 #[.agg #[A 1,A n,.string s,.string t]] w λe w'=>e=.returned (.bool true)/\Ag w w':=by
 have H1:=F (λw=>check_any w s hm);have H2:=F (λw=>XC w s hm);rw[qU]at H2;generalize chk s=c at H1 H2;obtain⟨E,p⟩:=c
 go_in
 go_wp2_with fail
 refine((Z H1) _).mono ?_;rintro e w1 ⟨rfl,b1⟩;have hlt:w.heap.size<(w.alloc (.cells #[A 1,A n,.string s,.string t] 61)).heap.size:=R
 have x0:w1.cell? (J w.heap.size 2)=some (.string s):=by rw[b1.cell hlt];exact az4 _ _ _ _ rfl
 go_wp2_with fail
 refine((Z H2) _).mono ?_;rintro e w2 ⟨rfl,b2⟩
 go_wp2_with fail
 refine(Dt _ _).mono ?_;rintro e w3 ⟨rfl,rfl⟩
 go_wp2_with fail
 go_ret
 refine⟨rfl,?_⟩;have eH:=b1.size;exact(((aq1 w.heap.size w).alloc (an2 _) _).trans (b1.mono R)).trans (b2.mono (by simp at eH;omega))
end
section
open au (put jB jA)
theorem JL:∀l:List UInt8,jA l=if bits (l.map (·==49))=l then some (l.map (·==49))else none
 |[]=>by simp[jA,bits]
 |c::r=>by
  have ih:=JL r;simp only[jA];by_cases h:c≠48/\c≠49
  ·rw[ao4 h,an8];intro e;simp only[bits,ay3,List.cons.injEq]at e;have e1:=e.1;have M:(c==49)=false:=ay1.2 h.2;rw[M]at e1;exact h.1 e1.symm
  ·rw[an8 h,ih];have hc:(if (c==49)=true then(49:UInt8)else 48)=c:=by
    by_cases M:c=49
    ·subst M;rfl
    ·have h3:c=48:=aq4 λh3=>h ⟨h3,M⟩;subst h3;rfl
   by_cases hb:bits (r.map (·==49))=r
   ·rw[ao4 hb,ao4]
    ·simp;by_cases M:c=49
     ·subst M;rfl
     ·simp[M]
    ·simp only[bits,ay3,List.cons.injEq];exact⟨hc,hb⟩
   ·rw[an8 hb,an8]
    ·rfl
    ·intro e;simp only[bits,ay3,List.cons.injEq]at e;exact hb e.2
theorem SV(s:ByteArray)(n c:Nat)(h:s.size=n+1+c):hlo s n c=(s.data.toList.drop (n+1)).map (·==49):=by
 have hl:s.data.toList.length=s.size:=R
 refine List.ext_getElem ?_ ?_
 ·simp only[hlo,au3,aB5,List.length_drop];omega
 ·intro i I M;have h3:n+1+i<s.data.toList.length:=by simp only[hlo,au3,aB5]at I;omega
  simp only[hlo,ax5,List.getElem_range,List.getElem_drop];rw[ao0,an3 h3];rfl
structure Can(keys:List UInt8)(k:Nat):Prop where
 eq:xu (fi keys) k=keys.take k
 all:∀v,v<(nums (fi keys) k).length->∃j,∃_:j<keys.length,j<k/\keys[j].toNat=48+v
 lt:∀j (_:j<keys.length),j<k->48<=keys[j].toNat/\keys[j].toNat<48+(nums (fi keys) k).length
theorem acI{l:List Nat}{x y:Nat}:y∈put l x↔y∈l\/y=x:=by
 unfold put;split
 ·rename_i h;have I:x∈l:=by simpa using h
  constructor
  ·exact .inl
  ·rintro(M|rfl)
   ·exact M
   ·exact I
 ·simp
theorem jw(f:Nat->Nat):∀(k x:Nat),x∈nums f k↔∃j,j<k/\f j=x
 |0,x=>by simp[nums]
 |k+1,x=>by
  unfold nums;rw[acI,jw f k x];constructor
  ·rintro(⟨j,I,M⟩|rfl)
   ·exact⟨j,O,M⟩
   ·exact⟨k,O,rfl⟩
  ·rintro⟨j,I,M⟩;by_cases e:j=k
   ·subst e;exact .inr M.symm
   ·exact .inl ⟨j,O,M⟩
theorem X7{l:List Nat}{x y:Nat}(h:y∈l):(put l x).idxOf y=l.idxOf y:=by
 unfold put;split
 ·rfl
 ·rw[aw0,ao4 h]
theorem aeR{l:List Nat}{x:Nat}:(put l x).idxOf x=l.idxOf x:=by
 by_cases h:x∈l
 ·exact X7 h
 ·have M:put l x=l++[x]:=by unfold put;rw[an8 (by simpa using h)]
  rw[M,as3 h,aw0,an8 h];simp
theorem uw(f:Nat->Nat)(j:Nat):∀k,j<k->(nums f k).idxOf (f j)=(nums f j).idxOf (f j)
 |0,h=>O
 |k+1,h=>by
  show(put (nums f k) (f k)).idxOf (f j)=_
  by_cases e:j=k
  ·subst e;exact aeR
  ·rw[X7 ((jw f k _).2 ⟨j,O,rfl⟩)];exact uw f j k O
theorem aef(keys:List UInt8):Can keys 0:=⟨by simp[xu],λv h=>by simp[nums]at h,λj _ h=>O⟩
theorem PL(f:Nat->Nat)(k j:Nat)(h:j<k):(xu f k)[j]?=some (UInt8.ofNat (48+(nums f j).idxOf (f j))):=by simp[xu,h]
theorem Can.old{keys:List UInt8}{k j:Nat}(h:Can keys k)(hk:k<keys.length)(hj:j<k)(he:keys[j]'O=keys[k]):Can keys (k+1)/\nums (fi keys) (k+1)=nums (fi keys) k:=by
 have hf:fi keys k=fi keys j:=(Gt hk O).2 he.symm;have hm:fi keys k∈nums (fi keys) k:=(jw _ _ _).2 ⟨j,hj,hf.symm⟩;have hn:nums (fi keys) (k+1)=nums (fi keys) k:=by
  show put (nums (fi keys) k) (fi keys k)=_
  unfold put;rw[ao4 (by simpa using hm)]
 refine⟨⟨?_,?_,?_⟩,hn⟩
 ·rw[Kr,h.eq,aq3,an3 hk,<-he];have I:=PL (fi keys) k j hj;rw[h.eq,av5,ao4 hj,an3 O]at I;rw[at7 I,hf,uw _ _ _ hj];rfl
 ·intro v hv;rw[hn]at hv;obtain⟨i,I,M,h3⟩:=h.all v hv;exact⟨i,I,O,h3⟩
 ·intro i I M;rw[hn];by_cases e:i=k
  ·subst e;rw[<-he];exact h.lt j O hj
  ·exact h.lt i I O
theorem Y0{keys:List UInt8}{k:Nat}(hk:k<keys.length)(hj:¬∃j,∃hj:j<k,keys[j]'O=keys[k]):(nums (fi keys) k).idxOf (fi keys k)=(nums (fi keys) k).length/\(nums (fi keys) (k+1)).length=(nums (fi keys) k).length+1:=by
 have Lh:fi keys k∉nums (fi keys) k:=λhm=>by
  obtain⟨j,I,M⟩:=(jw _ _ _).1 hm;exact hj ⟨j,I,(Gt O hk).1 M⟩
 refine⟨as3 Lh,?_⟩
 show(put (nums (fi keys) k) (fi keys k)).length=_
 unfold put;rw[an8 (by simpa using Lh)];simp
theorem Can.next{keys:List UInt8}{k:Nat}(h:Can keys k)(hk:k<keys.length)(hj:¬∃j,∃hj:j<k,keys[j]'O=keys[k])(hc:keys[k].toNat=48+(nums (fi keys) k).length):Can keys (k+1):=by
 obtain⟨I,M⟩:=Y0 hk hj;refine⟨?_,?_,?_⟩
 ·rw[Kr,h.eq,aq3,an3 hk,I,<-hc];simp
 ·intro v hv;rw[M]at hv;by_cases e:v=(nums (fi keys) k).length
  ·subst e;exact⟨k,hk,O,hc⟩
  ·obtain⟨i,q1,q2,q3⟩:=h.all v O;exact⟨i,q1,O,q3⟩
 ·intro i q1 q2;rw[M];by_cases e:i=k
  ·subst e;omega
  ·have:=h.lt i q1 O;omega
theorem abE{a b:UInt8}(h:a.toNat=b.toNat):a=b:=UInt8.toNat.inj h
theorem Kv(keys:List UInt8)(hl:keys.length<=100):∀(n k:Nat),n+k=keys.length->Can keys k->jB (keys.drop k) (((nums (fi keys) k).length:Int)-1)=if xu (fi keys) keys.length=keys then some ((keys.drop k).map λc=>(c.toNat:Int)-48)else none
 |0,k,hn,h=>by
  have hk:k=keys.length:=O
  subst hk;have I:=h.eq;rw[ar7]at I;rw[ao4 I,List.drop_length];rfl
 |n+1,k,hn,h=>by
  have hk:k<keys.length:=O
  have hnl:(nums (fi keys) k).length<=k:=nums_length _ _;rw[List.drop_eq_getElem_cons hk];simp only[jB];by_cases hj:∃j,∃hj:j<k,keys[j]'O=keys[k]
  ·obtain⟨j,hj,he⟩:=hj;obtain⟨I,M⟩:=h.old hk hj he;have h3:=h.lt j O hj;rw[he]at h3;rw[an8 O];have hm:max (((nums (fi keys) k).length:Int)-1) ((keys[k].toNat:Int)-48)=((nums (fi keys) (k+1)).length:Int)-1:=(by rw[M];omega);rw[hm,Kv keys hl n (k+1) O I];by_cases e:xu (fi keys) keys.length=keys
   ·rw[ao4 e,ao4 e];rfl
   ·rw[an8 e,an8 e];rfl
  ·obtain⟨I,M⟩:=Y0 hk hj;by_cases hc:keys[k].toNat=48+(nums (fi keys) k).length
   ·rw[an8 O];have hm:max (((nums (fi keys) k).length:Int)-1) ((keys[k].toNat:Int)-48)=((nums (fi keys) (k+1)).length:Int)-1:=(by rw[M];omega);rw[hm,Kv keys hl n (k+1) O (h.next hk hj hc)];by_cases e:xu (fi keys) keys.length=keys
    ·rw[ao4 e,ao4 e];rfl
    ·rw[an8 e,an8 e];rfl
   ·have bg:xu (fi keys) keys.length≠keys:=λe=>hc (by
     have h3:=PL (fi keys) keys.length k hk;rw[e,an3 hk,I]at h3;rw[at7 h3];simp;omega)
    rw[an8 bg];by_cases hd:(keys[k].toNat:Int)-48<0\/((nums (fi keys) k).length:Int)-1+1<(keys[k].toNat:Int)-48
    ·rw[ao4 hd]
    ·exfalso;obtain⟨j,q1,q2,q3⟩:=h.all (keys[k].toNat-48) O;exact hj ⟨j,q2,abE O⟩
theorem afA(keys:List UInt8)(hl:keys.length<=100):jB keys (-1)=if xu (fi keys) keys.length=keys then some (keys.map λc=>(c.toNat:Int)-48)else none:=by
 have h:=Kv keys hl keys.length 0 rfl (aef keys);simpa[nums]using h
theorem Ec(f:Nat->Nat)(k:Nat):(xu f k).length=k:=by simp[xu]
theorem ZK(m:ByteArray)(n c:Nat)(hn:n<=100)(hs:m.size=n+1+c):au.parse n c m.data.toList=if wrt (fi (m.data.toList.take n)) n (hlo m n c)=m.data.toList then some ((m.data.toList.take n).map λc=>(c.toNat:Int)-48,hlo m n c)else none:=by
 have hl:m.data.toList.length=n+1+c:=by rw[<-hs];simp
 rw[SV m n c hs];generalize m.data.toList=l at *;have qJ:(l.take n).length=n:=by rw[ar1];omega
 have hsp:l=l.take n++[l.getD n 0]++l.drop (n+1):=by
  have I:n<l.length:=O
  rw[ao0,an3 I];have M:=List.take_append_drop n l;rw[List.drop_eq_getElem_cons I]at M;simp
 have iy:=afA (l.take n) O;rw[qJ]at iy;have hho:=JL (l.drop (n+1));have key:wrt (fi (l.take n)) n ((l.drop (n+1)).map (·==49))=l↔xu (fi (l.take n)) n=l.take n/\l.getD n 0=47/\bits ((l.drop (n+1)).map (·==49))=l.drop (n+1):=by
  unfold wrt;constructor
  ·intro e;have e1:=e.trans hsp;rw[at1,at1]at e1;obtain⟨e2,e3⟩:=List.append_inj e1 (by rw[Ec,qJ]);obtain⟨e4,e5⟩:=List.append_inj e3 rfl;exact⟨e2,(List.cons.inj e4).1.symm,e5⟩
  ·rintro⟨e1,e2,e3⟩;rw[e1,e3,<-e2];exact hsp.symm
 unfold au.parse;by_cases h47:l.getD n 0=47
 ·rw[an8 (by rw[h47];simp[hl])];rw[iy,hho];by_cases I:xu (fi (l.take n)) n=l.take n
  ·rw[ao4 I];by_cases M:bits ((l.drop (n+1)).map (·==49))=l.drop (n+1)
   ·rw[ao4 M,ao4 (key.2 ⟨I,h47,M⟩)];rfl
   ·rw[an8 M,an8 (λe=>M (key.1 e).2.2)];rfl
  ·rw[an8 I,an8 (λe=>I (key.1 e).1)]
 ·rw[ao4 (Or.inr h47),an8 (λe=>h47 (key.1 e).2.1)]
end
section
open Go.RowKit
open au (St put cut jB jA)
theorem XA(w:World)(s m:ByteArray)(hm:s.size<=maxLen)(hE:(yA s).1≠0) :
  Calls prog 41 #[.string s,.string m] w λe w'=>e=.returned (.tuple #[.bool false,A (yA s).1])/\Ag w w':=by
 have HR:=F (λw=>Aj w s hm);generalize yA s=c at HR hE;have hb:(c.1 != 0)=true:=by simpa using hE
 go_in
 go_wp2_with fail
 refine((Z HR) _).mono ?_;rintro e w1 ⟨rfl,I⟩
 go_wp2_with fail
 go_ret2
 exact⟨rfl,I⟩
def OB(s m:ByteArray)(T C:List (List UInt8)):Bool×Int:=
 match au.parse T.length C.length m.data.toList with
 |none=>(false,6)
 |some (cl,hl)=>(snd T C cl hl&&Ou s cl hl,0)
theorem abn(w:World)(s m:ByteArray)(hs:s.size<=100)(hm:m.size<=maxLen)(τ:St)(HT:Hid (iV s=τ))(hE:τ.E=0)(hlt:¬τ.a<s.size)(h7:τ.T.length<=7)(h4:τ.C.length<=4)(hG:Y6 τ.T τ.C) :
  Calls prog 41 #[.string s,.string m] w λe w'=>e=.returned (.tuple #[.bool (OB s m τ.T τ.C).1,A (OB s m τ.T τ.C).2])/\Ag w w':=by
 have HR:=F (Eo w s hs τ HT hE hlt h7 h4);have HP:=F (fun(w1:World) (v4 v5:Value) c4 c5 r4 r5=>parse_any w1 w.heap.size m v4 v5 τ.T τ.C h7 h4 hm c4 c5 r4 r5);have HS:=F (fun(w1:World) (cl:List Int) (hl:List Bool) (k1 k2 v4 v5:Value) I M h=>IQ w1 w.heap.size τ.T τ.C cl hl k1 k2 v4 v5 hG h7 h4 I M h);have HV:=F (fun(w1:World) (cl:List Int) (hl:List Bool) (k1 k2:Value) I M h=>QC w1 s k1 k2 cl hl hs (by rw[Z HT];exact hE) (by rw[Z HT];exact I) (by rw[Z HT];exact M) h);obtain⟨r,hr⟩:∃r,OB s m τ.T τ.C=r:=⟨_,rfl⟩;rw[hr];have HRS:=F hr
 go_in
 go_wp2_with fail
 refine(Z HR).mono ?_;rintro e w1 ⟨rfl,I,hI⟩;obtain⟨v4,v5,c4,c5,r4,r5,_⟩:=hI.rows;have jL:=hI.lt;have R4:=F (fO r4 (ap7 _));have R5:=F (fO r5 (ap7 _))
 go_wp2_with fail
 refine(Z HP w1 v4 v5 c4 c5 (Z R4) (Z R5)).mono ?_;rintro e w2 ⟨M,a1,n1,e1,a2,n2,e2,ok,rfl,iq,hcs⟩;have fF:Below w.heap.size w w2:=I.trans ⟨M.os,M.tape,M.output,M.size,λj hj=>M.block j (by have:=I.size;omega)⟩;have d4:=(M.cell (p:=(J w.heap.size 4)) jL).trans c4;have d5:=(M.cell (p:=(J w.heap.size 5)) jL).trans c5;have dh:w1.grownBy w2 none:=⟨M.os,M.tape,M.output,M.size,λj hj _=>M.block j hj⟩;have Hg:=F hcs;cases hp:au.parse τ.T.length τ.C.length m.data.toList with
 |none=>
  rw[hp]at iq;simp only[Option.isSome]at iq;subst iq;have HPN:=F hp
  go_wp2_with fail
  go_ret2
  have hr:=Z HRS;unfold OB at hr;rw[Z HPN]at hr;exact⟨by rw[<-hr];rfl,fF.alloc fF.size _⟩
 |some x=>
  obtain⟨cl,hl⟩:=x;rw[hp]at iq;simp only[Option.isSome]at iq;subst iq;have hcs:=Z Hg cl hl hp;obtain⟨l1,l2,_⟩:=OH hp;have HPN:=F hp
  go_wp2_with fail
  obtain⟨w3,hw3⟩:∃w3,w2.alloc (.cells #[.slice a1 n1 e1,.slice a2 n2 e2] 166)=w3:=⟨_,rfl⟩;have h3:Below w2.heap.size w2 w3:=by rw[<-hw3];exact(aq1 _ _).alloc (an2 _) _
  have y0:w3.cell? (J w2.heap.size 0)=some (.slice a1 n1 e1):=by rw[<-hw3];simp[go_sem]
  have y1:w3.cell? (J w2.heap.size 1)=some (.slice a2 n2 e2):=by rw[<-hw3];simp[go_sem]
  have Aw:w2.heap.size<w3.heap.size:=by rw[<-hw3];simp
  rw[hw3];have dY:w1.grownBy w3 none:=dh.trans ⟨h3.os,h3.tape,h3.output,h3.size,λj hj _=>h3.block j hj⟩;have sG:w.heap.size<w2.heap.size:=ap2 jL M.size;have hSn:uX (w3.alloc (.cells #[.slice a1 n1 e1,.slice a2 n2 e2] 166)) w.heap.size w3.heap.size τ.T τ.C cl hl (.slice a1 n1 e1) (.slice a2 n2 e2) v4 v5:=by
   have mP:w1.grownBy (w3.alloc (.cells #[.slice a1 n1 e1,.slice a2 n2 e2] 166)) none:=dY.trans (an1 _ _ none);have sD:Below w2.heap.size w2 (w3.alloc (.cells #[.slice a1 n1 e1,.slice a2 n2 e2] 166)):=h3.alloc h3.size _;refine⟨mP.cell c4 R,mP.cell c5 R,by simp[go_sem],by simp[go_sem],(Z R4).kept mP (Classical.em _),(Z R5).kept mP (Classical.em _),(hcs.below sD).up O⟩
  refine(Z HS w3 cl hl (.slice a1 n1 e1) (.slice a2 n2 e2) v4 v5 O O hSn).mono ?_;rintro e w4 ⟨rfl,h4'⟩;have TB:Below w2.heap.size w2 w4:=h3.trans ⟨h4'.os,h4'.tape,h4'.output,h4'.size,λj hj=>h4'.block j O⟩;have y0':=(h4'.cell (p:=(J w2.heap.size 0)) Aw).trans y0;have y1':=(h4'.cell (p:=(J w2.heap.size 1)) Aw).trans y1;have alD:CS w4 w4.heap.size (.slice a1 n1 e1) (.slice a2 n2 e2) cl hl:=(hcs.below TB).up TB.size;have HV2:=F (Z HV w4 cl hl (.slice a1 n1 e1) (.slice a2 n2 e2) O O alD);have hr:=Z HRS;unfold OB at hr;rw[Z HPN]at hr;simp only at hr;have HR3:=F hr;generalize snd τ.T τ.C cl hl=q1 at HR3 ⊢;generalize Ou s cl hl=q2 at HR3 HV2
  go_wp2_with fail
  refine(Z HV2).mono ?_;rintro e w5 ⟨rfl,h5⟩;have AP:Below w.heap.size w w5:=(fF.trans ⟨TB.os,TB.tape,TB.output,TB.size,λj hj=>TB.block j O⟩).trans ⟨h5.os,h5.tape,h5.output,h5.size,λj hj=>h5.block j (by have:=TB.size;omega)⟩;cases q1
  ·go_wp2_with fail
   go_ret2
   exact⟨by rw[<-Z HR3];simp,AP⟩
  ·go_wp2_with fail
   go_ret2
   exact⟨by rw[<-Z HR3];simp,AP⟩
end
section
open Go.RowKit Go.Maps Go.WideMaps
open au (Key put St bJ gV)
theorem aaB(w:World)(s m:ByteArray)(hm:s.size<=maxLen)(hE:(chk s).1≠0) :
  Calls prog 14 #[.string s,.string m] w λe w'=>e=.returned (.tuple #[.bool false,A (chk s).1])/\Ag w w':=by
 have HR:=F (λw=>yx w s hm);generalize chk s=c at HR hE;have hb:(c.1 != 0)=true:=by simpa using hE
 go_in
 go_wp2_with fail
 refine((Z HR) _).mono ?_;rintro e w1 ⟨⟨p0,n0,c0,p1,n1,c1,p2,n2,c2,rfl⟩,I⟩
 go_wp2_with fail
 go_ret2
 exact⟨rfl,I.alloc I.size _⟩
def hld(m:ByteArray)(Y:Ai)(cs:Ah)(ps:Ai)(cl:List Int):Bool×Int:=
 if m.size=Y.length+1+cs.length/\wrt (fi (m.data.toList.take Y.length)) Y.length (hlo m Y.length cs.length)=m.data.toList then(isM (fi (m.data.toList.take Y.length)) Y cs ps cl (hlo m Y.length cs.length),0)else(false,6)
theorem ac9(w:World)(s m:ByteArray)(cl:List Int)(hs:s.size<=100)(Y:Ai)(cs:Ah)(ps:Ai)(mm:Nat)(HR:au.lG (pk s) (s.size+1) 0 0 [] [] []=.ok (s.size,Y,cs,ps,mm))(h7:Y.length<=7)(h4:cs.length<=4)(hi:au.Inv Y)(Bd:au.kD Y cs)
 (iL:cs.Nodup)(qj:au.bJ Y.length cs.length ps)(hp0:0<ps.length)(hp:ps.length<=100)(ahe:∀x∈cs,(x.1=80\/x.1=81)/\x.2<Y.length)
 (iy:m.size=Y.length+1+cs.length->∀i j,i<Y.length->j<Y.length->(fi (m.data.toList.take Y.length) i=fi (m.data.toList.take Y.length) j↔cl.getD i 0=cl.getD j 0)) :
  Calls prog 14 #[.string s,.string m] w λe w'=>e=.returned (.tuple #[.bool (hld m Y cs ps cl).1,A (hld m Y cs ps cl).2])/\Ag w w':=by
 have HO:=F (qR w s hs Y cs ps mm HR h7 h4 hi Bd iL qj hp);have Tf:(hlo m Y.length cs.length).length=cs.length:=by simp[hlo]
 have HM:Hid (m.size=Y.length+1+cs.length->∀(GT GC GP b H:Nat) (W:World),dS W GT Y->gZ W GC cs->dS W GP ps->gY W b (fi (m.data.toList.take Y.length)) Y.length 100->eP W H (hlo m Y.length cs.length)->
   Calls prog 21 #[fv GT GC GP Y.length cs.length ps.length,sv b H cs.length] W λe w'=>e=.returned (.bool (isM (fi (m.data.toList.take Y.length)) Y cs ps cl (hlo m Y.length cs.length)))/\Ag W w'):=λhe GT GC GP b H W r1 r2 r3 r4 r5=>by
  have lH:(m.data.toList.take Y.length).length=Y.length:=by
   have:m.data.toList.length=m.size:=R;rw[ar1];omega
  have h:=Sl GT GC GP b 100 H (fi (m.data.toList.take Y.length)) Y cs ps cl (hlo m Y.length cs.length) W h7 h4 hp0 hp Tf r1 r2 r3 hi ahe qj (λi hi=>⟨N9 _ i O,TV _ i O⟩) (iy he) r4 r5;rw[Tf]at h;exact h
 have MW:=F (fun(GT GC GP:Nat) (W:World) (he:m.size≠Y.length+1+cs.length)=>LQ GT GC GP Y.length cs.length ps.length m W h7 h4 he);have HS2:=F (fun(GT GC GP:Nat) (W:World) (he:m.size=Y.length+1+cs.length)=>Ov GT GC GP Y.length cs.length ps.length m W h7 h4 he);have amS:hld m Y cs ps cl=hld m Y cs ps cl:=rfl;unfold hld;generalize isM (fi (m.data.toList.take Y.length)) Y cs ps cl (hlo m Y.length cs.length)=bm at HM ⊢;generalize wrt (fi (m.data.toList.take Y.length)) Y.length (hlo m Y.length cs.length)=wt at HS2 ⊢;obtain⟨r,hr⟩:∃r:Bool×Int,(if m.size=Y.length+1+cs.length/\wt=m.data.toList then(bm,(0:Int))else(false,6))=r:=⟨_,rfl⟩;rw[hr];have HRS:=F hr;unfold fv at HO HM MW HS2;unfold sv at HM HS2
 go_in
 go_wp2_with fail
 refine(Z HO).mono ?_;rintro e w1 ⟨GT,GC,GP,rfl,I,NW⟩;have hT1:=vS NW.t;have hC1:=Hw NW.c;have hP1:=vS NW.p;have M1:=F hT1;have M2:=F hC1;have M3:=F hP1
 go_wp2_with fail
 obtain⟨w2,eu⟩:∃w2,w1.alloc (.cells #[Ac GT 0 Y.length Y.length,Ac GC 0 cs.length cs.length,Ac GP 0 ps.length ps.length] 46)=w2:=⟨_,rfl⟩;have Gq:Below w1.heap.size w1 w2:=by rw[<-eu];exact(aq1 w1.heap.size w1).alloc (an2 _) _
 have su:w2.heap.size=w1.heap.size+1:=by rw[<-eu];simp
 have q0:w2.cell? (J w1.heap.size 0)=some (Ac GT 0 Y.length Y.length):=by rw[<-eu];simp[go_sem]
 have q1:w2.cell? (J w1.heap.size 1)=some (Ac GC 0 cs.length cs.length):=by rw[<-eu];simp[go_sem]
 have q2:w2.cell? (J w1.heap.size 2)=some (Ac GP 0 ps.length ps.length):=by rw[<-eu];simp[go_sem]
 rw[eu];have fF:Below w.heap.size w w2:=I.trans ⟨Gq.os,Gq.tape,Gq.output,Gq.size,λj hj=>Gq.block j (by have:=I.size;omega)⟩;by_cases he:m.size=Y.length+1+cs.length
 ·refine(Z HS2 GT GC GP w2 he).mono ?_;rintro e w3 ⟨b,H,rfl,lb,lh,xg,hrh,h3⟩;have c0:=(h3.cell (p:=(J w1.heap.size 0)) (by show w1.heap.size<_;omega)).trans q0;have c1:=(h3.cell (p:=(J w1.heap.size 1)) (by show w1.heap.size<_;omega)).trans q1;have c2:=(h3.cell (p:=(J w1.heap.size 2)) (by show w1.heap.size<_;omega)).trans q2;have Aw:w1.heap.size<w3.heap.size:=by have:=h3.size;omega
  have CM:=F xg;have RH:=F hrh;have iR:Below w.heap.size w w3:=fF.trans ⟨h3.os,h3.tape,h3.output,h3.size,λj hj=>h3.block j (by have:=I.size;omega)⟩;have lM:=xg.lt;have lR:=hrh.1;by_cases hw:wt=m.data.toList
  ·have HW:=F hw;rw[ay5 hw]
   go_wp2_with fail
   have sD:Below w3.heap.size w3 (w3.alloc (.cells #[.map (some b),Ac H 0 cs.length cs.length] 56)):=(aq1 _ _).alloc (an2 _) _;have aS:∀j,j<w1.heap.size->(w3.alloc (.cells #[.map (some b),Ac H 0 cs.length cs.length] 56)).heap[j]?=w1.heap[j]?:=λj hj=>(sD.block j O).trans ((h3.block j O).trans (Gq.block j hj));refine(Z HM he GT GC GP b H _ ((Z M1).same (aS _ (Z M1).1)) ((Z M2).same (aS _ (Z M2).1)) ((Z M3).same (aS _ (Z M3).1)) ((Z CM).kept (sD.block _ lM)) ((Z RH).same (sD.block _ lR))).mono ?_;rintro e w5 ⟨rfl,h5⟩;have AP:Below w.heap.size w w5:=(iR.trans ⟨sD.os,sD.tape,sD.output,sD.size,λj hj=>sD.block j (by have:=I.size;omega)⟩).trans ⟨h5.os,h5.tape,h5.output,h5.size,λj hj=>h5.block j (by have:=I.size;simp;omega)⟩;have hr:=Z HRS;rw[ao4 ⟨he,Z HW⟩]at hr;have Bl:=F hr
   go_wp2_with fail
   go_ret2
   exact⟨by rw[<-Z Bl];rfl,AP⟩
  ·have HW:=F hw;rw[ax4 hw]
   go_wp2_with fail
   go_ret2
   have hr:=Z HRS;rw[an8 (λh=>Z HW h.2)]at hr;exact⟨by rw[<-hr];rfl,iR.alloc iR.size _⟩
 ·refine(Z MW GT GC GP w2 he).mono ?_;rintro e w3 ⟨rfl,h3⟩;have iR:Below w.heap.size w w3:=fF.trans ⟨h3.os,h3.tape,h3.output,h3.size,λj hj=>h3.block j (by have:=I.size;omega)⟩;have HE:=F he
  go_wp2_with fail
  go_ret2
  have hr:=Z HRS;rw[an8 (λh=>Z HE h.1)]at hr;exact⟨by rw[<-hr];rfl,iR.alloc iR.size _⟩
end
section
open au (Key Inv kD texts rend dH lQ Bal inn qg zL gV)
theorem Un{Y:Ai}{cs:Ah}(h:Inv Y)(hc:kD Y cs){cl:List Int}{hl:List Bool}{f:Nat->Nat}(iy:∀i j,i<Y.length->j<Y.length->(f i=f j↔cl.getD i 0=cl.getD j 0)){i k:Nat}(hi:i<cs.length)(hk:k<cs.length) :
  KD (texts Y) (ctx Y cs) cl hl i k=true↔(cs[i].1=cs[k].1/\f cs[i].2=f cs[k].2)/\hl.getD i false≠hl.getD k false:=by
 have b:∀x,x<Y.length->Bal ((texts Y).getD x []):=λx hx=>h.bal (x+1) x O hx;have e:∀j (hj:j<cs.length),(ctx Y cs).getD j []=UInt8.ofNat cs[j].1.toNat::40::((texts Y).getD cs[j].2 []++[41]):=λj hj=>by
  rw[ao0];simp[ctx,hj,dH]
 obtain⟨p1,p2⟩:=hc _ (an5 hi);obtain⟨q1,q2⟩:=hc _ (an5 hk);unfold KD;rw[e i hi,e k hk,qg (b _ p2),qg (b _ q2),PE h cl p2 q2,iy _ _ p2 q2];have hh:((UInt8.ofNat cs[i].1.toNat::40::((texts Y).getD cs[i].2 []++[41])).headD 0=(UInt8.ofNat cs[k].1.toNat::40::((texts Y).getD cs[k].2 []++[41])).headD 0)↔cs[i].1=cs[k].1:=by
  simp only[List.headD_cons];obtain p1|p1:=p1<;>obtain q1|q1:=q1<;>rw[p1,q1]<;>decide
 simp only[ax0,as7];rw[hh];constructor
 ·rintro⟨⟨a,b⟩,c⟩;exact⟨⟨a,c⟩,b⟩
 ·rintro⟨⟨a,c⟩,b⟩;exact⟨⟨a,b⟩,c⟩
theorem QO{Y:Ai}{cs:Ah}(h:Inv Y)(hc:kD Y cs){cl:List Int}{hl:List Bool}{f:Nat->Nat}(iy:∀i j,i<Y.length->j<Y.length->(f i=f j↔cl.getD i 0=cl.getD j 0)) :
  snd (texts Y) (ctx Y cs) cl hl=(decide (∀p∈bI (mkd f Y) Y.length,f p.1=f p.2)&&decide (∀p∈bI (BA f cs) cs.length,hl.getD p.1 false=hl.getD p.2 false)):=by
 have hA:=Dl (mkd f Y) (λi j=>f i=f j) (λ_=>rfl) (λ_ _ e=>e.symm) (λ_ _ _ e1 e2=>e1.trans e2);have hB:=Dl (BA f cs) (λi j=>hl.getD i false=hl.getD j false) (λ_=>rfl) (λ_ _ e=>e.symm) (λ_ _ _ e1 e2=>e1.trans e2);rw[bM]at hA;rw[jm]at hB;have ad3:(ctx Y cs).length=cs.length:=by simp[ctx]
 rw[Bool.eq_iff_iff,ax0,as7,as7,hA,hB];unfold snd;rw[ax0,List.all_eq_true,List.all_eq_true,au.aO,ad3];constructor
 ·rintro⟨s1,s2⟩;refine⟨λi j hi hj e=>?_,λi j hi hj e=>?_⟩
  ·have I:=List.all_eq_true.1 (s1 i (as2.2 hi)) j (as2.2 hj);have M:¬Hf (texts Y) cl i j=true:=(by simpa using I);rw[Um h iy hi hj]at M;simp only[mkd,as1,an3 hi,an3 hj,ay9,as4,aA7]at e;exact aq4 λn=>M ⟨e,n⟩
  ·have I:=List.all_eq_true.1 (s2 i (as2.2 hi)) j (as2.2 hj);have M:¬KD (texts Y) (ctx Y cs) cl hl i j=true:=(by simpa using I);rw[Un h hc iy hi hj]at M;simp only[BA,as1,an3 hi,an3 hj,ay9,as4,aA7]at e;exact aq4 λn=>M ⟨e,n⟩
 ·rintro⟨s1,s2⟩;refine⟨λi hi=>List.all_eq_true.2 λj hj=>?_,λi hi=>List.all_eq_true.2 λj hj=>?_⟩
  ·have pI:=as2.1 hi;have nR:=as2.1 hj;have M:¬Hf (texts Y) cl i j=true:=by
    rw[Um h iy pI nR];rintro⟨e,n⟩;exact n (s1 i j pI nR (by simp[mkd,pI,nR,e]))
   simpa using M
  ·have pI:=as2.1 hi;have nR:=as2.1 hj;have M:¬KD (texts Y) (ctx Y cs) cl hl i j=true:=by
    rw[Un h hc iy pI nR];rintro⟨e,n⟩;exact n (s2 i j pI nR (by simp[BA,pI,nR,e]))
   simpa using M
def dig(m:ByteArray)(n:Nat):List Int:=(m.data.toList.take n).map λc=>(c.toNat:Int)-48
theorem WW(m:ByteArray)(n c:Nat)(hs:m.size=n+1+c):∀i j,i<n->j<n->(fi (m.data.toList.take n) i=fi (m.data.toList.take n) j↔(dig m n).getD i 0=(dig m n).getD j 0):=by
 intro i j hi hj;have hl:(m.data.toList.take n).length=n:=by
  have:m.data.toList.length=m.size:=R
  rw[ar1];omega
 have pI:i<(m.data.toList.take n).length:=O
 have nR:j<(m.data.toList.take n).length:=O
 rw[Gt pI nR];unfold dig;rw[ao0,ao0,as1,as1,an3 pI,an3 nR];simp only[ay9,Option.getD_some];constructor
 ·intro e;rw[e]
 ·intro e;exact abE O
theorem SX(s m:ByteArray)(Y:Ai)(cs:Ah)(ps:Ai)(hR:au.lG (pk s) (s.size+1) 0 0 [] [] []=.ok (s.size,Y,cs,ps,ps.length-1))(h7:Y.length<=7)(hi:Inv Y)(Bd:kD Y cs) :
  OB s m (texts Y) (ctx Y cs)=hld m Y cs ps (dig m Y.length):=by
 have ad3:(ctx Y cs).length=cs.length:=by simp[ctx]
 unfold OB hld;rw[au.aO,ad3];by_cases hs:m.size=Y.length+1+cs.length
 ·rw[ZK m Y.length cs.length O hs];by_cases hw:wrt (fi (m.data.toList.take Y.length)) Y.length (hlo m Y.length cs.length)=m.data.toList
  ·rw[ao4 hw,ao4 ⟨hs,hw⟩];simp only;have iy:=WW m Y.length cs.length hs;have e1:=QO hi Bd (hl:=hlo m Y.length cs.length) iy;have e2:=QD s (dig m Y.length) (hlo m Y.length cs.length) Y cs ps _ hR;unfold dig at e1 e2;rw[e1,e2];rfl
  ·rw[an8 hw,an8 (λh=>hw h.2)]
 ·have hp:au.parse Y.length cs.length m.data.toList=none:=by
   unfold au.parse;rw[ao4 (Or.inl (by simpa using hs))]
  rw[hp,an8 (λh=>hs h.1)]
end
open Go.RowKit
open au (St put Key)
def uD(s m:ByteArray):Bool×Int:=if s.size<=100/\(chk s).1=0 then OB s m (iV s).T (iV s).C else(false,(chk s).1)
theorem yZ{s:ByteArray}(h:¬(s.size<=100/\(chk s).1=0)):(chk s).1≠0:=by
 intro h0;refine h ⟨?_,h0⟩;unfold chk at h0;by_cases I:100<s.size
 ·rw[ao4 I]at h0;simp at h0
 ·omega
theorem aaC(w:World)(s m:ByteArray)(hm:s.size<=maxLen) :
  Calls prog 14 #[.string s,.string m] w λe w'=>e=.returned (.tuple #[.bool (uD s m).1,A (uD s m).2])/\Ag w w':=by
 unfold uD;by_cases h:s.size<=100/\(chk s).1=0
 ·rw[ao4 h];obtain⟨Y,cs,ps,I,M,h3,h4,h5,h6,h7,h8,h9,YK,h11,h12⟩:=ji s h.1 h.2;have g:=ac9 w s m (dig m Y.length) h.1 Y cs ps _ I M h3 h4 h5 h9 YK h11 h12 (λx hx=>h5 x hx) (λhe=>WW m Y.length cs.length he);rw[<-SX s m Y cs ps I M h4 h5]at g;rw[h6];exact g
 ·rw[an8 h];exact aaB w s m hm (yZ h)
theorem KU(w:World)(s m:ByteArray)(hm:s.size<=maxLen)(Ii:m.size<=maxLen) :
  Calls prog 41 #[.string s,.string m] w λe w'=>e=.returned (.tuple #[.bool (uD s m).1,A (uD s m).2])/\Ag w w':=by
 unfold uD;by_cases h:s.size<=100/\(chk s).1=0
 ·rw[ao4 h];obtain⟨Y,cs,ps,I,M,h3,h4,h5,h6,h7,h8,h9,YK,_,h12⟩:=ji s h.1 h.2;have hT:(iV s).T=au.texts Y:=by rw[h6]
  have hC:(iV s).C=ctx Y cs:=by rw[h6]
  exact abn w s m h.1 Ii (iV s) (F rfl) (by rw[h6]) (by rw[h6];simp) (by rw[hT,au.aO];exact M) (by rw[hC,show(ctx Y cs).length=cs.length by simp[ctx]];exact h3) (by rw[hT,hC];exact JZ h4 h5 h7 h8)
 ·rw[an8 h];have g:=XA w s m hm (by rw[qU];exact yZ h);rw[qU]at g;exact g
theorem Ri(w:World)(n:Int)(s t:ByteArray)(hm:s.size<=maxLen)(ht:t.size<=maxLen) :
  Calls prog 22 #[.agg #[A 3,A n,.string s,.string t]] w λe w'=>e=.returned (.bool true)/\Ag w w':=by
 have H1:=F (λw=>aaC w s t hm);have H2:=F (λw=>KU w s t hm ht);generalize uD s t=c at H1 H2;obtain⟨x,E⟩:=c
 go_in
 go_wp2_with fail
 refine((Z H1) _).mono ?_;rintro e w1 ⟨rfl,b1⟩;have hlt:w.heap.size<(w.alloc (.cells #[A 3,A n,.string s,.string t] 61)).heap.size:=R
 have x0:w1.cell? (J w.heap.size 2)=some (.string s):=by rw[b1.cell hlt];exact az4 _ _ _ _ rfl
 have x1:w1.cell? (J w.heap.size 3)=some (.string t):=by rw[b1.cell hlt];exact az4 _ _ _ _ rfl
 go_wp2_with fail
 refine((Z H2) _).mono ?_;rintro e w2 ⟨rfl,b2⟩
 go_wp2_with fail
 refine(Dt _ _).mono ?_;rintro e w3 ⟨rfl,rfl⟩
 go_wp2_with fail
 go_ret
 refine⟨R,?_⟩;have eH:=b1.size;exact(((aq1 w.heap.size w).alloc (an2 _) _).trans (b1.mono R)).trans (b2.mono (by simp at eH;omega))
end Go.Proofs.YthcppbmkacbbiabGreat
