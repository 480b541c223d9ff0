import Derived.Test.YthcppbmkacbbiaaGreatYAW
import Derived.Test.YthcppbmkacbbiaaGreatYBI
import Derived.Test.YthcppbmkacbbiaaGreatYBM
set_option linter.unusedSimpArgs false
set_option maxHeartbeats 8000000
set_option maxRecDepth 100000
namespace Go.Proofs.YthcppbmkacbbiaaGreat
open Go.Proofs.Tryz
section
open Sat (View Rule jl bH)
open aB (Key put mO dX jn au aT dM fH)
def eqs(said:List aV):List (Nat×Nat):=(said.filter λl=>l.2&&decide (l.1.1=61)).map λl=>l.1.2
def aY(said:List aV):Nat->Nat:=iL id (eqs said)
theorem xq{said:List aV}{p:Nat×Nat}:p∈eqs said↔((61,p),true)∈said:=by
 unfold eqs;rw[ad5];constructor
 ·rintro⟨l,hl,rfl⟩;obtain⟨h1,h2⟩:=ag0.1 hl;simp at h2;obtain⟨⟨c,q⟩,b⟩:=l;simp at h2;obtain⟨rfl,rfl⟩:=h2;exact h1
 ·intro h;exact⟨_,ag0.2 ⟨h,by simp⟩,rfl⟩
structure Closed(ts:List Key)(f f':Nat->Nat):Prop where
 roots:iK f' ts.length
 Fv:wJ f' ts
 Xu:∀a b,f a=f b->f' a=f' b
 least:∀R:Nat->Nat->Prop,WY R->JK R ts->(∀a b,a<ts.length->b<ts.length->f a=f b->R a b)->∀a b,a<ts.length->b<ts.length->f' a=f' b->R a b
def cb(f':Nat->Nat)(cs:List (Int×Nat))(said:List aV):Prop:=
 (∀l∈said,l.1.1=61->l.2=false->f' l.1.2.1≠f' l.1.2.2)/\
 (∀l∈said,∀m∈said,l.1.1≠61->m.1.1≠61->l.1.1=m.1.1->f' (cs.getD l.1.2.1 (0,0)).2=f' (cs.getD m.1.2.1 (0,0)).2->l.2=m.2)
def aaS(g:Nat->Nat)(hl:List Bool)(said:List aV):Prop:=
 ∀l∈said,(l.1.1=61->(g l.1.2.1=g l.1.2.2↔l.2=true))/\(l.1.1≠61->hl.getD l.1.2.1 false=l.2)
def nN(ts:List Key)(cs:List (Int×Nat))(said:List aV):Prop:=
 ∀l∈said,(l.1.1=61/\l.1.2.1<ts.length/\l.1.2.2<ts.length)\/((l.1.1=80\/l.1.1=81)/\∃h:l.1.2.1<cs.length,cs[l.1.2.1].1=l.1.1)
theorem QD{ts:List Key}{cs:List (Int×Nat)}{said:List aV}{f' g:Nat->Nat}{hl:List Bool}(hs:nN ts cs said)(hc:Closed ts (aY said) f')(hct:∀x∈cs,(x.1=80\/x.1=81)/\x.2<ts.length)
 (hg:wJ g ts)(ha:Ui g cs hl)(h:aaS g hl said):cb f' cs said:=by
 have hle:=hc.least (λa b=>g a=g b) (CV g) ((jZ g ts).1 hg) (λa b h1 h2 e=>by
  refine Cb (CV g) (l:=eqs said) (f:=id) (λp hp=>?_) (λx y _ _ e=>by rw[show x=y from e]) a b h1 h2 e;have hm:=xq.1 hp;have hb:p.1<ts.length/\p.2<ts.length:=by
   rcases hs _ hm with⟨_,q1,q2⟩|⟨q,_⟩
   ·exact⟨q1,q2⟩
   ·simp at q
  exact⟨hb.1,hb.2,((h _ hm).1 rfl).2 rfl⟩)
 refine⟨λl hl' h61 hf e=>?_,λl hl' m hm h61 H8 hlet e=>?_⟩
 ·rcases hs l hl' with⟨_,q1,q2⟩|⟨q,_⟩
  ·have:=((h l hl').1 h61).1 (hle _ _ q1 q2 e);rw[hf]at this;cases this
  ·omega
 ·rcases hs l hl' with⟨q,_⟩|⟨_,p1,p2⟩
  ·exact absurd q h61
  ·rcases hs m hm with⟨q,_⟩|⟨_,r1,r2⟩
   ·exact absurd q H8
   ·rw[aG p1,aG r1]at e;have:=ha _ _ p1 r1 (by rw[p2,r2];exact hlet) (hle _ _ (hct _ (ab2 p1)).2 (hct _ (ab2 r1)).2 e);rw[<-(h l hl').2 h61,<-(h m hm).2 H8];exact this
theorem FB{v:Key->Bool}{ts:List Key}{cs:List (Int×Nat)}{ps:List Key}{hl:List Bool}{said:List aV}{f':Nat->Nat}(hi:aT ts.length cs.length ps)(hk:fH cs ps)(h0:0<ps.length)(hct:∀x∈cs,(x.1=80\/x.1=81)/\x.2<ts.length)
 (h:Hold v (lQ id ps))(hall:∀q∈ps,q.1=61\/q.1=80\/q.1=81->(q,v q)∈said)(hc:Closed ts (aY said) f')(hcb:cb f' cs said)(hh:∀c (h:c<cs.length),hl.getD c false=v (cs[c].1,c,0)):Ah f' ts cs ps hl:=by
 refine FU hi hk h0 h hc.Fv (λi j hi' hj' e1 e2=>?_) (λq hq h61=>?_) hh
 ·rw[hh i hi',hh j hj'];have a1:=hct _ (ab2 hi');have b1:=hct _ (ab2 hj');have m1:=hall _ (hk.has i hi') (Or.inr a1.1);have m2:=hall _ (hk.has j hj') (Or.inr b1.1);exact hcb.2 _ m1 _ m2 (by show cs[i].1≠61;omega) (by show cs[j].1≠61;omega) e1 (by simp only;rw[aG hi',aG hj'];exact e2)
 ·have hm:=hall q hq (Or.inl h61);constructor
  ·intro e;cases hv:v q
   ·rw[hv]at hm;exact absurd e (hcb.1 _ hm h61 rfl)
   ·rfl
  ·intro hv;rw[hv]at hm;have:q.2∈eqs said:=xq.2 (by rw[<-h61];exact hm);exact hc.Xu _ _ (yG this)
end
section
open Go.RowKit Go.Maps Go.WideMaps
open Sat (View Rule jl bH)
open aB (Key put dM au aT)
def pO(nt:Nat)(p:Key):Prop:=p.1=61->p.2.1<nt/\p.2.2<nt
def rQ(a:Nat)(d:Bool)(b:Nat)(q:Key):Key:=if q.1=61/\(q.2.1<a\/(q.2.1=a/\((d=true/\q.2.2=a)\/q.2.2<b)))then gy q else q
theorem oM{x y:Nat}(h:x<y):gy (61,x,y)=(61,x,y):=by
 unfold gy;simp only[ai4];rw[ac5 (by omega),ac5 (by omega)]
theorem rZ{x y:Nat}(h:y<x):gy (61,x,y)=(61,y,x):=by
 unfold gy;simp only[ai4];rw[ac5 (by omega),ac8 h]
theorem oN(x:Nat):gy (61,x,x)=(61,0,0):=by simp[gy]
theorem Am(q:Key):rQ 0 false 0 q=q:=by
 unfold rQ;rw[ac5];rintro⟨_,h|⟨_,h|h⟩⟩
 ·omega
 ·simp at h
 ·omega
theorem NC(a:Nat)(d:Bool)(b:Nat):rQ a d b (61,0,0)=(61,0,0):=by
 unfold rQ;split
 ·exact oN 0
 ·rfl
theorem NH(a:Nat):rQ a false 0 (61,a,a)=(61,a,a):=by
 unfold rQ;rw[ac5];rintro⟨_,h|⟨_,h|h⟩⟩
 ·simp at h
 ·simp at h
 ·omega
theorem UO{a b:Nat}(d:Bool)(h:b<a)(c:Nat):rQ a d c (61,b,a)=(61,b,a):=by
 unfold rQ;split
 ·exact oM h
 ·rfl
theorem NG{a b:Nat}(h:b<a):rQ a true b (61,a,b)=(61,a,b):=by
 unfold rQ;rw[ac5];rintro⟨_,h1|⟨_,h1|h1⟩⟩
 ·simp at h1
 ·simp at h1;omega
 ·simp at h1
theorem J6(a:Nat)(q:Key):(if q=(61,a,a)then(61,0,0)else rQ a false 0 q)=rQ a true 0 q:=by
 obtain⟨c,x,y⟩:=q;by_cases e:(c,x,y)=((61,a,a):Key)
 ·rw[ac8 e];cases e;unfold rQ;rw[ac8 ⟨rfl,Or.inr ⟨rfl,Or.inl ⟨rfl,rfl⟩⟩⟩,oN]
 ·rw[ac5 e];unfold rQ;by_cases h:c=61/\x<a
  ·rw[ac8 ⟨h.1,Or.inl h.2⟩,ac8 ⟨h.1,Or.inl h.2⟩]
  ·rw[ac5,ac5]
   ·rintro⟨h1,h2|⟨h2,h3|h3⟩⟩
    ·exact h ⟨h1,h2⟩
    ·simp only at h1 h2 h3;exact e (by rw[h1,h2,h3.2])
    ·omega
   ·rintro⟨h1,h2|⟨h2,h3|h3⟩⟩
    ·exact h ⟨h1,h2⟩
    ·simp at h3
    ·omega
theorem ND(a b:Nat)(hb:b<a)(q:Key):(if q=(61,a,b)then(61,b,a)else rQ a true b q)=rQ a true (b+1) q:=by
 obtain⟨c,x,y⟩:=q;by_cases e:(c,x,y)=((61,a,b):Key)
 ·rw[ac8 e];cases e;unfold rQ;rw[ac8 ⟨rfl,Or.inr ⟨rfl,Or.inr (Nat.lt_succ_self _)⟩⟩,rZ hb]
 ·rw[ac5 e];unfold rQ;by_cases h:c=61/\(x<a\/(x=a/\((true=true/\y=a)\/y<b)))
  ·rw[ac8 h,ac8];refine⟨h.1,h.2.imp id (λg=>⟨g.1,g.2.imp id (λg2=>by show y<b+1;omega)⟩)⟩
  ·rw[ac5 h,ac5];rintro⟨h1,h2|⟨h2,h3|h3⟩⟩
   ·exact h ⟨h1,Or.inl h2⟩
   ·exact h ⟨h1,Or.inr ⟨h2,Or.inl h3⟩⟩
   ·simp only at h1 h2 h3;by_cases hy:y=b
    ·exact e (by rw[h1,h2,hy])
    ·exact h ⟨h1,Or.inr ⟨h2,Or.inr (by show y<b;omega)⟩⟩
theorem Ro(a:Nat)(q:Key):rQ a true a q=rQ (a+1) false 0 q:=by
 obtain⟨c,x,y⟩:=q;unfold rQ;by_cases h:c=61/\x<a+1
 ·rw[ac8 (c:=_/\(x<a+1\/_)) ⟨h.1,Or.inl h.2⟩];by_cases h2:c=61/\(x<a\/(x=a/\((true=true/\y=a)\/y<a)))
  ·rw[ac8 h2]
  ·rw[ac5 h2];have hx:x=a:=by
    refine ae9 λhn=>h2 ⟨h.1,Or.inl ?_⟩
    show x<a
    have:=h.2;omega
   have hy:x<y:=by
    refine ae9 λhn=>h2 ⟨h.1,Or.inr ⟨hx,?_⟩⟩;by_cases e:y=a
    ·exact Or.inl ⟨rfl,e⟩
    ·right;show y<a;omega
   have:=h.1;rw[this,oM hy]
 ·rw[ac5,ac5]
  ·rintro⟨h1,h2|⟨_,h3|h3⟩⟩
   ·exact h ⟨h1,h2⟩
   ·simp at h3
   ·omega
  ·rintro⟨h1,h2|⟨h2,_⟩⟩
   ·exact h ⟨h1,by show x<a+1;simp only at h2;omega⟩
   ·exact h ⟨h1,by show x<a+1;simp only at h2;omega⟩
theorem Rq(n:Nat)(q:Key)(hq:pO n q):rQ n false 0 q=gy q:=by
 unfold rQ;by_cases h:q.1=61
 ·rw[ac8 ⟨h,Or.inl (hq h).1⟩]
 ·rw[ac5 (λg=>h g.1),fB.other q h]
theorem LG.cls{n0:Nat}{w w':World}{lb BU BS:Nat}{f f':Key->Key}{dom:Key->Prop}{Us:List Key}{ak:List Rule}{X:Nat->Prop}(h:LG n0 w lb BU BS f dom Us ak X)(hg:w.grownBy w' (some BS))(hp:gI w' BS f' dom 500):LG n0 w' lb BU BS f' dom Us ak X:=by
 obtain⟨rv,h1,h2,h3⟩:=h.rv;exact⟨⟨rv,h1.kept (hg.block lb h1.lt (by simpa using h1.yA h.sm)),h2.but (But.aA hg) (λk e=>by cases e;exact h.sm.nZ) (λk hk e=>h2.v.yA h.sm k hk (by cases e;rfl)),h3⟩,h.us.kept (hg.block BU h.us.lt (by simpa using h.ne)),hp,h.ne,h.lo⟩
theorem gI.le{w:World}{b c c':Nat}{f:Key->Key}{dom:Key->Prop}(h:gI w b f dom c)(hc:c<=c'):gI w b f dom c':=by
 obtain⟨D,nn,h0,h1,h2⟩:=h;exact⟨D,nn,by omega,h1,h2⟩
theorem gI.Np{w:World}{b c:Nat}{f:Key->Key}{dom:Key->Prop}(h:gI w b f dom c):∀cur t x,w.heap[b]?≠some (Obj.cells cur t x):=by
 obtain⟨D,nn,_,⟨es,c,h1,_⟩,_⟩:=h;intro cur t x e;rw[h1]at e;cases e
structure JI(w:World)(n0 lb BU BS:Nat)(nt:Nat)(Us:List Key)(ak:List Rule)(X:Nat->Prop)(a:Nat)(d:Bool)(b:Nat)(c:Nat)(W:World):Prop where
 lg:LG n0 W lb BU BS (rQ a d b) (pO nt) Us ak X
 p:gI W BS (rQ a d b) (pO nt) c
 below:Below n0 w W
 keep:VK w W
 size:w.heap.size<=W.heap.size
theorem JI.grow{w:World}{n0 lb BU BS nt:Nat}{Us:List Key}{ak:List Rule}{X:Nat->Prop}{a:Nat}{d:Bool}{b c:Nat}{W W':World}(h:JI w n0 lb BU BS nt Us ak X a d b c W)(hn:n0<=w.heap.size)(hg:W.grownBy W' none):JI w n0 lb BU BS nt Us ak X a d b c W':=
 ⟨h.lg.grow hg,h.p.kept (hg.block BS h.p.lt (by simp)),h.below.trans ((But.aA hg).below (ac9 hn h.size) (λk _ e=>by cases e)),h.keep.trans (VK.grown hg),ac9 h.size hg.size⟩
theorem JI.join{w:World}{n0 lb BU BS nt:Nat}{Us:List Key}{ak:List Rule}{X:Nat->Prop}{a:Nat}{d:Bool}{b c:Nat}{W W':World}(h:JI w n0 lb BU BS nt Us ak X a d b c W)(hn:n0<=w.heap.size)(hg:W.grownBy W' (some BS)){d':Bool}{b':Nat}(hp:gI W' BS (rQ a d' b') (pO nt) (c+1))(hc:c+1<=500):JI w n0 lb BU BS nt Us ak X a d' b' (c+1) W':=
 ⟨h.lg.cls hg (hp.le hc),hp,h.below.trans ((But.aA hg).below (ac9 hn h.size) (λk hk e=>by cases e;have:=h.lg.lo.2.2;omega)),h.keep.trans (VK.map hg h.p.Np),ac9 h.size hg.size⟩
theorem GN(X:Nat->Prop)(n0:Nat)(w:World)(lb BU BS nt:Nat)(Us:List Key)(ak:List Rule)(iU:LG n0 w lb BU BS id (pO nt) Us ak X)(hP:gI w BS id (pO nt) 0)(hnt:nt<=7)(hn:n0<=w.heap.size) :
  Calls prog 129 #[.pointer (some ⟨lb,0,none⟩),.int .i64 nt] w λe w'=>(∃z,e=.returned z)/\LG n0 w' lb BU BS gy (pO nt) Us ak X/\Below n0 w w'/\VK w w'/\w.heap.size<=w'.heap.size:=by
 have hJ0:JI w n0 lb BU BS nt Us ak X 0 false 0 0 w:=⟨iU.cls (af2 _ _) ((hP.congr (λk _=>(Am k).symm)).le (by omega)),hP.congr (λk _=>(Am k).symm),ae1 _ _,VK.refl _,SH _⟩;have HJ0:=aj hJ0;clear iU hP hJ0
 go_enter func129,ntmps129
 go_wp2_with fail
 go_loopw [7] (λi wr=>∃a c:Nat,a<=nt/\c<=a*8/\i=.int .i64 a/\JI w n0 lb BU BS nt Us ak X a false 0 c wr) (λi _=>nt-(intOf i).toNat)
 case atStart=>exact⟨0,0,ae7 _,SH _,rfl,ah HJ0⟩
 case round=>
  obtain⟨a,c,ha,hc8,rfl,hJ⟩:=hrel;by_cases hlt:a<nt
  ·have hbd:(a:Int)<(nt:Int):=(by omega);obtain⟨rv,hL,_,_⟩:=hJ.lg.rv;have c1:=hL.cells.2.1;have hll:=hL.lt;have hne:lb≠BS:=hL.yA hJ.lg.sm;have HJ:=aj hJ;have hBl:=hJ.p.lt;clear hJ hL
   go_wp2_with fail
   obtain⟨V,hVd⟩:∃V,wr.drew=V:=⟨_,rfl⟩;have jE:wr.grownBy V none:=(by rw[<-hVd];exact⟨rfl,rfl,rfl,SH _,λ_ _ _=>rfl⟩);refine ae5 (S:=λW'=>V.grownBy W' (some BS)) rfl ?_;have hS0:V.grownBy V (some BS):=af2 _ _;simp only[ab7,ab5,ac2,Nat.reduceAdd,ab4,ab3,ab8,ac1,ac0];change wpAnyH prog .any _ _ _ _ _ _ wr.drew;rw[hVd];clear hVd;have c1V:=jE.cell c1 (by simp);have hlB:(some lb:Option Nat)≠some BS:=(by simpa using hne);have hJV:=(ah HJ).grow hn jE;refine tH 0 (.pointer (some ⟨lb,0,none⟩)) (λw' hS=>?_) hS0 ?_
   ·go_simp
   simp only[aC];refine tH 1 (.pointer (some ⟨lb,0,none⟩)) (λw' hS=>?_) hS0 ?_
   ·go_simp
   simp only[aC];refine tH 2 (.pointer (some ⟨lb,1,none⟩)) (λw' hS=>?_) hS0 ?_
   ·go_simp
   simp only[aC];refine tH 3 (.map (some BS)) (λw' hS=>?_) hS0 ?_
   ·have q:=hS.cell c1V hlB;go_simp
   simp only[aC];refine tH 5 (.int .i64 a) (λw' hS=>?_) hS0 ?_
   ·go_simp
   simp only[aC];refine tH 6 (.int .i64 a) (λw' hS=>?_) hS0 ?_
   ·go_simp
   simp only[aC];have he0:=gY 0 0 V;simp only[Int.natCast_zero]at he0;refine oH 4 (λK hK=>?_);go_simp;refine(he0).mono ?_;rintro e w1 ⟨rfl,hg1⟩;replace hS0:=hS0.trans (hg1.but (some BS));refine hK.out _ _ hS0 ?_;clear hK K;refine oH 7 (λK hK=>?_);go_simp;refine(gY a a w1).mono ?_;rintro e w2 ⟨rfl,hg2⟩;replace hS0:=hS0.trans (hg2.but (some BS));refine hK.out _ _ hS0 ?_;clear hK K;have hJ2:=(hJV.grow hn hg1).grow hn hg2;have hjp:=AX w2 BS c (rQ a false 0) (pO nt) (61,0,0) (61,a,a) hJ2.p (by omega) (λ_=>⟨by show 0<nt;omega,by show 0<nt;omega⟩) (λ_=>⟨hlt,hlt⟩) (NC _ _ _) (NH a) ⟨by simp,by simp,by simp⟩ ⟨by simp,by show a<=1000;omega,by show a<=1000;omega⟩;simp only[aS,Int.natCast_zero]at hjp;refine oH 8 (λK hK=>?_);go_simp;refine(hjp).mono ?_;rintro e w3 ⟨⟨z3,rfl⟩,hg3,hP3⟩;refine hK.out _ _ (hS0.trans hg3) (ae0 (by kernel_rfl) ?_ _);clear hK K;have hJ3:=hJ2.join (d':=true) (b':=0) hn hg3 (hP3.congr (λk _=>J6 a k)) (by omega);have HJ3:=aj hJ3;clear hJ3 hJ2 hJV hS0 hg1 hg2 hg3 hP3 hjp he0 HJ
   go_wp2_with fail
   go_loopw [20] (λi wq=>∃b c':Nat,b<=a/\c'<=a*8+1+b/\i=.int .i64 b/\JI w n0 lb BU BS nt Us ak X a true b c' wq) (λi _=>a-(intOf i).toNat)
   case atStart=>exact⟨0,c+1,ae7 _,by omega,rfl,ah HJ3⟩
   case round=>
    clear HJ3 c1 c1V hll hBl hne hlB;obtain⟨b,c',hb,hc9,rfl,hJ⟩:=hrel;by_cases hlb:b<a
    ·have hbd2:(b:Int)<(a:Int):=(by omega);obtain⟨rv,hL,_,_⟩:=hJ.lg.rv;have c1:=hL.cells.2.1;have hll:=hL.lt;have hne:lb≠BS:=hL.yA hJ.lg.sm;have HJ:=aj hJ;have hBl:=hJ.p.lt;clear hJ hL
     go_wp2_with fail
     obtain⟨V,hVd⟩:∃V,wr.drew=V:=⟨_,rfl⟩;have jE:wr.grownBy V none:=(by rw[<-hVd];exact⟨rfl,rfl,rfl,SH _,λ_ _ _=>rfl⟩);refine ae5 (S:=λW'=>V.grownBy W' (some BS)) rfl ?_;have hS0:V.grownBy V (some BS):=af2 _ _;simp only[ab7,ab5,ac2,Nat.reduceAdd,ab4,ab3,ab8,ac1,ac0];change wpAnyH prog .any _ _ _ _ _ _ wr.drew;rw[hVd];clear hVd;have c1V:=jE.cell c1 (by simp);have hlB:(some lb:Option Nat)≠some BS:=(by simpa using hne);have hJV:=(ah HJ).grow hn jE;refine tH 0 (.pointer (some ⟨lb,0,none⟩)) (λw' hS=>?_) hS0 ?_
     ·go_simp
     simp only[aC];refine tH 1 (.pointer (some ⟨lb,0,none⟩)) (λw' hS=>?_) hS0 ?_
     ·go_simp
     simp only[aC];refine tH 2 (.pointer (some ⟨lb,1,none⟩)) (λw' hS=>?_) hS0 ?_
     ·go_simp
     simp only[aC];refine tH 3 (.map (some BS)) (λw' hS=>?_) hS0 ?_
     ·have q:=hS.cell c1V hlB;go_simp
     simp only[aC];refine tH 4 (.int .i64 b) (λw' hS=>?_) hS0 ?_
     ·go_simp
     simp only[aC];refine tH 5 (.int .i64 a) (λw' hS=>?_) hS0 ?_
     ·go_simp
     simp only[aC];refine tH 7 (.int .i64 a) (λw' hS=>?_) hS0 ?_
     ·go_simp
     simp only[aC];refine tH 8 (.int .i64 b) (λw' hS=>?_) hS0 ?_
     ·go_simp
     simp only[aC];refine oH 6 (λK hK=>?_);go_simp;refine(gY b a V).mono ?_;rintro e w1 ⟨rfl,hg1⟩;replace hS0:=hS0.trans (hg1.but (some BS));refine hK.out _ _ hS0 ?_;clear hK K;refine oH 9 (λK hK=>?_);go_simp;refine(gY a b w1).mono ?_;rintro e w2 ⟨rfl,hg2⟩;replace hS0:=hS0.trans (hg2.but (some BS));refine hK.out _ _ hS0 ?_;clear hK K;have hJ2:=(hJV.grow hn hg1).grow hn hg2;have hjp:=AX w2 BS c' (rQ a true b) (pO nt) (61,b,a) (61,a,b) hJ2.p (by omega) (λ_=>⟨by show b<nt;omega,hlt⟩) (λ_=>⟨hlt,by show b<nt;omega⟩) (UO true hlb b) (NG hlb) ⟨by simp,by show b<=1000;omega,by show a<=1000;omega⟩ ⟨by simp,by show a<=1000;omega,by show b<=1000;omega⟩;simp only[aS]at hjp;refine oH 10 (λK hK=>?_);go_simp;refine(hjp).mono ?_;rintro e w3 ⟨⟨z3,rfl⟩,hg3,hP3⟩;refine hK.out _ _ (hS0.trans hg3) (ae0 (by kernel_rfl) ?_ _);clear hK K;have hJ3:=hJ2.join (d':=true) (b':=b+1) hn hg3 (hP3.congr (λk _=>ND a b hlb k)) (by omega);have HJ3:=aj hJ3;clear hJ3 hJ2 hJV hS0 hg1 hg2 hg3 hP3 hjp HJ
     go_wp2_with fail
     exact⟨⟨b+1,c'+1,hlb,by omega,by go_num,ah HJ3⟩,by simp[intOf];omega⟩
    ·have hbb:b=a:=(by omega);subst hbb;have hbd2:¬(b:Int)<(b:Int):=(by omega);have hJ2:JI w n0 lb BU BS nt Us ak X (b+1) false 0 c' wr:=by
      have e:rQ b true b=rQ (b+1) false 0:=funext (Ro b);exact⟨by rw[<-e];exact hJ.lg,by rw[<-e];exact hJ.p,hJ.below,hJ.keep,hJ.size⟩
     have HJ2:=aj hJ2;clear hJ hJ2
     go_wp2_with fail
     exact⟨⟨b+1,c',hlt,by omega,by go_num,ah HJ2⟩,by simp[intOf];omega⟩
  ·have haa:a=nt:=(by omega);subst haa;have hbd:¬(a:Int)<(a:Int):=(by omega);have hLF:LG n0 wr lb BU BS gy (pO a) Us ak X:=hJ.lg.cls (af2 _ _) (hJ.lg.sm.congr (λk hk=>Rq a k hk));have Q1:=aj hLF;have Q2:=aj hJ;clear hJ hLF
   go_wp2_with fail
   go_end0
   exact⟨⟨_,rfl⟩,ah Q1,(ah Q2).below,(ah Q2).keep,(ah Q2).size⟩
end
section
open Go.RowKit
theorem uZ(m:Option Nat)(w:World):Calls prog 87 #[.map m] w λe w'=>e=.returned (.slice none 0 0)/\w'=w:=by
 go_enter func87,ntmps87
 go_wp2_with fail
 go_ret
 exact⟨rfl,rfl⟩
end
open aB (Key put mO dX jn au aT dM fH)
open Nx
def wI(f g:Nat->Nat)(n:Nat):Prop:=∀i j,i<n->j<n->(f i=f j↔g i=g j)
theorem wI.symm{f g:Nat->Nat}{n:Nat}(h:wI f g n):wI g f n:=λi j hi hj=>(h i j hi hj).symm
theorem KJ{f g:Nat->Nat}{n:Nat}(h:wI f g n):∀k,k<=n->(nums f k).length=(nums g k).length/\∀j,j<n->(nums f k).idxOf (f j)=(nums g k).idxOf (g j):=by
 intro k
 induction k with
 |zero=>intro _;exact⟨rfl,λj _=>rfl⟩
 |succ k ih=>
  intro hk;obtain⟨h1,h2⟩:=ih (by omega);have hmem:f k∈nums f k↔g k∈nums g k:=by
   rw[gQ,gQ];constructor
   ·rintro⟨j,hj,e⟩;exact⟨j,hj,(h j k (by omega) (by omega)).1 e⟩
   ·rintro⟨j,hj,e⟩;exact⟨j,hj,(h j k (by omega) (by omega)).2 e⟩
  unfold nums put;by_cases hm:f k∈nums f k
  ·have hm':=hmem.1 hm;rw[ac8 (by simpa using hm),ac8 (by simpa using hm')];exact⟨h1,h2⟩
  ·have hm':g k∉nums g k:=λe=>hm (hmem.2 e);rw[ac5 (by simpa using hm),ac5 (by simpa using hm')];refine⟨by simp[h1],λj hj=>?_⟩;rw[ai6,ai6];have hmj:f j∈nums f k↔g j∈nums g k:=by
    rw[gQ,gQ];constructor
    ·rintro⟨i,hi,e⟩;exact⟨i,hi,(h i j (by omega) hj).1 e⟩
    ·rintro⟨i,hi,e⟩;exact⟨i,hi,(h i j (by omega) hj).2 e⟩
   by_cases hj2:f j∈nums f k
   ·rw[ac8 hj2,ac8 (hmj.1 hj2),h2 j hj]
   ·rw[ac5 hj2,ac5 (λe=>hj2 (hmj.2 e)),h1];by_cases e:f k=f j
    ·have e':=(h k j (by omega) hj).1 e;simp[e,e']
    ·have e':¬g k=g j:=λe2=>e ((h k j (by omega) hj).2 e2);have e3:(f k==f j)=false:=(by simpa using e);have e4:(g k==g j)=false:=(by simpa using e');simp[List.idxOf_cons,e3,e4]
theorem Qj{f g:Nat->Nat}{n:Nat}(h:wI f g n):uf f n=uf g n:=by
 unfold uf;refine List.map_congr_left λt ht=>?_;have ht:=ag8.1 ht;rw[(KJ h t (by omega)).2 t ht]
theorem Wh(f:Nat->Nat){n:Nat}(hn:n<=7):wI (fi (uf f n)) f n:=by
 intro i j hi hj;have li:i<(uf f n).length:=by rw[Dc];exact hi
 have lj:j<(uf f n).length:=by rw[Dc];exact hj
 rw[Bd li lj];have ei:(uf f n)[i]=UInt8.ofNat (48+(nums f i).idxOf (f i)):=by
  have:=Qk f n i hi;rw[SI li]at this;simpa using this
 have ej:(uf f n)[j]=UInt8.ofNat (48+(nums f j).idxOf (f j)):=by
  have:=Qk f n j hj;rw[SI lj]at this;simpa using this
 rw[ei,ej,<-oZ f i n hi,<-oZ f j n hj];have mi:f i∈nums f n:=(gQ f n _).2 ⟨i,hi,rfl⟩;have mj:f j∈nums f n:=(gQ f n _).2 ⟨j,hj,rfl⟩;have l1:=ai0.2 mi;have l2:=ai0.2 mj;have l3:=nums_length f n;constructor
 ·intro e;have e2:=al2 UInt8.toNat e;simp only[UInt8.toNat_ofNat']at e2;have e3:(nums f n).idxOf (f i)=(nums f n).idxOf (f j):=by omega
  have g1:=af9 l1;have g2:=af9 l2;rw[<-g1,<-g2];simp only[e3]
 ·intro e;rw[e]
theorem Ee{cl cl':List Int}{hl:List Bool}{nt nc:Nat}(hc:∀i j,i<nt->j<nt->(cl.getD i 0=cl.getD j 0↔cl'.getD i 0=cl'.getD j 0)):∀ps:List Key,(∀i (h:i<ps.length),dM nt nc i ps[i])->dX cl hl ps=dX cl' hl ps:=by
 suffices H:∀n (ps:List Key),ps.length=n->(∀i (h:i<ps.length),dM nt nc i ps[i])->dX cl hl ps=dX cl' hl ps from λps=>H _ ps rfl
 intro n
 induction n with
 |zero=>
  intro ps hn _;have:ps=[]:=ae8 hn;subst this;rfl
 |succ n ih=>
  intro ps hn hok;obtain⟨qs,q,rfl⟩:∃qs q,ps=qs++[q]:=⟨ps.dropLast,ps.getLast (by intro e;rw[e]at hn;simp at hn),(List.dropLast_concat_getLast _).symm⟩;have hl1:qs.length=n:=by simpa using hn
  have ih1:=ih qs hl1 (λi h=>by have:=hok i (by simp;omega);rwa [ah2 h]at this);have hq:=hok qs.length (by simp);simp at hq;rw[aB.lW,aB.lW,ih1]
  congr 2
  unfold mO;rcases hq with⟨a,b,_⟩|⟨a,b,c⟩|⟨a,_,_⟩|⟨a,b,c⟩
  ·have h1:q.1≠61:=(by omega);rw[ac5 h1,ac5 h1]
  ·have h1:q.1≠61:=(by intro e;rw[e]at a;simp[au]at a);rw[ac5 h1,ac5 h1]
  ·have h1:q.1≠61:=(by omega);rw[ac5 h1,ac5 h1]
  ·rw[ac8 a,ac8 a,decide_eq_decide];exact hc _ _ b c
theorem Ah.same{f g:Nat->Nat}{ts:List Key}{cs:List (Int×Nat)}{ps:List Key}{hl:List Bool}(hi:aT ts.length cs.length ps)(ht:∀i (hi:i<ts.length),ts[i].2.1<ts.length/\ts[i].2.2<ts.length)(hc:∀x∈cs,(x.1=80\/x.1=81)/\x.2<ts.length)(h:Ah f ts cs ps hl)(hs:wI f g ts.length):Ah g ts cs ps hl:=by
 refine⟨?_,?_,?_⟩
 ·rw[jZ];intro i j hi' hj' e1 e2 e3;obtain⟨a1,a2⟩:=ht i hi';obtain⟨b1,b2⟩:=ht j hj';exact(hs i j hi' hj').1 ((jZ f ts).1 h.Fv i j hi' hj' e1 ((hs _ _ a1 b1).2 e2) ((hs _ _ a2 b2).2 e3))
 ·rw[qH];intro i j hi' hj' e1 e2;exact(qH f cs hl).1 h.Zc i j hi' hj' e1 ((hs _ _ (hc _ (ab2 hi')).2 (hc _ (ab2 hj')).2).2 e2)
 ·rw[Ee (cl':=Qx f ts.length) (λi j hi' hj'=>?_) ps hi.ok]
  ·exact h.Xf
  ·rw[jL g hi',jL g hj',jL f hi',jL f hj'];have:=hs i j hi' hj';omega
theorem row_mem(f:Nat->Nat):∀n k,((List.range' k n).map λt=>(nums f t).idxOf (f t))∈rws (nums f k).length n
 |0,k=>by simp[rws]
 |n+1,k=>by
  have ih:=row_mem f n (k+1);have e0:List.range' k (n+1)=k::List.range' (k+1) n:=List.range'_succ;unfold rws;rw[e0,an2];refine aj0.2 ⟨(nums f k).idxOf (f k),?_,ad5.2 ⟨_,?_,rfl⟩⟩
  ·have:=ai8 (l:=nums f k) (a:=f k);simp;omega
  ·have e:max (nums f k).length ((nums f k).idxOf (f k)+1)=(nums f (k+1)).length:=by
    show _=(put (nums f k) (f k)).length
    unfold put;by_cases hm:f k∈nums f k
    ·rw[ac8 (by simpa using hm)];have:=ai0.2 hm;omega
    ·rw[ac5 (by simpa using hm),ag5 hm];simp
   rw[e];exact ih
theorem Jj:∀(n:Nat) (l:List Bool),l.length=n->l∈WW n
 |0,l,h=>by
  have:l=[]:=ae8 h;subst this;simp[WW]
 |n+1,l,h=>by
  cases l with
  |nil=>simp at h
  |cons b l=>
   have ih:=Jj n l (by simpa using h);unfold WW;cases b
   ·exact ag2 _ (ad5.2 ⟨l,ih,rfl⟩)
   ·exact am1 _ (ad5.2 ⟨l,ih,rfl⟩)
theorem JW{α:Type}{L:List α}{g:α->Nat}{x:α}(hx:x∈L)(h:g x≠0):sumTo L g L.length≠0:=by
 unfold sumTo;rw[ag4];intro e;exact h (List.sum_eq_zero_iff_forall_eq_nat.1 e _ (ad5.2 ⟨x,hx,rfl⟩))
theorem F5{α:Type}{L:List α}{g:α->Nat}(h:sumTo L g L.length≠0):∃x∈L,g x≠0:=by
 refine ae9 λhn=>h ?_;unfold sumTo;rw[ag4];refine List.sum_eq_zero_iff_forall_eq_nat.2 λy hy=>?_;obtain⟨x,hx,rfl⟩:=ad5.1 hy;exact ae9 λe=>hn ⟨x,hx,e⟩
end Go.Proofs.YthcppbmkacbbiaaGreat
