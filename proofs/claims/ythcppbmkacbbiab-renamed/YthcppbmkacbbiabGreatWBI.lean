import Derived.Test.YthcppbmkacbbiabGreatWAZ
import Derived.Test.YthcppbmkacbbiabGreatWBH
set_option linter.unusedSimpArgs false
set_option maxHeartbeats 8000000
set_option maxRecDepth 100000
namespace Go.Proofs.YthcppbmkacbbiabGreat
open Go.Proofs.Tryz
open Go.RowKit Go.Maps Go.WideMaps
open Sat (View Rule jk bG)
open aB (Key put dJ au aQ)
def pV(nt:Nat)(p:Key):Prop:=p.1=61->p.2.1<nt/\p.2.2<nt
def sD(a:Nat)(d:Bool)(b:Nat)(q:Key):Key:=if q.1=61/\(q.2.1<a\/(q.2.1=a/\((d=true/\q.2.2=a)\/q.2.2<b)))then fZ q else q
theorem oQ{x y:Nat}(h:x<y):fZ (61,x,y)=(61,x,y):=by
 unfold fZ;simp only[al0];rw[af2 (by omega),af2 (by omega)]
theorem sN{x y:Nat}(h:y<x):fZ (61,x,y)=(61,y,x):=by
 unfold fZ;simp only[al0];rw[af2 (by omega),af6 h]
theorem oU(x:Nat):fZ (61,x,x)=(61,0,0):=by simp[fZ]
theorem AO(q:Key):sD 0 false 0 q=q:=by
 unfold sD;rw[af2];rintro⟨_,h|⟨_,h|h⟩⟩
 ·omega
 ·simp at h
 ·omega
theorem Ov(a:Nat)(d:Bool)(b:Nat):sD a d b (61,0,0)=(61,0,0):=by
 unfold sD;split
 ·exact oU 0
 ·rfl
theorem Oz(a:Nat):sD a false 0 (61,a,a)=(61,a,a):=by
 unfold sD;rw[af2];rintro⟨_,h|⟨_,h|h⟩⟩
 ·simp at h
 ·simp at h
 ·omega
theorem VX{a b:Nat}(d:Bool)(h:b<a)(c:Nat):sD a d c (61,b,a)=(61,b,a):=by
 unfold sD;split
 ·exact oQ h
 ·rfl
theorem Oy{a b:Nat}(h:b<a):sD a true b (61,a,b)=(61,a,b):=by
 unfold sD;rw[af2];rintro⟨_,h1|⟨_,h1|h1⟩⟩
 ·simp at h1
 ·simp at h1;omega
 ·simp at h1
theorem KZ(a:Nat)(q:Key):(if q=(61,a,a)then(61,0,0)else sD a false 0 q)=sD a true 0 q:=by
 obtain⟨c,x,y⟩:=q;by_cases e:(c,x,y)=((61,a,a):Key)
 ·rw[af6 e];cases e;unfold sD;rw[af6 ⟨rfl,Or.inr ⟨rfl,Or.inl ⟨rfl,rfl⟩⟩⟩,oU]
 ·rw[af2 e];unfold sD;by_cases h:c=61/\x<a
  ·rw[af6 ⟨h.1,Or.inl h.2⟩,af6 ⟨h.1,Or.inl h.2⟩]
  ·rw[af2,af2]
   ·rintro⟨h1,h2|⟨h2,h3|h3⟩⟩
    ·exact h ⟨h1,h2⟩
    ·simp only at h1 h2 h3;exact e (by rw[h1,h2,h3.2])
    ·omega
   ·rintro⟨h1,h2|⟨h2,h3|h3⟩⟩
    ·exact h ⟨h1,h2⟩
    ·simp at h3
    ·omega
theorem Ox(a b:Nat)(hb:b<a)(q:Key):(if q=(61,a,b)then(61,b,a)else sD a true b q)=sD a true (b+1) q:=by
 obtain⟨c,x,y⟩:=q;by_cases e:(c,x,y)=((61,a,b):Key)
 ·rw[af6 e];cases e;unfold sD;rw[af6 ⟨rfl,Or.inr ⟨rfl,Or.inr (Nat.lt_succ_self _)⟩⟩,sN hb]
 ·rw[af2 e];unfold sD;by_cases h:c=61/\(x<a\/(x=a/\((true=true/\y=a)\/y<b)))
  ·rw[af6 h,af6];refine⟨h.1,h.2.imp id (λg=>⟨g.1,g.2.imp id (λg2=>by show y<b+1;omega)⟩)⟩
  ·rw[af2 h,af2];rintro⟨h1,h2|⟨h2,h3|h3⟩⟩
   ·exact h ⟨h1,Or.inl h2⟩
   ·exact h ⟨h1,Or.inr ⟨h2,Or.inl h3⟩⟩
   ·simp only at h1 h2 h3;by_cases hy:y=b
    ·exact e (by rw[h1,h2,hy])
    ·exact h ⟨h1,Or.inr ⟨h2,Or.inr (by show y<b;omega)⟩⟩
theorem Tt(a:Nat)(q:Key):sD a true a q=sD (a+1) false 0 q:=by
 obtain⟨c,x,y⟩:=q;unfold sD;by_cases h:c=61/\x<a+1
 ·rw[af6 (c:=_/\(x<a+1\/_)) ⟨h.1,Or.inl h.2⟩];by_cases h2:c=61/\(x<a\/(x=a/\((true=true/\y=a)\/y<a)))
  ·rw[af6 h2]
  ·rw[af2 h2];have hx:x=a:=by
    refine ah3 λhn=>h2 ⟨h.1,Or.inl ?_⟩
    show x<a
    have:=h.2;omega
   have hy:x<y:=by
    refine ah3 λhn=>h2 ⟨h.1,Or.inr ⟨hx,?_⟩⟩;by_cases e:y=a
    ·exact Or.inl ⟨rfl,e⟩
    ·right;show y<a;omega
   have:=h.1;rw[this,oQ hy]
 ·rw[af2,af2]
  ·rintro⟨h1,h2|⟨_,h3|h3⟩⟩
   ·exact h ⟨h1,h2⟩
   ·simp at h3
   ·omega
  ·rintro⟨h1,h2|⟨h2,_⟩⟩
   ·exact h ⟨h1,by show x<a+1;simp only at h2;omega⟩
   ·exact h ⟨h1,by show x<a+1;simp only at h2;omega⟩
theorem Tv(n:Nat)(q:Key)(hq:pV n q):sD n false 0 q=fZ q:=by
 unfold sD;by_cases h:q.1=61
 ·rw[af6 ⟨h,Or.inl (hq h).1⟩]
 ·rw[af2 (λg=>h g.1),eU.other q h]
theorem LG.cls{n0:Nat}{w w':World}{lb BU BS:Nat}{f f':Key->Key}{dom:Key->Prop}{Us:List Key}{ak:List Rule}{X:Nat->Prop}(h:LG n0 w lb BU BS f dom Us ak X)(hg:w.grownBy w' (some BS))(hp:gy w' BS f' dom 500):LG n0 w' lb BU BS f' dom Us ak X:=by
 obtain⟨rv,h1,h2,h3⟩:=h.rv;exact⟨⟨rv,h1.kept (hg.block lb h1.lt (by simpa using h1.yJ h.sm)),h2.but (But.aA hg) (λk e=>by cases e;exact h.sm.og) (λk hk e=>h2.v.yJ h.sm k hk (by cases e;rfl)),h3⟩,h.us.kept (hg.block BU h.us.lt (by simpa using h.ne)),hp,h.ne,h.lo⟩
theorem gy.le{w:World}{b c c':Nat}{f:Key->Key}{dom:Key->Prop}(h:gy w b f dom c)(hc:c<=c'):gy w b f dom c':=by
 obtain⟨D,nn,h0,h1,h2⟩:=h;exact⟨D,nn,by omega,h1,h2⟩
theorem gy.Oe{w:World}{b c:Nat}{f:Key->Key}{dom:Key->Prop}(h:gy w b f dom c):∀cur t x,w.heap[b]?≠some (Obj.cells cur t x):=by
 obtain⟨D,nn,_,⟨es,c,h1,_⟩,_⟩:=h;intro cur t x e;rw[h1]at e;cases e
structure JI(w:World)(n0 lb BU BS:Nat)(nt:Nat)(Us:List Key)(ak:List Rule)(X:Nat->Prop)(a:Nat)(d:Bool)(b:Nat)(c:Nat)(W:World):Prop where
 lg:LG n0 W lb BU BS (sD a d b) (pV nt) Us ak X
 p:gy W BS (sD a d b) (pV nt) c
 below:Below n0 w W
 keep:VK w W
 size:w.heap.size<=W.heap.size
theorem JI.grow{w:World}{n0 lb BU BS nt:Nat}{Us:List Key}{ak:List Rule}{X:Nat->Prop}{a:Nat}{d:Bool}{b c:Nat}{W W':World}(h:JI w n0 lb BU BS nt Us ak X a d b c W)(hn:n0<=w.heap.size)(hg:W.grownBy W' none):JI w n0 lb BU BS nt Us ak X a d b c W':=
 ⟨h.lg.grow hg,h.p.kept (hg.block BS h.p.lt (by simp)),h.below.trans ((But.aA hg).below (af7 hn h.size) (λk _ e=>by cases e)),h.keep.trans (VK.grown hg),af7 h.size hg.size⟩
theorem JI.join{w:World}{n0 lb BU BS nt:Nat}{Us:List Key}{ak:List Rule}{X:Nat->Prop}{a:Nat}{d:Bool}{b c:Nat}{W W':World}(h:JI w n0 lb BU BS nt Us ak X a d b c W)(hn:n0<=w.heap.size)(hg:W.grownBy W' (some BS)){d':Bool}{b':Nat}(hp:gy W' BS (sD a d' b') (pV nt) (c+1))(hc:c+1<=500):JI w n0 lb BU BS nt Us ak X a d' b' (c+1) W':=
 ⟨h.lg.cls hg (hp.le hc),hp,h.below.trans ((But.aA hg).below (af7 hn h.size) (λk hk e=>by cases e;have:=h.lg.lo.2.2;omega)),h.keep.trans (VK.map hg h.p.Oe),af7 h.size hg.size⟩
theorem Ie(X:Nat->Prop)(n0:Nat)(w:World)(lb BU BS nt:Nat)(Us:List Key)(ak:List Rule)(iQ:LG n0 w lb BU BS id (pV nt) Us ak X)(hP:gy w BS id (pV nt) 0)(hnt:nt<=7)(hn:n0<=w.heap.size) :
  Calls prog 111 #[.pointer (some ⟨lb,0,none⟩),.int .i64 nt] w λe w'=>(∃z,e=.returned z)/\LG n0 w' lb BU BS fZ (pV nt) Us ak X/\Below n0 w w'/\VK w w'/\w.heap.size<=w'.heap.size:=by
 have hJ0:JI w n0 lb BU BS nt Us ak X 0 false 0 0 w:=⟨iQ.cls (ah7 _ _) ((hP.congr (λk _=>(AO k).symm)).le (by omega)),hP.congr (λk _=>(AO k).symm),ag6 _ _,VK.refl _,ad5 _⟩;have HJ0:=aj hJ0;clear iQ hP hJ0
 go_enter func111,ntmps111
 go_wp2_with fail
 go_loopw [7] (λi wr=>∃a c:Nat,a<=nt/\c<=a*8/\i=.int .i64 a/\JI w n0 lb BU BS nt Us ak X a false 0 c wr) (λi _=>nt-(intOf i).toNat)
 case atStart=>exact⟨0,0,ah2 _,ad5 _,rfl,ah HJ0⟩
 case round=>
  obtain⟨a,c,ha,hc8,rfl,hJ⟩:=hrel;by_cases hlt:a<nt
  ·have hbd:(a:Int)<(nt:Int):=(by omega);obtain⟨rv,hL,_,_⟩:=hJ.lg.rv;have c1:=hL.cells.2.1;have hll:=hL.lt;have hne:lb≠BS:=hL.yJ hJ.lg.sm;have HJ:=aj hJ;have hBl:=hJ.p.lt;clear hJ hL
   go_wp2_with fail
   obtain⟨V,hVd⟩:∃V,wr.drew=V:=⟨_,rfl⟩;have jw:wr.grownBy V none:=(by rw[<-hVd];exact⟨rfl,rfl,rfl,ad5 _,λ_ _ _=>rfl⟩);refine ah0 (S:=λW'=>V.grownBy W' (some BS)) rfl ?_;have hS0:V.grownBy V (some BS):=ah7 _ _;simp only[ae2,ae1,ae8,Nat.reduceAdd,ae0,ad9,ae4,ae7,ae6];change wpAnyH prog .any _ _ _ _ _ _ wr.drew;rw[hVd];clear hVd;have c1V:=jw.cell c1 (by simp);have hlB:(some lb:Option Nat)≠some BS:=(by simpa using hne);have hJV:=(ah HJ).grow hn jw;refine tH 0 (.pointer (some ⟨lb,0,none⟩)) (λw' hS=>?_) hS0 ?_
   ·go_simp
   simp only[aC];refine tH 1 (.pointer (some ⟨lb,0,none⟩)) (λw' hS=>?_) hS0 ?_
   ·go_simp
   simp only[aC];refine tH 2 (.pointer (some ⟨lb,1,none⟩)) (λw' hS=>?_) hS0 ?_
   ·go_simp
   simp only[aC];refine tH 3 (.map (some BS)) (λw' hS=>?_) hS0 ?_
   ·have q:=hS.cell c1V hlB;go_simp
   simp only[aC];refine tH 5 (.int .i64 a) (λw' hS=>?_) hS0 ?_
   ·go_simp
   simp only[aC];refine tH 6 (.int .i64 a) (λw' hS=>?_) hS0 ?_
   ·go_simp
   simp only[aC];have he0:=gW 0 0 V;simp only[Int.natCast_zero]at he0;refine oH 4 (λK hK=>?_);go_simp;refine(he0).mono ?_;rintro e w1 ⟨rfl,hg1⟩;replace hS0:=hS0.trans (hg1.but (some BS));refine hK.out _ _ hS0 ?_;clear hK K;refine oH 7 (λK hK=>?_);go_simp;refine(gW a a w1).mono ?_;rintro e w2 ⟨rfl,hg2⟩;replace hS0:=hS0.trans (hg2.but (some BS));refine hK.out _ _ hS0 ?_;clear hK K;have hJ2:=(hJV.grow hn hg1).grow hn hg2;have hjp:=Bj w2 BS c (sD a false 0) (pV nt) (61,0,0) (61,a,a) hJ2.p (by omega) (λ_=>⟨by show 0<nt;omega,by show 0<nt;omega⟩) (λ_=>⟨hlt,hlt⟩) (Ov _ _ _) (Oz a) ⟨by simp,by simp,by simp⟩ ⟨by simp,by show a<=1000;omega,by show a<=1000;omega⟩;simp only[aS,Int.natCast_zero]at hjp;refine oH 8 (λK hK=>?_);go_simp;refine(hjp).mono ?_;rintro e w3 ⟨⟨z3,rfl⟩,hg3,hP3⟩;refine hK.out _ _ (hS0.trans hg3) (ag5 (by kernel_rfl) ?_ _);clear hK K;have hJ3:=hJ2.join (d':=true) (b':=0) hn hg3 (hP3.congr (λk _=>KZ a k)) (by omega);have HJ3:=aj hJ3;clear hJ3 hJ2 hJV hS0 hg1 hg2 hg3 hP3 hjp he0 HJ
   go_wp2_with fail
   go_loopw [20] (λi wq=>∃b c':Nat,b<=a/\c'<=a*8+1+b/\i=.int .i64 b/\JI w n0 lb BU BS nt Us ak X a true b c' wq) (λi _=>a-(intOf i).toNat)
   case atStart=>exact⟨0,c+1,ah2 _,by omega,rfl,ah HJ3⟩
   case round=>
    clear HJ3 c1 c1V hll hBl hne hlB;obtain⟨b,c',hb,hc9,rfl,hJ⟩:=hrel;by_cases hlb:b<a
    ·have hbd2:(b:Int)<(a:Int):=(by omega);obtain⟨rv,hL,_,_⟩:=hJ.lg.rv;have c1:=hL.cells.2.1;have hll:=hL.lt;have hne:lb≠BS:=hL.yJ hJ.lg.sm;have HJ:=aj hJ;have hBl:=hJ.p.lt;clear hJ hL
     go_wp2_with fail
     obtain⟨V,hVd⟩:∃V,wr.drew=V:=⟨_,rfl⟩;have jw:wr.grownBy V none:=(by rw[<-hVd];exact⟨rfl,rfl,rfl,ad5 _,λ_ _ _=>rfl⟩);refine ah0 (S:=λW'=>V.grownBy W' (some BS)) rfl ?_;have hS0:V.grownBy V (some BS):=ah7 _ _;simp only[ae2,ae1,ae8,Nat.reduceAdd,ae0,ad9,ae4,ae7,ae6];change wpAnyH prog .any _ _ _ _ _ _ wr.drew;rw[hVd];clear hVd;have c1V:=jw.cell c1 (by simp);have hlB:(some lb:Option Nat)≠some BS:=(by simpa using hne);have hJV:=(ah HJ).grow hn jw;refine tH 0 (.pointer (some ⟨lb,0,none⟩)) (λw' hS=>?_) hS0 ?_
     ·go_simp
     simp only[aC];refine tH 1 (.pointer (some ⟨lb,0,none⟩)) (λw' hS=>?_) hS0 ?_
     ·go_simp
     simp only[aC];refine tH 2 (.pointer (some ⟨lb,1,none⟩)) (λw' hS=>?_) hS0 ?_
     ·go_simp
     simp only[aC];refine tH 3 (.map (some BS)) (λw' hS=>?_) hS0 ?_
     ·have q:=hS.cell c1V hlB;go_simp
     simp only[aC];refine tH 4 (.int .i64 b) (λw' hS=>?_) hS0 ?_
     ·go_simp
     simp only[aC];refine tH 5 (.int .i64 a) (λw' hS=>?_) hS0 ?_
     ·go_simp
     simp only[aC];refine tH 7 (.int .i64 a) (λw' hS=>?_) hS0 ?_
     ·go_simp
     simp only[aC];refine tH 8 (.int .i64 b) (λw' hS=>?_) hS0 ?_
     ·go_simp
     simp only[aC];refine oH 6 (λK hK=>?_);go_simp;refine(gW b a V).mono ?_;rintro e w1 ⟨rfl,hg1⟩;replace hS0:=hS0.trans (hg1.but (some BS));refine hK.out _ _ hS0 ?_;clear hK K;refine oH 9 (λK hK=>?_);go_simp;refine(gW a b w1).mono ?_;rintro e w2 ⟨rfl,hg2⟩;replace hS0:=hS0.trans (hg2.but (some BS));refine hK.out _ _ hS0 ?_;clear hK K;have hJ2:=(hJV.grow hn hg1).grow hn hg2;have hjp:=Bj w2 BS c' (sD a true b) (pV nt) (61,b,a) (61,a,b) hJ2.p (by omega) (λ_=>⟨by show b<nt;omega,hlt⟩) (λ_=>⟨hlt,by show b<nt;omega⟩) (VX true hlb b) (Oy hlb) ⟨by simp,by show b<=1000;omega,by show a<=1000;omega⟩ ⟨by simp,by show a<=1000;omega,by show b<=1000;omega⟩;simp only[aS]at hjp;refine oH 10 (λK hK=>?_);go_simp;refine(hjp).mono ?_;rintro e w3 ⟨⟨z3,rfl⟩,hg3,hP3⟩;refine hK.out _ _ (hS0.trans hg3) (ag5 (by kernel_rfl) ?_ _);clear hK K;have hJ3:=hJ2.join (d':=true) (b':=b+1) hn hg3 (hP3.congr (λk _=>Ox a b hlb k)) (by omega);have HJ3:=aj hJ3;clear hJ3 hJ2 hJV hS0 hg1 hg2 hg3 hP3 hjp HJ
     go_wp2_with fail
     exact⟨⟨b+1,c'+1,hlb,by omega,by go_num,ah HJ3⟩,by simp[intOf];omega⟩
    ·have hbb:b=a:=(by omega);subst hbb;have hbd2:¬(b:Int)<(b:Int):=(by omega);have hJ2:JI w n0 lb BU BS nt Us ak X (b+1) false 0 c' wr:=by
      have e:sD b true b=sD (b+1) false 0:=funext (Tt b);exact⟨by rw[<-e];exact hJ.lg,by rw[<-e];exact hJ.p,hJ.below,hJ.keep,hJ.size⟩
     have HJ2:=aj hJ2;clear hJ hJ2
     go_wp2_with fail
     exact⟨⟨b+1,c',hlt,by omega,by go_num,ah HJ2⟩,by simp[intOf];omega⟩
  ·have haa:a=nt:=(by omega);subst haa;have hbd:¬(a:Int)<(a:Int):=(by omega);have hLF:LG n0 wr lb BU BS fZ (pV a) Us ak X:=hJ.lg.cls (ah7 _ _) (hJ.lg.sm.congr (λk hk=>Tv a k hk));have Q1:=aj hLF;have Q2:=aj hJ;clear hJ hLF
   go_wp2_with fail
   go_end0
   exact⟨⟨_,rfl⟩,ah Q1,(ah Q2).below,(ah Q2).keep,(ah Q2).size⟩
theorem vX(n0:Nat)(w:World)(lb BU BS:Nat)(f:Key->Key)(dom:Key->Prop)(X:Nat->Prop)(aN Us:List Key)(ak:List Rule)(L':List (List aU))(a b:Nat)(hA:Ask f dom aN (61,a,b))(h:LG n0 w lb BU BS f dom Us ak X)(hP:jW Us ak L')(hc:∀q∈Us,q∈aN)(h9:aN.length<=900)(hn:n0<=w.heap.size) :
  Calls prog 154 #[.pointer (some ⟨lb,0,none⟩),.agg #[.int .u8 61,.int .i64 a,.int .i64 b]] w λe w'=>e=.returned (.agg #[.int .i64 ((put Us (f (61,a,b))).idxOf (f (61,a,b))),.bool true])/\LG n0 w' lb BU BS f dom (put Us (f (61,a,b))) ak X/\jW (put Us (f (61,a,b))) ak L'/\(∀q∈put Us (f (61,a,b)),q∈aN)/\Below n0 w w'/\VK w w':=
 GR n0 w lb BU BS f dom X aN Us ak L' (61,a,b) hA h hP hc h9 hn
structure EI(w:World)(n0 lb BU BS:Nat)(f:Key->Key)(dom:Key->Prop)(X:Nat->Prop)(aN:List Key)(L':List (List aU))(W:World):Prop where
 ls:LS n0 lb BU BS f dom X aN L' W
 below:Below n0 w W
 keep:VK w W
 size:w.heap.size<=W.heap.size
theorem EI.grow{w:World}{n0 lb BU BS:Nat}{f:Key->Key}{dom:Key->Prop}{X:Nat->Prop}{aN:List Key}{L':List (List aU)}{W W':World}(h:EI w n0 lb BU BS f dom X aN L' W)(hn:n0<=w.heap.size)(hg:W.grownBy W' none):EI w n0 lb BU BS f dom X aN L' W':=by
 obtain⟨Us,ak,h1,h2,h3⟩:=h.ls;exact⟨⟨Us,ak,h1.grow hg,h2,h3⟩,h.below.trans ((But.aA hg).below (af7 hn h.size) (λk _ e=>by cases e)),h.keep.trans (VK.grown hg),af7 h.size hg.size⟩
theorem U0(X:Nat->Prop)(n0:Nat)(w:World)(lb BU BS:Nat)(f:Key->Key)(dom:Key->Prop)(aN:List Key)(L:List (List aU))(nt:Nat)(hLS:LS n0 lb BU BS f dom X aN L w)(hX:∀k,X k->k<w.heap.size)(h9:aN.length<=900)(hsm:Vh f dom nt)(hc:∀a b,a<nt->b<nt->f (61,a,b)∈aN)(h0:0<nt)(hnt:nt<=7)(hn:n0<=w.heap.size)(hL:L.length<=2000) :
  Calls prog 112 #[.pointer (some ⟨lb,0,none⟩),.int .i64 nt] w λe w'=>(∃z,e=.returned z)/\EI w n0 lb BU BS f dom X aN (L++QW f nt) w':=by
 have hask:Hid (∀a b,a<nt->b<nt->Ask f dom aN (61,a,b)):=λa b ha hb=>hsm.ask hc (by omega) ha hb;have hlen:Hid (∀a b c,a<=nt->b<=nt->c<=a->((L++[[(f (bH 0 0),true)]])++((List.range a).flatMap λa=>(List.range nt).flatMap λb=>(List.range a).map λc=>[(f (bH a b),false),(f (bH b c),false),(f (bH a c),true)])++((List.range b).flatMap λb=>(List.range a).map λc=>[(f (bH a b),false),(f (bH b c),false),(f (bH a c),true)])++((List.range c).map λc=>[(f (bH a b),false),(f (bH b c),false),(f (bH a c),true)])).length<=5000):=λa b c ha hb hc=>by
  have e1:∀k x,(((List.range k).flatMap λb=>(List.range x).map λc=>[(f (bH x b),false),(f (bH b c),false),(f (bH x c),true)]:List (List aU))).length=k*x:=λk x=>by
   induction k with
   |zero=>simp
   |succ k ih=>rw[dO,af8,ih];simp;rw[an0];omega
  have e2:∀k,k<=nt->(((List.range k).flatMap λa=>(List.range nt).flatMap λb=>(List.range a).map λc=>[(f (bH a b),false),(f (bH b c),false),(f (bH a c),true)]:List (List aU))).length<=k*49:=λk=>by
   induction k with
   |zero=>intro _;simp
   |succ k ih=>
    intro hk;rw[dO,af8,e1];have:=ih (by omega);have h3:nt*k<=7*7:=Nat.mul_le_mul (by omega) (by omega);omega
  have h1:=e2 a ha;have h2:=e1 b a;have h3:b*a<=7*7:=Nat.mul_le_mul (by omega) (by omega);have h4:a*49<=7*49:=Nat.mul_le_mul_right _ (by omega);simp only[af8,ai8,aq8,ao8]at *;omega
 obtain⟨Us,ak,iQ,kY,hUC⟩:=hLS;have a00:=ah hask 0 0 h0 h0;clear hsm hc
 go_enter func112,ntmps112
 have WZ:=gW 0 0 w;simp only[Int.natCast_zero]at WZ
 go_wp2_with fail
 refine WZ.mono ?_;rintro e w1 ⟨rfl,hg1⟩;have WI:=vX n0 w1 lb BU BS f dom X aN Us ak L 0 0 a00 (iQ.grow hg1) kY hUC h9 (af7 hn hg1.size);simp only[Int.natCast_zero]at WI
 go_wp2_with fail
 refine WI.mono ?_;rintro e w2 ⟨rfl,iJ,oz,Di,hB2,hK2⟩;have hs2:=hB2.size;have hs1:=hg1.size;have hdm:=dA X n0 (w2.alloc (.cells #[.int .i64 ((put Us (f (61,0,0))).idxOf (f (61,0,0))),.bool true] 207)) lb BU BS f dom _ ak L _ [(f (61,0,0),true)] (iJ.grow (ad4 _ _ none)) (λq e=>by have:=hX q e;simp;omega) oz (RX w2 (vw (put Us (f (61,0,0))) (f (61,0,0),true))) (by simp) (by simp) (by simpa using aT Us (f (61,0,0))) (by simp;omega) (by rw[oz.len];omega);have hgb:w2.grownBy (w2.alloc (.cells #[.int .i64 ((put Us (f (61,0,0))).idxOf (f (61,0,0))),.bool true] 207)) none:=ad4 _ _ none;generalize (put Us (f (61,0,0))).idxOf (f (61,0,0))=ix at hdm hgb;clear WZ WI
 go_wp2_with fail
 refine hdm.mono ?_;rintro e w3 ⟨⟨z3,rfl⟩,dS,iD,iC,hB3,hK3⟩;have hE0:EI w n0 lb BU BS f dom X aN (L++[[(f (bH 0 0),true)]]) w3:=by
  refine⟨⟨_,dS,iD,iC,Di⟩,?_,?_,?_⟩
  ·exact((((But.aA hg1).below hn (λk _ e=>by cases e)).trans hB2).trans ((But.aA hgb).below (by omega) (λk _ e=>by cases e))).trans hB3
  ·exact(((VK.grown hg1).trans hK2).trans (VK.grown hgb)).trans hK3
  ·have:=hB3.size;simp at this;omega
 clear hdm iD iC hB3 hK3 iJ oz hB2 hK2 Di iQ kY hUC hg1 hgb hs1 hs2 a00;have HE0:=aj hE0;clear hE0
 go_wp2_with fail
 go_loopw [14] (λi wr=>∃a:Nat,a<=nt/\i=.int .i64 a/\EI w n0 lb BU BS f dom X aN ((L++[[(f (bH 0 0),true)]])++((List.range a).flatMap λa=>(List.range nt).flatMap λb=>(List.range a).map λc=>[(f (bH a b),false),(f (bH b c),false),(f (bH a c),true)])) wr) (λi _=>nt-(intOf i).toNat)
 case atStart=>exact⟨0,ah2 _,rfl,by simpa using ah HE0⟩
 case round=>
  obtain⟨a,ha,rfl,hE⟩:=hrel;by_cases hlt:a<nt
  ·have hbd:(a:Int)<(nt:Int):=(by omega);have HE:=aj hE;clear hE
   go_wp2_with fail
   go_loopw [18] (λi wr=>∃b:Nat,b<=nt/\i=.int .i64 b/\EI w n0 lb BU BS f dom X aN ((L++[[(f (bH 0 0),true)]])++((List.range a).flatMap λa=>(List.range nt).flatMap λb=>(List.range a).map λc=>[(f (bH a b),false),(f (bH b c),false),(f (bH a c),true)])++((List.range b).flatMap λb=>(List.range a).map λc=>[(f (bH a b),false),(f (bH b c),false),(f (bH a c),true)])) wr) (λi _=>nt-(intOf i).toNat)
   case atStart=>exact⟨0,ah2 _,rfl,by simpa using ah HE⟩
   case round=>
    obtain⟨b,hb,rfl,hE⟩:=hrel;by_cases hlb:b<nt
    ·have hbd2:(b:Int)<(nt:Int):=(by omega);have HE2:=aj hE;clear hE
     go_wp2_with fail
     go_loopw [22] (λi wr=>∃c:Nat,c<=a/\i=.int .i64 c/\EI w n0 lb BU BS f dom X aN ((L++[[(f (bH 0 0),true)]])++((List.range a).flatMap λa=>(List.range nt).flatMap λb=>(List.range a).map λc=>[(f (bH a b),false),(f (bH b c),false),(f (bH a c),true)])++((List.range b).flatMap λb=>(List.range a).map λc=>[(f (bH a b),false),(f (bH b c),false),(f (bH a c),true)])++((List.range c).map λc=>[(f (bH a b),false),(f (bH b c),false),(f (bH a c),true)])) wr) (λi _=>a-(intOf i).toNat)
     case atStart=>exact⟨0,ah2 _,rfl,by simpa using ah HE2⟩
     case round=>
      obtain⟨c,hc,rfl,hE⟩:=hrel;by_cases hlc:c<a
      ·have Zr:(c:Int)<(a:Int):=(by omega);have hll:=ah hlen a b c (by omega) (by omega) (by omega);have hnx:=LZ (λc=>[(f (bH a b),false),(f (bH b c),false),(f (bH a c),true)]) c;have HNX:=aj hnx;clear hnx;have cO:Hid (∀W',EI w n0 lb BU BS f dom X aN (((L++[[(f (bH 0 0),true)]])++((List.range a).flatMap λa=>(List.range nt).flatMap λb=>(List.range a).map λc=>[(f (bH a b),false),(f (bH b c),false),(f (bH a c),true)])++((List.range b).flatMap λb=>(List.range a).map λc=>[(f (bH a b),false),(f (bH b c),false),(f (bH a c),true)]))++((List.range c).map λc=>[(f (bH a b),false),(f (bH b c),false),(f (bH a c),true)])++[[(f (61,a,b),false),(f (61,b,c),false),(f (61,a,c),true)]]) W'->EI w n0 lb BU BS f dom X aN (((L++[[(f (bH 0 0),true)]])++((List.range a).flatMap λa=>(List.range nt).flatMap λb=>(List.range a).map λc=>[(f (bH a b),false),(f (bH b c),false),(f (bH a c),true)])++((List.range b).flatMap λb=>(List.range a).map λc=>[(f (bH a b),false),(f (bH b c),false),(f (bH a c),true)]))++((List.range (c+1)).map λc=>[(f (bH a b),false),(f (bH b c),false),(f (bH a c),true)])) W'):=λW' h=>by
        rw[ah HNX,<-ak2];exact h
       obtain⟨M,hM⟩:∃M,((L++[[(f (bH 0 0),true)]])++((List.range a).flatMap λa=>(List.range nt).flatMap λb=>(List.range a).map λc=>[(f (bH a b),false),(f (bH b c),false),(f (bH a c),true)])++((List.range b).flatMap λb=>(List.range a).map λc=>[(f (bH a b),false),(f (bH b c),false),(f (bH a c),true)]))++((List.range c).map λc=>[(f (bH a b),false),(f (bH b c),false),(f (bH a c),true)])=M:=⟨_,rfl⟩;rw[hM]at hE hll cO;clear hM HNX;obtain⟨Us,ak,iQ,kY,hUC⟩:=hE.ls;have hbs:=hE.below.size;have HE3:=aj hE;have hsw:=hE.size;clear hE;have A1:=ah hask a b (by omega) (by omega);have A2:=ah hask b c (by omega) (by omega);have A3:=ah hask a c (by omega) (by omega);have hq1:=gW a b wr
       go_wp2_with fail
       refine hq1.mono ?_;rintro e w1 ⟨rfl,hg1⟩;have hs1:=hg1.size;have ho1:=vX n0 w1 lb BU BS f dom X aN Us ak M a b A1 (iQ.grow hg1) kY hUC h9 (by omega);have HK1:=aj (VK.grown hg1);have HB1:Hid (Below n0 wr w1):=(But.aA hg1).below (by omega) (λk _ e=>by cases e);clear hg1 hq1 iQ kY hUC
       go_wp2_with fail
       refine ho1.mono ?_;rintro e w2 ⟨rfl,iJ,oz,Di,hB2,hK2⟩;have hm1:f (61,a,b)∈put Us (f (61,a,b)):=aT _ _;generalize hU1:put Us (f (61,a,b))=U1 at iJ oz Di hm1;clear hU1 ho1;generalize hx1:U1.idxOf (f (61,a,b))=x1;have hn1:=fJ x1 true w2;have hs2:=hB2.size;have HB2:=aj hB2;have HK2:=aj hK2;clear hB2 hK2;have HX1:=aj hx1;clear hx1
       go_wp2_with fail
       refine hn1.mono ?_;rintro e w3 ⟨rfl,hg3⟩;have hs3:=hg3.size;have hq2:=gW b c w3;have iD:=iJ.grow hg3;have HK3:=aj (VK.grown hg3);have HB3:Hid (Below n0 w2 w3):=(But.aA hg3).below (by omega) (λk _ e=>by cases e);clear hg3 hn1 iJ
       go_wp2_with fail
       refine hq2.mono ?_;rintro e w4 ⟨rfl,hg4⟩;have hs4:=hg4.size;have ho2:=vX n0 w4 lb BU BS f dom X aN U1 ak M b c A2 (iD.grow hg4) oz Di h9 (by omega);have HK4:=aj (VK.grown hg4);have HB4:Hid (Below n0 w3 w4):=(But.aA hg4).below (by omega) (λk _ e=>by cases e);clear hg4 hq2 iD oz Di
       go_wp2_with fail
       refine ho2.mono ?_;rintro e w5 ⟨rfl,IL,II,Nw,hB5,hK5⟩;have hm2:f (61,b,c)∈put U1 (f (61,b,c)):=aT _ _;have hp12:=fH U1 (f (61,b,c));generalize hU2:put U1 (f (61,b,c))=U2 at IL II Nw hm2 hp12;clear hU2 ho2;generalize hx2:U2.idxOf (f (61,b,c))=x2;have hn2:=fJ x2 true w5;have hs5:=hB5.size;have HB5:=aj hB5;have HK5:=aj hK5;clear hB5 hK5;have HX2:=aj hx2;clear hx2
       go_wp2_with fail
       refine hn2.mono ?_;rintro e w6 ⟨rfl,hg6⟩;have hs6:=hg6.size;have hq3:=gW a c w6;have ZA:=IL.grow hg6;have HK6:=aj (VK.grown hg6);have HB6:Hid (Below n0 w5 w6):=(But.aA hg6).below (by omega) (λk _ e=>by cases e);clear hg6 hn2 IL
       go_wp2_with fail
       refine hq3.mono ?_;rintro e w7 ⟨rfl,hg7⟩;have hs7:=hg7.size;have ho3:=vX n0 w7 lb BU BS f dom X aN U2 ak M a c A3 (ZA.grow hg7) II Nw h9 (by omega);have HK7:=aj (VK.grown hg7);have HB7:Hid (Below n0 w6 w7):=(But.aA hg7).below (by omega) (λk _ e=>by cases e);clear hg7 hq3 ZA II Nw
       go_wp2_with fail
       refine ho3.mono ?_;rintro e w8 ⟨rfl,Ag,vG,Nv,hB8,hK8⟩;have hm3:f (61,a,c)∈put U2 (f (61,a,c)):=aT _ _;have hp23:=fH U2 (f (61,a,c));generalize hU3:put U2 (f (61,a,c))=U3 at Ag vG Nv hm3 hp23;clear hU3 ho3;generalize hx3:U3.idxOf (f (61,a,c))=x3;have hs8:=hB8.size;have HB8:=aj hB8;have HK8:=aj hK8;clear hB8 hK8;have e1:vw U3 (f (61,a,b),false)=(x1,false):=(by unfold vw;rw[jo (hp12.trans hp23) hm1,ah HX1]);have e2:vw U3 (f (61,b,c),false)=(x2,false):=(by unfold vw;rw[jo hp23 hm2,ah HX2]);have e3:vw U3 (f (61,a,c),true)=(x3,true):=(by unfold vw;rw[hx3]);have hbt:=nK w8 (x1,false) (x2,false) (x3,true);have hmap:[(f (61,a,b),false),(f (61,b,c),false),(f (61,a,c),true)].map (vw U3)=[(x1,false),(x2,false),(x3,true)]:=(by simp only[ap8,List.map_nil,e1,e2,e3]);rw[<-hmap]at hbt;simp only at hbt;have hgb:w8.grownBy (w8.alloc (.cells #[.int .i64 x1,.bool false,.int .i64 x2,.bool false,.int .i64 x3,.bool true] 207)) none:=ad4 _ _ none;have hdm:=dA X n0 _ lb BU BS f dom U3 ak M _ [(f (61,a,b),false),(f (61,b,c),false),(f (61,a,c),true)] (Ag.grow hgb) (λq e=>by have:=hX q e;simp;omega) vG hbt (by simp) (by simp) (by
        intro l hl;simp only[ah8,ak8,ap2]at hl;rcases hl with rfl|rfl|rfl
        ·exact(hp12.trans hp23).mem hm1
        ·exact hp23.mem hm2
        ·exact hm3) (by simp;omega) (by rw[vG.len];omega)
       have HKb:=aj (VK.grown hgb);have HBb:Hid (Below n0 w8 _):=(But.aA hgb).below (by omega) (λk _ e=>by cases e);have HUC:=aj Nv;clear hgb hbt Ag vG Nv hx3 e1 e2 e3 hmap hm1 hm2 hm3 hp12 hp23 A1 A2 A3
       go_wp2_with fail
       refine hdm.mono ?_;rintro e w9 ⟨⟨z9,rfl⟩,x9,FW,Dj,hB9,hK9⟩;have hs9:=hB9.size;have hsb:=(ah HBb).size;have hEF:=ah cO w9 ⟨⟨U3,x9,FW,Dj,ah HUC⟩,((ah HE3).below.trans (ah HB1)).trans ((((((((ah HB2).trans (ah HB3)).trans (ah HB4)).trans (ah HB5)).trans (ah HB6)).trans (ah HB7)).trans (ah HB8)).trans ((ah HBb).trans hB9)),((ah HE3).keep.trans (ah HK1)).trans ((((((((ah HK2).trans (ah HK3)).trans (ah HK4)).trans (ah HK5)).trans (ah HK6)).trans (ah HK7)).trans (ah HK8)).trans ((ah HKb).trans hK9)),by omega⟩;have HEF:=aj hEF;clear hEF hdm FW Dj hB9 hK9
       go_wp2_with fail
       exact⟨⟨c+1,hlc,by go_num,ah HEF⟩,by simp[intOf];omega⟩
      ·have hcc:c=a:=(by omega);subst hcc;have Zr:¬(c:Int)<(c:Int):=(by omega);have HN:=aj (dO (λb=>(List.range c).map λc'=>[(f (bH c b),false),(f (bH b c'),false),(f (bH c c'),true)]) b);have HE3:=aj hE;clear hE
       go_wp2_with fail
       refine⟨⟨b+1,hlb,by go_num,?_⟩,by simp[intOf];omega⟩;rw[ah HN,<-ak2];exact ah HE3
    ·have hbb:b=nt:=(by omega);subst hbb;have hbd2:¬(b:Int)<(b:Int):=(by omega);have HN:=aj (dO (λa=>(List.range b).flatMap λb'=>(List.range a).map λc=>[(f (bH a b'),false),(f (bH b' c),false),(f (bH a c),true)]) a);have HE3:=aj hE;clear hE
     go_wp2_with fail
     refine⟨⟨a+1,hlt,by go_num,?_⟩,by simp[intOf];omega⟩;rw[ah HN,<-ak2];exact ah HE3
  ·have haa:a=nt:=(by omega);subst haa;have hbd:¬(a:Int)<(a:Int):=(by omega);have HE3:=aj hE;clear hE
   go_wp2_with fail
   go_end0
   refine⟨⟨_,rfl⟩,?_⟩;have h:=ah HE3;rw[ak2]at h;exact h
def xJ(f:Key->Key)(ts:List Key)(a b:Nat):List (List aU):=
 if (ts.getD a (0,0,0)).1=(ts.getD b (0,0,0)).1 then [[(f (bH (ts.getD a (0,0,0)).2.1 (ts.getD b (0,0,0)).2.1),false),(f (bH (ts.getD a (0,0,0)).2.2 (ts.getD b (0,0,0)).2.2),false),(f (bH a b),true)]]else []
theorem QS(f:Key->Key)(ts:List Key):VG f ts=(List.range ts.length).flatMap λa=>(List.range a).flatMap λb=>xJ f ts a b:=rfl
theorem Dq(f:Key->Key)(ts:List Key)(a b:Nat):(xJ f ts a b).length<=1:=by unfold xJ;split<;>simp
theorem jV{α:Type}(g:Nat->List α)(c:Nat)(h:∀i,(g i).length<=c):∀k,((List.range k).flatMap g).length<=k*c:=by
 intro k
 induction k with
 |zero=>simp
 |succ k ih=>rw[dO,af8,an0];have:=h k;omega
theorem Rj(X:Nat->Prop)(n0:Nat)(w:World)(lb BU BS:Nat)(f:Key->Key)(dom:Key->Prop)(aN:List Key)(L:List (List aU))(GT:Nat)(ts:List Key)(hLS:LS n0 lb BU BS f dom X aN L w)(hX:∀k,X k->k<w.heap.size)(h9:aN.length<=900)(hsm:Vh f dom ts.length)(hc:∀a b,a<ts.length->b<ts.length->f (61,a,b)∈aN)(hnt:ts.length<=7)(hn:n0<=w.heap.size)(hL:L.length<=5000)
 (hrt:bQ w GT ts)(hG:GT<n0)(ht:∀i (hi:i<ts.length),ts[i].2.1<ts.length/\ts[i].2.2<ts.length) :
  Calls prog 113 #[.pointer (some ⟨lb,0,none⟩),.slice (some ⟨GT,0,none⟩) ts.length ts.length] w λe w'=>(∃z,e=.returned z)/\EI w n0 lb BU BS f dom X aN (L++VG f ts) w':=by
 have hask:Hid (∀a b,a<ts.length->b<ts.length->Ask f dom aN (61,a,b)):=λa b ha hb=>hsm.ask hc (by omega) ha hb;have hlen:Hid (∀a b,a<=ts.length->b<=a->((L++((List.range a).flatMap λa=>(List.range a).flatMap λb=>xJ f ts a b))++((List.range b).flatMap λb=>xJ f ts a b)).length<=6000):=λa b ha hb=>by
  have h1:((List.range a).flatMap λa=>(List.range a).flatMap λb=>xJ f ts a b).length<=a*7:=by
   have key:∀k,k<=7->((List.range k).flatMap λa=>(List.range a).flatMap λb=>xJ f ts a b).length<=k*7:=λk=>by
    induction k with
    |zero=>intro _;simp
    |succ k ih=>
     intro hk;rw[dO,af8,an0];have h1:=ih (by omega);have h2:=jV (λb=>xJ f ts k b) 1 (Dq f ts k) k;omega
   exact key a (by omega)
  have h2:=jV (λb=>xJ f ts a b) 1 (Dq f ts a) b;simp only[af8];omega
 have hE0:EI w n0 lb BU BS f dom X aN L w:=⟨hLS,ag6 _ _,VK.refl _,ad5 _⟩;have HE0:=aj hE0;have HRT:=aj hrt;have HT:=aj ht;rw[QS];clear hsm hc hLS hE0 hrt ht
 go_enter func113,ntmps113
 go_wp2_with fail
 go_loopw [10] (λi wr=>∃a:Nat,a<=ts.length/\i=.int .i64 a/\EI w n0 lb BU BS f dom X aN (L++((List.range a).flatMap λa=>(List.range a).flatMap λb=>xJ f ts a b)) wr) (λi _=>ts.length-(intOf i).toNat)
 case atStart=>exact⟨0,ah2 _,rfl,by simpa using ah HE0⟩
 case round=>
  obtain⟨a,ha,rfl,hE⟩:=hrel;by_cases hlt:a<ts.length
  ·have hbd:(a:Int)<(ts.length:Int):=(by omega);obtain⟨c0,c1,c2⟩:=((ah HRT).below hE.below hG).2 a hlt;obtain⟨ta1,ta2⟩:=ah HT a hlt;have hga:ts.getD a (0,0,0)=ts[a]:=aG hlt _;have hsz:=hE.size;have HGA:=aj hga;have HE:=aj hE;clear hE hga;generalize ts[a]=ka at c0 c1 c2 ta1 ta2 HGA;obtain⟨al,ax,ay⟩:=ka;simp only at c0 c1 c2 ta1 ta2;have hgA:wr.grownBy (wr.alloc (.cells #[.int .u8 al,.int .i64 ax,.int .i64 ay] 76)) none:=ad4 _ _ none;have hE1:=(ah HE).grow hn hgA;have b5:(wr.alloc (.cells #[.int .u8 al,.int .i64 ax,.int .i64 ay] 76)).heap[wr.heap.size]?=some (.cells #[.int .u8 al,.int .i64 ax,.int .i64 ay] 76 (0,0)):=ae9 _ _;have HE1:=aj hE1;have B5:=aj b5;obtain⟨B,hB⟩:∃B,wr.heap.size=B:=⟨_,rfl⟩;clear hE1 b5 hgA
   go_wp2_with fail
   rw[hB]at B5;have HB:=aj hB;clear hB
   go_loopw [19] (λi wq=>∃b:Nat,b<=a/\i=.int .i64 b/\EI w n0 lb BU BS f dom X aN ((L++((List.range a).flatMap λa=>(List.range a).flatMap λb=>xJ f ts a b))++((List.range b).flatMap λb=>xJ f ts a b)) wq/\wq.heap[B]?=some (.cells #[.int .u8 al,.int .i64 ax,.int .i64 ay] 76 (0,0))) (λi _=>a-(intOf i).toNat)
   case atStart=>exact⟨0,ah2 _,rfl,by simpa using ah HE1,ah B5⟩
   case round=>
    clear HE1 B5 c0 c1 c2;obtain⟨b,hb,rfl,hE,b5⟩:=hrel;by_cases hlb:b<a
    ·have hbd2:(b:Int)<(a:Int):=(by omega);obtain⟨c0,c1,c2⟩:=((ah HRT).below hE.below hG).2 b (by omega);obtain⟨tb1,tb2⟩:=ah HT b (by omega);have hgb:ts.getD b (0,0,0)=ts[b]:=aG (by omega) _;have hll:=ah hlen a b (by omega) (by omega);have aaD:=hE.size;have hfb:xJ f ts a b=if al=ts[b].1 then [[(f (61,ax,ts[b].2.1),false),(f (61,ay,ts[b].2.2),false),(f (61,a,b),true)]]else []:=by
      unfold xJ bH;rw[ah HGA,hgb]
     have cO:Hid (∀W',EI w n0 lb BU BS f dom X aN (((L++((List.range a).flatMap λa=>(List.range a).flatMap λb=>xJ f ts a b))++((List.range b).flatMap λb=>xJ f ts a b))++xJ f ts a b) W'->EI w n0 lb BU BS f dom X aN ((L++((List.range a).flatMap λa=>(List.range a).flatMap λb=>xJ f ts a b))++((List.range (b+1)).flatMap λb=>xJ f ts a b)) W'):=λW' h=>by
      rw[dO,<-ak2];exact h
     rw[hfb]at cO;clear hfb hgb;generalize ts[b]=kb at c0 c1 c2 tb1 tb2 cO;obtain⟨bl,bx,by'⟩:=kb;simp only at c0 c1 c2 tb1 tb2 cO;have hgA:wr.grownBy (wr.alloc (.cells #[.int .u8 bl,.int .i64 bx,.int .i64 by'] 76)) none:=ad4 _ _ none;obtain⟨W1,hW1⟩:∃W1,wr.alloc (.cells #[.int .u8 bl,.int .i64 bx,.int .i64 by'] 76)=W1:=⟨_,rfl⟩;have b7:W1.heap[wr.heap.size]?=some (.cells #[.int .u8 bl,.int .i64 bx,.int .i64 by'] 76 (0,0)):=(by rw[<-hW1];exact ae9 _ _);rw[hW1]at hgA;have b51:=aI (VK.grown hgA) b5;have hE1:=hE.grow hn hgA;have k50:W1.cell? ⟨B,0,none⟩=some (.int .u8 al):=(by rw[cell_of b51];rfl);have k70:W1.cell? ⟨wr.heap.size,0,none⟩=some (.int .u8 bl):=(by rw[cell_of b7];rfl);obtain⟨C,hC⟩:∃C,wr.heap.size=C:=⟨_,rfl⟩;have HE1:=aj hE1;have B51:=aj b51;have B7:=aj b7;rw[hC]at B7 k70;obtain⟨M,hM⟩:∃M,(L++((List.range a).flatMap λa=>(List.range a).flatMap λb=>xJ f ts a b))++((List.range b).flatMap λb=>xJ f ts a b)=M:=⟨_,rfl⟩;rw[hM]at hll cO HE1;have hsW:=hE1.size;have HM:=aj hM;clear hE hE1 b51 b7 b5 hgA hM;by_cases hlet:al=bl
     ·subst hlet;rw[af6 rfl]at cO
      go_wp2_with fail
      clear hW1 hC;obtain⟨V,hVd⟩:∃V,W1.drew=V:=⟨_,rfl⟩;have jw:W1.grownBy V none:=(by rw[<-hVd];exact⟨rfl,rfl,rfl,ad5 _,λ_ _ _=>rfl⟩);refine ah0 (S:=λW'=>VK V W') rfl ?_;have hS0:VK V V:=VK.refl _;simp only[ae2,ae1,ae8,Nat.reduceAdd,ae0,ad9,ae4,ae7,ae6];change wpAnyH prog .any _ _ _ _ _ _ W1.drew;rw[hVd];clear hVd;have bA:=aI (VK.grown jw) (ah B51);have bB:=aI (VK.grown jw) (ah B7);have hEV:=(ah HE1).grow hn jw;have hsV:=hEV.size;obtain⟨Us,ak,iQ,kY,hUC⟩:=hEV.ls;have A1:=ah hask ax bx ta1 tb1;have A2:=ah hask ay by' ta2 tb2;have A3:=ah hask a b (by omega) (by omega);refine tH 0 (.pointer (some ⟨lb,0,none⟩)) (λw' hS=>?_) hS0 ?_
      ·go_simp
      simp only[aC];refine tH 1 (.pointer (some ⟨lb,0,none⟩)) (λw' hS=>?_) hS0 ?_
      ·go_simp
      simp only[aC];refine tH 2 (.pointer (some ⟨B,1,none⟩)) (λw' hS=>?_) hS0 ?_
      ·go_simp
      simp only[aC];refine tH 3 (.int .i64 ax) (λw' hS=>?_) hS0 ?_
      ·have q:=aI hS bA;have q0:=(cell_of q 1)
       go_simp
      simp only[aC];refine tH 4 (.pointer (some ⟨C,1,none⟩)) (λw' hS=>?_) hS0 ?_
      ·go_simp
      simp only[aC];refine tH 5 (.int .i64 bx) (λw' hS=>?_) hS0 ?_
      ·have q:=aI hS bB;have q0:=(cell_of q 1)
       go_simp
      simp only[aC];refine tH 9 (.pointer (some ⟨lb,0,none⟩)) (λw' hS=>?_) hS0 ?_
      ·go_simp
      simp only[aC];refine tH 10 (.pointer (some ⟨B,2,none⟩)) (λw' hS=>?_) hS0 ?_
      ·go_simp
      simp only[aC];refine tH 11 (.int .i64 ay) (λw' hS=>?_) hS0 ?_
      ·have q:=aI hS bA;have q0:=(cell_of q 2)
       go_simp
      simp only[aC];refine tH 12 (.pointer (some ⟨C,2,none⟩)) (λw' hS=>?_) hS0 ?_
      ·go_simp
      simp only[aC];refine tH 13 (.int .i64 by') (λw' hS=>?_) hS0 ?_
      ·have q:=aI hS bB;have q0:=(cell_of q 2)
       go_simp
      simp only[aC];refine tH 17 (.pointer (some ⟨lb,0,none⟩)) (λw' hS=>?_) hS0 ?_
      ·go_simp
      simp only[aC];refine tH 18 (.int .i64 a) (λw' hS=>?_) hS0 ?_
      ·go_simp
      simp only[aC];refine tH 19 (.int .i64 b) (λw' hS=>?_) hS0 ?_
      ·go_simp
      simp only[aC];refine oH 6 (λK hK=>?_);go_simp;refine(gW ax bx V).mono ?_;rintro e w1 ⟨rfl,hg1⟩;replace hS0:=hS0.trans (VK.grown hg1);refine hK.out _ _ hS0 ?_;clear hK K;have hs1:=hg1.size;have hB1:Below n0 V w1:=(But.aA hg1).below (by omega) (λk _ e=>by cases e);refine oH 7 (λK hK=>?_);go_simp;refine(vX n0 w1 lb BU BS f dom X aN Us ak M ax bx A1 (iQ.grow hg1) kY hUC h9 (by omega)).mono ?_;rintro e w2 ⟨rfl,iJ,oz,Di,hB2,hK2⟩;replace hS0:=hS0.trans hK2;refine hK.out _ _ hS0 ?_;clear hK K;have hm1:f (61,ax,bx)∈put Us (f (61,ax,bx)):=aT _ _;generalize hU1:put Us (f (61,ax,bx))=U1 at iJ oz Di hm1 ⊢;clear hU1;generalize hx1:U1.idxOf (f (61,ax,bx))=x1;have hs2:=hB2.size;refine oH 8 (λK hK=>?_);go_simp;refine(fJ x1 true w2).mono ?_;rintro e w3 ⟨rfl,hg3⟩;replace hS0:=hS0.trans (VK.grown hg3);refine hK.out _ _ hS0 ?_;clear hK K;have hs3:=hg3.size;have hB3:Below n0 w2 w3:=(But.aA hg3).below (by omega) (λk _ e=>by cases e);refine oH 14 (λK hK=>?_);go_simp;refine(gW ay by' w3).mono ?_;rintro e w4 ⟨rfl,hg4⟩;replace hS0:=hS0.trans (VK.grown hg4);refine hK.out _ _ hS0 ?_;clear hK K;have hs4:=hg4.size;have hB4:Below n0 w3 w4:=(But.aA hg4).below (by omega) (λk _ e=>by cases e);refine oH 15 (λK hK=>?_);go_simp;refine(vX n0 w4 lb BU BS f dom X aN U1 ak M ay by' A2 ((iJ.grow hg3).grow hg4) oz Di h9 (by omega)).mono ?_;rintro e w5 ⟨rfl,IL,II,Nw,hB5,hK5⟩;replace hS0:=hS0.trans hK5;refine hK.out _ _ hS0 ?_;clear hK K;have hm2:f (61,ay,by')∈put U1 (f (61,ay,by')):=aT _ _;have hp12:=fH U1 (f (61,ay,by'));generalize hU2:put U1 (f (61,ay,by'))=U2 at IL II Nw hm2 hp12 ⊢;clear hU2;generalize hx2:U2.idxOf (f (61,ay,by'))=x2;have hs5:=hB5.size;refine oH 16 (λK hK=>?_);go_simp;refine(fJ x2 true w5).mono ?_;rintro e w6 ⟨rfl,hg6⟩;replace hS0:=hS0.trans (VK.grown hg6);refine hK.out _ _ hS0 ?_;clear hK K;have hs6:=hg6.size;have hB6:Below n0 w5 w6:=(But.aA hg6).below (by omega) (λk _ e=>by cases e);refine oH 20 (λK hK=>?_);go_simp;refine(gW a b w6).mono ?_;rintro e w7 ⟨rfl,hg7⟩;replace hS0:=hS0.trans (VK.grown hg7);refine hK.out _ _ hS0 ?_;clear hK K;have hs7:=hg7.size;have hB7:Below n0 w6 w7:=(But.aA hg7).below (by omega) (λk _ e=>by cases e);refine oH 21 (λK hK=>?_);go_simp;refine(vX n0 w7 lb BU BS f dom X aN U2 ak M a b A3 ((IL.grow hg6).grow hg7) II Nw h9 (by omega)).mono ?_;rintro e w8 ⟨rfl,Ag,vG,Nv,hB8,hK8⟩;replace hS0:=hS0.trans hK8;refine hK.out _ _ hS0 ?_;clear hK K;have hm3:f (61,a,b)∈put U2 (f (61,a,b)):=aT _ _;have hp23:=fH U2 (f (61,a,b));generalize hU3:put U2 (f (61,a,b))=U3 at Ag vG Nv hm3 hp23 ⊢;clear hU3;generalize hx3:U3.idxOf (f (61,a,b))=x3;have hs8:=hB8.size;have e1:vw U3 (f (61,ax,bx),false)=(x1,false):=(by unfold vw;rw[jo (hp12.trans hp23) hm1,hx1]);have e2:vw U3 (f (61,ay,by'),false)=(x2,false):=(by unfold vw;rw[jo hp23 hm2,hx2]);have e3:vw U3 (f (61,a,b),true)=(x3,true):=(by unfold vw;rw[hx3]);have hbt:=nK w8 (x1,false) (x2,false) (x3,true);have hmap:[(f (61,ax,bx),false),(f (61,ay,by'),false),(f (61,a,b),true)].map (vw U3)=[(x1,false),(x2,false),(x3,true)]:=(by simp only[ap8,List.map_nil,e1,e2,e3]);rw[<-hmap]at hbt;simp only at hbt;have hgb:w8.grownBy (w8.alloc (.cells #[.int .i64 x1,.bool false,.int .i64 x2,.bool false,.int .i64 x3,.bool true] 207)) none:=ad4 _ _ none;refine oH 22 (λK hK=>?_);go_simp;replace hS0:=hS0.trans (VK.grown hgb);refine hK.out _ _ hS0 ?_;clear hK K;have hdm:=dA X n0 _ lb BU BS f dom U3 ak M _ [(f (61,ax,bx),false),(f (61,ay,by'),false),(f (61,a,b),true)] (Ag.grow hgb) (λq e=>by have:=hX q e;simp;omega) vG hbt (by simp) (by simp) (by
       intro l hl;simp only[ah8,ak8,ap2]at hl;rcases hl with rfl|rfl|rfl
       ·exact(hp12.trans hp23).mem hm1
       ·exact hp23.mem hm2
       ·exact hm3) (by simp;omega) (by rw[vG.len];omega)
      refine oH 23 (λK hK=>?_);go_simp;refine(hdm).mono ?_;rintro e w9 ⟨⟨z9,rfl⟩,x9,FW,Dj,hB9,hK9⟩;refine hK.out _ _ (hS0.trans hK9) (ag5 (by kernel_rfl) ?_ _);clear hK K;have hBb:Below n0 w8 _:=(But.aA hgb).below (by omega) (λk _ e=>by cases e);have hs9:=hB9.size;have hsb:=hgb.size;have hEF:=ah cO w9 ⟨⟨U3,x9,FW,Dj,Nv⟩,hEV.below.trans (((((((((hB1.trans hB2).trans hB3).trans hB4).trans hB5).trans hB6).trans hB7).trans hB8).trans hBb).trans hB9),hEV.keep.trans (hS0.trans hK9),by omega⟩;have b59:=aI (hS0.trans hK9) bA;have HEF:=aj hEF;have B59:=aj b59;clear hEF b59 hdm FW Dj hB9 hK9 hS0 hEV iQ kY iJ oz IL II Ag vG
      go_wp2_with fail
      exact⟨⟨b+1,hlb,by go_num,ah HEF,ah B59⟩,by simp[intOf];omega⟩
     ·rw[af2 hlet,ak9]at cO
      go_wp2_with fail
      exact⟨⟨b+1,hlb,by go_num,ah cO _ (ah HE1),ah B51⟩,by simp[intOf];omega⟩
    ·have hbb:b=a:=(by omega);subst hbb;have hbd2:¬(b:Int)<(b:Int):=(by omega);have HN:=aj (dO (λa=>(List.range a).flatMap λb=>xJ f ts a b) b);have HE3:=aj hE;clear hE
     go_wp2_with fail
     refine⟨⟨b+1,hlt,by go_num,?_⟩,by simp[intOf];omega⟩;rw[ah HN,<-ak2];exact ah HE3
  ·have haa:a=ts.length:=(by omega);subst haa;have hbd:¬(ts.length:Int)<(ts.length:Int):=(by omega);have HE3:=aj hE;clear hE
   go_wp2_with fail
   go_end0
   exact⟨⟨_,rfl⟩,ah HE3⟩
end Go.Proofs.YthcppbmkacbbiabGreat
