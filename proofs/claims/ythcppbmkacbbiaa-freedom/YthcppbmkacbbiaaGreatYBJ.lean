import Derived.Test.YthcppbmkacbbiaaGreatYAZ
import Derived.Test.YthcppbmkacbbiaaGreatYBF
set_option linter.unusedSimpArgs false
set_option maxHeartbeats 8000000
set_option maxRecDepth 100000
namespace Go.Proofs.YthcppbmkacbbiaaGreat
open Go.Proofs.Tryz
section
open Go.RowKit Go.Maps Go.WideMaps
open Sat (View Rule jw bI)
open aB (Key put dH au aP)
def qw(nt:Nat)(p:Key):Prop:=p.1=61->p.2.1<nt/\p.2.2<nt
def sG(a:Nat)(d:Bool)(b:Nat)(q:Key):Key:=if q.1=61/\(q.2.1<a\/(q.2.1=a/\((d=true/\q.2.2=a)\/q.2.2<b)))then gB q else q
theorem pG{x y:Nat}(h:x<y):gB (61,x,y)=(61,x,y):=by
 unfold gB;simp only[aj0];rw[ad6 (by omega),ad6 (by omega)]
theorem sO{x y:Nat}(h:y<x):gB (61,x,y)=(61,y,x):=by
 unfold gB;simp only[aj0];rw[ad6 (by omega),ae2 h]
theorem pI(x:Nat):gB (61,x,x)=(61,0,0):=by simp[gB]
theorem Ar(q:Key):sG 0 false 0 q=q:=by
 unfold sG;rw[ad6];rintro⟨_,h|⟨_,h|h⟩⟩
 ·omega
 ·simp at h
 ·omega
theorem NZ(a:Nat)(d:Bool)(b:Nat):sG a d b (61,0,0)=(61,0,0):=by
 unfold sG;split
 ·exact pI 0
 ·rfl
theorem N9(a:Nat):sG a false 0 (61,a,a)=(61,a,a):=by
 unfold sG;rw[ad6];rintro⟨_,h|⟨_,h|h⟩⟩
 ·simp at h
 ·simp at h
 ·omega
theorem Vg{a b:Nat}(d:Bool)(h:b<a)(c:Nat):sG a d c (61,b,a)=(61,b,a):=by
 unfold sG;split
 ·exact pG h
 ·rfl
theorem N8{a b:Nat}(h:b<a):sG a true b (61,a,b)=(61,a,b):=by
 unfold sG;rw[ad6];rintro⟨_,h1|⟨_,h1|h1⟩⟩
 ·simp at h1
 ·simp at h1;omega
 ·simp at h1
theorem KD(a:Nat)(q:Key):(if q=(61,a,a)then(61,0,0)else sG a false 0 q)=sG a true 0 q:=by
 obtain⟨c,x,y⟩:=q;by_cases e:(c,x,y)=((61,a,a):Key)
 ·rw[ae2 e];cases e;unfold sG;rw[ae2 ⟨rfl,Or.inr ⟨rfl,Or.inl ⟨rfl,rfl⟩⟩⟩,pI]
 ·rw[ad6 e];unfold sG;by_cases h:c=61/\x<a
  ·rw[ae2 ⟨h.1,Or.inl h.2⟩,ae2 ⟨h.1,Or.inl h.2⟩]
  ·rw[ad6,ad6]
   ·rintro⟨h1,h2|⟨h2,h3|h3⟩⟩
    ·exact h ⟨h1,h2⟩
    ·simp only at h1 h2 h3;exact e (by rw[h1,h2,h3.2])
    ·omega
   ·rintro⟨h1,h2|⟨h2,h3|h3⟩⟩
    ·exact h ⟨h1,h2⟩
    ·simp at h3
    ·omega
theorem N7(a b:Nat)(hb:b<a)(q:Key):(if q=(61,a,b)then(61,b,a)else sG a true b q)=sG a true (b+1) q:=by
 obtain⟨c,x,y⟩:=q;by_cases e:(c,x,y)=((61,a,b):Key)
 ·rw[ae2 e];cases e;unfold sG;rw[ae2 ⟨rfl,Or.inr ⟨rfl,Or.inr (Nat.lt_succ_self _)⟩⟩,sO hb]
 ·rw[ad6 e];unfold sG;by_cases h:c=61/\(x<a\/(x=a/\((true=true/\y=a)\/y<b)))
  ·rw[ae2 h,ae2];refine⟨h.1,h.2.imp id (λg=>⟨g.1,g.2.imp id (λg2=>by show y<b+1;omega)⟩)⟩
  ·rw[ad6 h,ad6];rintro⟨h1,h2|⟨h2,h3|h3⟩⟩
   ·exact h ⟨h1,Or.inl h2⟩
   ·exact h ⟨h1,Or.inr ⟨h2,Or.inl h3⟩⟩
   ·simp only at h1 h2 h3;by_cases hy:y=b
    ·exact e (by rw[h1,h2,hy])
    ·exact h ⟨h1,Or.inr ⟨h2,Or.inr (by show y<b;omega)⟩⟩
theorem Sv(a:Nat)(q:Key):sG a true a q=sG (a+1) false 0 q:=by
 obtain⟨c,x,y⟩:=q;unfold sG;by_cases h:c=61/\x<a+1
 ·rw[ae2 (c:=_/\(x<a+1\/_)) ⟨h.1,Or.inl h.2⟩];by_cases h2:c=61/\(x<a\/(x=a/\((true=true/\y=a)\/y<a)))
  ·rw[ae2 h2]
  ·rw[ad6 h2];have hx:x=a:=by
    refine ag1 λhn=>h2 ⟨h.1,Or.inl ?_⟩
    show x<a
    have:=h.2;omega
   have hy:x<y:=by
    refine ag1 λhn=>h2 ⟨h.1,Or.inr ⟨hx,?_⟩⟩;by_cases e:y=a
    ·exact Or.inl ⟨rfl,e⟩
    ·right;show y<a;omega
   have:=h.1;rw[this,pG hy]
 ·rw[ad6,ad6]
  ·rintro⟨h1,h2|⟨_,h3|h3⟩⟩
   ·exact h ⟨h1,h2⟩
   ·simp at h3
   ·omega
  ·rintro⟨h1,h2|⟨h2,_⟩⟩
   ·exact h ⟨h1,by show x<a+1;simp only at h2;omega⟩
   ·exact h ⟨h1,by show x<a+1;simp only at h2;omega⟩
theorem Sz(n:Nat)(q:Key)(hq:qw n q):sG n false 0 q=gB q:=by
 unfold sG;by_cases h:q.1=61
 ·rw[ae2 ⟨h,Or.inl (hq h).1⟩]
 ·rw[ad6 (λg=>h g.1),eX.other q h]
theorem LG.cls{n0:Nat}{w w':World}{lb BU BS:Nat}{f f':Key->Key}{dom:Key->Prop}{Us:List Key}{ak:List Rule}{X:Nat->Prop}(h:LG n0 w lb BU BS f dom Us ak X)(hg:w.grownBy w' (some BS))(hp:gK w' BS f' dom 500):LG n0 w' lb BU BS f' dom Us ak X:=by
 obtain⟨rv,h1,h2,h3⟩:=h.rv;exact⟨⟨rv,h1.kept (hg.block lb h1.lt (by simpa using h1.yD h.sm)),h2.but (But.aA hg) (λk e=>by cases e;exact h.sm.oM) (λk hk e=>h2.v.yD h.sm k hk (by cases e;rfl)),h3⟩,h.us.kept (hg.block BU h.us.lt (by simpa using h.ne)),hp,h.ne,h.lo⟩
theorem gK.le{w:World}{b c c':Nat}{f:Key->Key}{dom:Key->Prop}(h:gK w b f dom c)(hc:c<=c'):gK w b f dom c':=by
 obtain⟨D,nn,h0,h1,h2⟩:=h;exact⟨D,nn,by omega,h1,h2⟩
theorem gK.NQ{w:World}{b c:Nat}{f:Key->Key}{dom:Key->Prop}(h:gK w b f dom c):∀cur t x,w.heap[b]?≠some (Obj.cells cur t x):=by
 obtain⟨D,nn,_,⟨es,c,h1,_⟩,_⟩:=h;intro cur t x e;rw[h1]at e;cases e
structure JI(w:World)(n0 lb BU BS:Nat)(nt:Nat)(Us:List Key)(ak:List Rule)(X:Nat->Prop)(a:Nat)(d:Bool)(b:Nat)(c:Nat)(W:World):Prop where
 lg:LG n0 W lb BU BS (sG a d b) (qw nt) Us ak X
 p:gK W BS (sG a d b) (qw nt) c
 below:Below n0 w W
 keep:VK w W
 size:w.heap.size<=W.heap.size
theorem JI.grow{w:World}{n0 lb BU BS nt:Nat}{Us:List Key}{ak:List Rule}{X:Nat->Prop}{a:Nat}{d:Bool}{b c:Nat}{W W':World}(h:JI w n0 lb BU BS nt Us ak X a d b c W)(hn:n0<=w.heap.size)(hg:W.grownBy W' none):JI w n0 lb BU BS nt Us ak X a d b c W':=
 ⟨h.lg.grow hg,h.p.kept (hg.block BS h.p.lt (by simp)),h.below.trans ((But.aA hg).below (ae4 hn h.size) (λk _ e=>by cases e)),h.keep.trans (VK.grown hg),ae4 h.size hg.size⟩
theorem JI.join{w:World}{n0 lb BU BS nt:Nat}{Us:List Key}{ak:List Rule}{X:Nat->Prop}{a:Nat}{d:Bool}{b c:Nat}{W W':World}(h:JI w n0 lb BU BS nt Us ak X a d b c W)(hn:n0<=w.heap.size)(hg:W.grownBy W' (some BS)){d':Bool}{b':Nat}(hp:gK W' BS (sG a d' b') (qw nt) (c+1))(hc:c+1<=500):JI w n0 lb BU BS nt Us ak X a d' b' (c+1) W':=
 ⟨h.lg.cls hg (hp.le hc),hp,h.below.trans ((But.aA hg).below (ae4 hn h.size) (λk hk e=>by cases e;have:=h.lg.lo.2.2;omega)),h.keep.trans (VK.map hg h.p.NQ),ae4 h.size hg.size⟩
theorem GY(X:Nat->Prop)(n0:Nat)(w:World)(lb BU BS nt:Nat)(Us:List Key)(ak:List Rule)(iZ:LG n0 w lb BU BS id (qw nt) Us ak X)(hP:gK w BS id (qw nt) 0)(hnt:nt<=7)(hn:n0<=w.heap.size) :
  Calls prog 129 #[.pointer (some ⟨lb,0,none⟩),.int .i64 nt] w λe w'=>(∃z,e=.returned z)/\LG n0 w' lb BU BS gB (qw nt) Us ak X/\Below n0 w w'/\VK w w'/\w.heap.size<=w'.heap.size:=by
 have hJ0:JI w n0 lb BU BS nt Us ak X 0 false 0 0 w:=⟨iZ.cls (ag8 _ _) ((hP.congr (λk _=>(Ar k).symm)).le (by omega)),hP.congr (λk _=>(Ar k).symm),af5 _ _,VK.refl _,ac2 _⟩;have HJ0:=aj hJ0;clear iZ hP hJ0
 go_enter func129,ntmps129
 go_wp2_with fail
 go_loopw [7] (λi wr=>∃a c:Nat,a<=nt/\c<=a*8/\i=.int .i64 a/\JI w n0 lb BU BS nt Us ak X a false 0 c wr) (λi _=>nt-(intOf i).toNat)
 case atStart=>exact⟨0,0,ag3 _,ac2 _,rfl,ah HJ0⟩
 case round=>
  obtain⟨a,c,ha,hc8,rfl,hJ⟩:=hrel;by_cases hlt:a<nt
  ·have hbd:(a:Int)<(nt:Int):=(by omega);obtain⟨rv,hL,_,_⟩:=hJ.lg.rv;have c1:=hL.cells.2.1;have hll:=hL.lt;have hne:lb≠BS:=hL.yD hJ.lg.sm;have HJ:=aj hJ;have hBl:=hJ.p.lt;clear hJ hL
   go_wp2_with fail
   obtain⟨V,hVd⟩:∃V,wr.drew=V:=⟨_,rfl⟩;have jD:wr.grownBy V none:=(by rw[<-hVd];exact⟨rfl,rfl,rfl,ac2 _,λ_ _ _=>rfl⟩);refine ag0 (S:=λW'=>V.grownBy W' (some BS)) rfl ?_;have hS0:V.grownBy V (some BS):=ag8 _ _;simp only[ad3,ac9,ae1,Nat.reduceAdd,ac7,ac6,ad5,ad9,ad8];change wpAnyH prog .any _ _ _ _ _ _ wr.drew;rw[hVd];clear hVd;have c1V:=jD.cell c1 (by simp);have hlB:(some lb:Option Nat)≠some BS:=(by simpa using hne);have hJV:=(ah HJ).grow hn jD;refine tH 0 (.pointer (some ⟨lb,0,none⟩)) (λw' hS=>?_) hS0 ?_
   ·go_simp
   simp only[aC];refine tH 1 (.pointer (some ⟨lb,0,none⟩)) (λw' hS=>?_) hS0 ?_
   ·go_simp
   simp only[aC];refine tH 2 (.pointer (some ⟨lb,1,none⟩)) (λw' hS=>?_) hS0 ?_
   ·go_simp
   simp only[aC];refine tH 3 (.map (some BS)) (λw' hS=>?_) hS0 ?_
   ·have q:=hS.cell c1V hlB;go_simp
   simp only[aC];refine tH 5 (.int .i64 a) (λw' hS=>?_) hS0 ?_
   ·go_simp
   simp only[aC];refine tH 6 (.int .i64 a) (λw' hS=>?_) hS0 ?_
   ·go_simp
   simp only[aC];have he0:=ig 0 0 V;simp only[Int.natCast_zero]at he0;refine oH 4 (λK hK=>?_);go_simp;refine(he0).mono ?_;rintro e w1 ⟨rfl,hg1⟩;replace hS0:=hS0.trans (hg1.but (some BS));refine hK.out _ _ hS0 ?_;clear hK K;refine oH 7 (λK hK=>?_);go_simp;refine(ig a a w1).mono ?_;rintro e w2 ⟨rfl,hg2⟩;replace hS0:=hS0.trans (hg2.but (some BS));refine hK.out _ _ hS0 ?_;clear hK K;have hJ2:=(hJV.grow hn hg1).grow hn hg2;have hjp:=AX w2 BS c (sG a false 0) (qw nt) (61,0,0) (61,a,a) hJ2.p (by omega) (λ_=>⟨by show 0<nt;omega,by show 0<nt;omega⟩) (λ_=>⟨hlt,hlt⟩) (NZ _ _ _) (N9 a) ⟨by simp,by simp,by simp⟩ ⟨by simp,by show a<=1000;omega,by show a<=1000;omega⟩;simp only[aS,Int.natCast_zero]at hjp;refine oH 8 (λK hK=>?_);go_simp;refine(hjp).mono ?_;rintro e w3 ⟨⟨z3,rfl⟩,hg3,hP3⟩;refine hK.out _ _ (hS0.trans hg3) (af4 (by kernel_rfl) ?_ _);clear hK K;have hJ3:=hJ2.join (d':=true) (b':=0) hn hg3 (hP3.congr (λk _=>KD a k)) (by omega);have HJ3:=aj hJ3;clear hJ3 hJ2 hJV hS0 hg1 hg2 hg3 hP3 hjp he0 HJ
   go_wp2_with fail
   go_loopw [20] (λi wq=>∃b c':Nat,b<=a/\c'<=a*8+1+b/\i=.int .i64 b/\JI w n0 lb BU BS nt Us ak X a true b c' wq) (λi _=>a-(intOf i).toNat)
   case atStart=>exact⟨0,c+1,ag3 _,by omega,rfl,ah HJ3⟩
   case round=>
    clear HJ3 c1 c1V hll hBl hne hlB;obtain⟨b,c',hb,hc9,rfl,hJ⟩:=hrel;by_cases hlb:b<a
    ·have hbd2:(b:Int)<(a:Int):=(by omega);obtain⟨rv,hL,_,_⟩:=hJ.lg.rv;have c1:=hL.cells.2.1;have hll:=hL.lt;have hne:lb≠BS:=hL.yD hJ.lg.sm;have HJ:=aj hJ;have hBl:=hJ.p.lt;clear hJ hL
     go_wp2_with fail
     obtain⟨V,hVd⟩:∃V,wr.drew=V:=⟨_,rfl⟩;have jD:wr.grownBy V none:=(by rw[<-hVd];exact⟨rfl,rfl,rfl,ac2 _,λ_ _ _=>rfl⟩);refine ag0 (S:=λW'=>V.grownBy W' (some BS)) rfl ?_;have hS0:V.grownBy V (some BS):=ag8 _ _;simp only[ad3,ac9,ae1,Nat.reduceAdd,ac7,ac6,ad5,ad9,ad8];change wpAnyH prog .any _ _ _ _ _ _ wr.drew;rw[hVd];clear hVd;have c1V:=jD.cell c1 (by simp);have hlB:(some lb:Option Nat)≠some BS:=(by simpa using hne);have hJV:=(ah HJ).grow hn jD;refine tH 0 (.pointer (some ⟨lb,0,none⟩)) (λw' hS=>?_) hS0 ?_
     ·go_simp
     simp only[aC];refine tH 1 (.pointer (some ⟨lb,0,none⟩)) (λw' hS=>?_) hS0 ?_
     ·go_simp
     simp only[aC];refine tH 2 (.pointer (some ⟨lb,1,none⟩)) (λw' hS=>?_) hS0 ?_
     ·go_simp
     simp only[aC];refine tH 3 (.map (some BS)) (λw' hS=>?_) hS0 ?_
     ·have q:=hS.cell c1V hlB;go_simp
     simp only[aC];refine tH 4 (.int .i64 b) (λw' hS=>?_) hS0 ?_
     ·go_simp
     simp only[aC];refine tH 5 (.int .i64 a) (λw' hS=>?_) hS0 ?_
     ·go_simp
     simp only[aC];refine tH 7 (.int .i64 a) (λw' hS=>?_) hS0 ?_
     ·go_simp
     simp only[aC];refine tH 8 (.int .i64 b) (λw' hS=>?_) hS0 ?_
     ·go_simp
     simp only[aC];refine oH 6 (λK hK=>?_);go_simp;refine(ig b a V).mono ?_;rintro e w1 ⟨rfl,hg1⟩;replace hS0:=hS0.trans (hg1.but (some BS));refine hK.out _ _ hS0 ?_;clear hK K;refine oH 9 (λK hK=>?_);go_simp;refine(ig a b w1).mono ?_;rintro e w2 ⟨rfl,hg2⟩;replace hS0:=hS0.trans (hg2.but (some BS));refine hK.out _ _ hS0 ?_;clear hK K;have hJ2:=(hJV.grow hn hg1).grow hn hg2;have hjp:=AX w2 BS c' (sG a true b) (qw nt) (61,b,a) (61,a,b) hJ2.p (by omega) (λ_=>⟨by show b<nt;omega,hlt⟩) (λ_=>⟨hlt,by show b<nt;omega⟩) (Vg true hlb b) (N8 hlb) ⟨by simp,by show b<=1000;omega,by show a<=1000;omega⟩ ⟨by simp,by show a<=1000;omega,by show b<=1000;omega⟩;simp only[aS]at hjp;refine oH 10 (λK hK=>?_);go_simp;refine(hjp).mono ?_;rintro e w3 ⟨⟨z3,rfl⟩,hg3,hP3⟩;refine hK.out _ _ (hS0.trans hg3) (af4 (by kernel_rfl) ?_ _);clear hK K;have hJ3:=hJ2.join (d':=true) (b':=b+1) hn hg3 (hP3.congr (λk _=>N7 a b hlb k)) (by omega);have HJ3:=aj hJ3;clear hJ3 hJ2 hJV hS0 hg1 hg2 hg3 hP3 hjp HJ
     go_wp2_with fail
     exact⟨⟨b+1,c'+1,hlb,by omega,by go_num,ah HJ3⟩,by simp[intOf];omega⟩
    ·have hbb:b=a:=(by omega);subst hbb;have hbd2:¬(b:Int)<(b:Int):=(by omega);have hJ2:JI w n0 lb BU BS nt Us ak X (b+1) false 0 c' wr:=by
      have e:sG b true b=sG (b+1) false 0:=funext (Sv b);exact⟨by rw[<-e];exact hJ.lg,by rw[<-e];exact hJ.p,hJ.below,hJ.keep,hJ.size⟩
     have HJ2:=aj hJ2;clear hJ hJ2
     go_wp2_with fail
     exact⟨⟨b+1,c',hlt,by omega,by go_num,ah HJ2⟩,by simp[intOf];omega⟩
  ·have haa:a=nt:=(by omega);subst haa;have hbd:¬(a:Int)<(a:Int):=(by omega);have hLF:LG n0 wr lb BU BS gB (qw a) Us ak X:=hJ.lg.cls (ag8 _ _) (hJ.lg.sm.congr (λk hk=>Sz a k hk));have Q1:=aj hLF;have Q2:=aj hJ;clear hJ hLF
   go_wp2_with fail
   go_end0
   exact⟨⟨_,rfl⟩,ah Q1,(ah Q2).below,(ah Q2).keep,(ah Q2).size⟩
end
section
open aB (Key put dH au isAtom cnt aP fD)
def lJ(nt:Nat):List Key:=(61,0,0)::(List.range nt).flatMap λy=>(List.range y).map λx=>(61,x,y)
def nV(cs:List (Int×Nat)):List Key:=(List.range cs.length).map λc=>((cs.getD c (0,0)).1,c,0)
def tV(ps:List Key):List Key:=ps.filter λq=>au q.1
def jH(nt:Nat)(cs:List (Int×Nat))(ps:List Key):List Key:=lJ nt++nV cs++tV ps
def oC(ps:List Key):List Key:=ps.filter λq=>au q.1||isAtom q.1
theorem Fq{nt:Nat}(h:nt<=7):(lJ nt).length<=22:=by
 have key:∀k,k<=7->((List.range k).flatMap λy=>(List.range y).map λx=>((61,x,y):Key)).length<=k*(k-1)/2:=by
  intro k hk
  match k,hk with
  |0,_=>decide
  |1,_=>decide
  |2,_=>decide
  |3,_=>decide
  |4,_=>decide
  |5,_=>decide
  |6,_=>decide
  |7,_=>decide
 have h1:=key nt h;have h2:nt*(nt-1)/2<=21:=by
  match nt,h with
  |0,_=>decide
  |1,_=>decide
  |2,_=>decide
  |3,_=>decide
  |4,_=>decide
  |5,_=>decide
  |6,_=>decide
  |7,_=>decide
 unfold lJ;rw[ac9];omega
theorem wI{nt a b:Nat}(ha:a<nt)(hb:b<nt):gB (61,a,b)∈lJ nt:=by
 unfold lJ;by_cases e:a=b
 ·subst e;rw[pI];simp
 ·by_cases h:a<b
  ·rw[pG h];refine List.mem_cons_of_mem _ (ak7.2 ⟨b,ai5.2 hb,ae8.2 ⟨a,ai5.2 h,rfl⟩⟩)
  ·have h':b<a:=(by omega);rw[sO h'];refine List.mem_cons_of_mem _ (ak7.2 ⟨a,ai5.2 ha,ae8.2 ⟨b,ai5.2 h',rfl⟩⟩)
theorem wL{cs:List (Int×Nat)}{c:Nat}(h:c<cs.length):(cs[c].1,c,0)∈nV cs:=by
 refine ae8.2 ⟨c,ai5.2 h,?_⟩;rw[aG h]
theorem Bj{nt:Nat}{cs:List (Int×Nat)}{ps:List Key}(h7:nt<=7)(h4:cs.length<=4)(hj:6*cnt au ps+3<=100):(jH nt cs ps).length<=42:=by
 have h1:=Fq h7;have h2:(nV cs).length=cs.length:=by simp[nV]
 have h3:(tV ps).length=cnt au ps:=by
  unfold tV cnt;rw[List.countP_eq_length_filter]
 unfold jH;rw[ae9,ae9];omega
theorem Nv{ps:List Key}(hj:3*(cnt au ps+cnt isAtom ps)<=100):(oC ps).length<=33:=by
 have h:(oC ps).length<=cnt au ps+cnt isAtom ps:=by
  unfold oC cnt
  induction ps with
  |nil=>simp
  |cons q ps ih=>
   have hp:3*(cnt au ps+cnt isAtom ps)<=100:=by
    unfold cnt at hj ⊢;rw[ap7,ap7]at hj;omega
   have:=ih hp;rw[List.filter_cons,ap7,ap7];cases h1:au q.1<;>cases h2:isAtom q.1<;>simp<;>omega
 omega
theorem DY{f:Key->Key}{Us ps aO:List Key}(h0:∀p∈Us,p∈aO)(h:∀q∈ps,q.1≠33->f q∈aO):∀k,∀p∈nG f Us ps k,p∈aO:=by
 intro k
 induction k with
 |zero=>simpa[nG]using h0
 |succ k ih=>
  by_cases hk:k<ps.length
  ·rw[lZ hk];unfold Dn;by_cases e:ps[k].1=33
   ·rw[ae2 e];exact ih
   ·rw[ad6 e];exact Em ih (h _ (ac4 hk) e)
  ·have:nG f Us ps (k+1)=nG f Us ps k:=by
    unfold nG;rw[ah2 (by omega),ah2 (by omega)]
   rw[this];exact ih
theorem Es{nt:Nat}{cs:List (Int×Nat)}{ps:List Key}(hi:aP nt cs.length ps)(hk:fD cs ps):∀q∈ps,q.1≠33->gB q∈jH nt cs ps:=by
 intro q hq h33;obtain⟨i,hlt,e⟩:=ah1 hq;have ho:=hi.ok i hlt;rw[e]at ho;unfold jH;rcases ho with⟨a,_⟩|⟨a,_⟩|⟨a,b,c⟩|⟨a,b,c⟩
 ·exact absurd a h33
 ·rw[eX.other q (by intro e;rw[e]at a;simp[au]at a)];exact an8 _ (ah3.2 ⟨hq,a⟩)
 ·rw[eX.other q (by omega)];obtain⟨h1,h2⟩:=hk.letter q hq a;have:=wL h1;have eq:q=(cs[q.2.1].1,q.2.1,0):=by rw[h2,<-c]
  rw[<-eq]at this;exact ah6 _ (an8 _ this)
 ·have eq:q=(61,q.2.1,q.2.2):=by rw[<-a]
  rw[eq];exact ah6 _ (ah6 _ (wI b c))
theorem Eo{nt nc:Nat}{ps:List Key}(hi:aP nt nc ps):∀q∈ps,q.1≠33->id q∈oC ps:=by
 intro q hq h33;obtain⟨i,hlt,e⟩:=ah1 hq;have ho:=hi.ok i hlt;rw[e]at ho;refine ah3.2 ⟨hq,?_⟩;rcases ho with⟨a,_⟩|⟨a,_⟩|⟨a,b,c⟩|⟨a,b,c⟩
 ·exact absurd a h33
 ·simp[a]
 ·have:isAtom q.1=true:=by rcases a with a|a<;>(rw[a];decide)
  simp[this]
 ·have:isAtom q.1=true:=by rw[a];decide
  simp[this]
theorem Je(nt:Nat):Uy gB (qw nt) nt:=by
 refine⟨λp h=>h,λa b ha hb=>?_,λp h=>eX.other p h⟩;by_cases e:a=b
 ·subst e;exact⟨0,0,pI a,by omega,by omega,pI 0⟩
 ·by_cases h:a<b
  ·exact⟨a,b,pG h,ha,hb,pG h⟩
  ·have h':b<a:=(by omega);exact⟨b,a,sO h',hb,ha,pG h'⟩
theorem Vh(dom:Key->Prop)(nt:Nat)(hd:∀p,dom p):Uy id dom nt:=
 ⟨λp _=>hd p,λa b ha hb=>⟨a,b,rfl,ha,hb,rfl⟩,λ_ _=>rfl⟩
end
section
open Go.RowKit
theorem vG(m:Option Nat)(w:World):Calls prog 87 #[.map m] w λe w'=>e=.returned (.slice none 0 0)/\w'=w:=by
 go_enter func87,ntmps87
 go_wp2_with fail
 go_ret
 exact⟨rfl,rfl⟩
end
section
open aB (Key put)
def sZ(b:UInt8):Bool:=decide ((b.toNat:Int)<48)||decide ((57:Int)<(b.toNat:Int))
def dU(t:ByteArray):Bool:=decide (60<t.size)||t.data.toList.any sZ
theorem Rl{t:ByteArray}{k:Nat}(hk:k<t.size):(t.data.toList.take (k+1)).any sZ=((t.data.toList.take k).any sZ||sZ t[k]):=by
 have hk':k<t.data.toList.length:=by simpa using hk
 rw[ag5,ac3 hk',List.any_append];simp[am5]
theorem any_true{t:ByteArray}{k:Nat}(h:(decide (60<t.size)||(t.data.toList.take k).any sZ)=true):dU t=true:=by
 unfold dU;rw[Bool.or_eq_true]at h ⊢;rcases h with h|h
 ·exact Or.inl h
 ·refine Or.inr ?_;rw[am1]at h ⊢;obtain⟨x,hx,hp⟩:=h;exact⟨x,ao4 hx,hp⟩
theorem KC{ts:List Key}{cs:List (Int×Nat)}{ps:List Key}(hc:aB.jv ts cs)(hp:aB.aP ts.length cs.length ps)(h:0<ps.length):0<ts.length:=by
 rcases hp.ok 0 h with⟨_,q,_⟩|⟨_,q,_⟩|⟨_,q,_⟩|⟨_,q,_⟩
 ·omega
 ·omega
 ·have:=(hc cs[ps[0].2.1] (ac4 q)).2;omega
 ·omega
end
open Go.RowKit Go.Maps Go.WideMaps
open aB (Key put RT zQ RF RP RQ)
theorem rM(w:World)(s:ByteArray)(hs:s.size<=100)(ts:List Key)(cs:List (Int×Nat))(ps:List Key)(m:Nat)(hR:aB.iT (pk s) (s.size+1) 0 0 [] [] []=.ok (s.size,ts,cs,ps,m))(h7:ts.length<=7)(h4:cs.length<=4)
 (hi:aB.Inv ts)(hic:aB.jv ts cs)(hnc:cs.Nodup)(ny:aB.aP ts.length cs.length ps)(hp:ps.length<=100) :
  Calls prog 30 #[.string s] w λe w'=>∃GT GC GP,e=.returned (.tuple #[fv GT GC GP ts.length cs.length ps.length,.int .i64 0,.int .i64 0])/\Below w.heap.size w w'/\FR w' (w.heap.size+1) GT GC GP ts cs ps:=
 SH w s hs s.size ts cs ps m (aj hR) rfl h7 h4 hi.nodup hnc ny.nd hp (Tq hi h7) (Nr hic h7) (KR ny (by omega) (by omega) (by omega))
theorem Oo(w:World)(s:ByteArray)(hm:s.size<=maxLen) :
  Calls prog 30 #[.string s] w λe w'=>(∃p0 n0 c0 p1 n1 c1 p2 n2 c2,e=.returned (.tuple #[.agg #[.slice p0 n0 c0,.slice p1 n1 c1,.slice p2 n2 c2],.int .i64 (chk s).1,.int .i64 (chk s).2]))/\Below w.heap.size w w':=by
 by_cases hs:100<s.size
 ·unfold chk;rw[ae2 hs];refine(KN w s hs hm).mono ?_;rintro e w' ⟨rfl,h⟩;exact⟨⟨_,_,_,_,_,_,_,_,_,rfl⟩,h⟩
 ·have hs':s.size<=100:=by omega
  by_cases h0:(chk s).1=0
  ·obtain⟨ts,cs,ps,hR,h7,h4,hi,hic,_,_,_,hnc,ny,_,hp⟩:=pO s hs' h0;have h1:(chk s).2=0:=by
    unfold chk aB.check;rw[ad6 hs,<-aB.mV (pk s) (s.size+1) 0 0 [] [] [],hR];simp[aB.less,show ¬(7<ts.length\/4<cs.length) by omega]
   rw[h0,h1];refine(rM w s hs' ts cs ps _ hR h7 h4 hi hic hnc ny hp).mono ?_;rintro e w' ⟨GT,GC,GP,rfl,h,_⟩;exact⟨⟨_,_,_,_,_,_,_,_,_,rfl⟩,h⟩
  ·revert h0;unfold chk;rw[ad6 hs];have hok:=aB.qJ (pk:=pk s) (N:=s.size) (λa h=>bK h) (s.size+1) 0 0 [] [] (by omega);have hls:=aB.mV (pk s) (s.size+1) 0 0 [] [] [];unfold aB.check;rw[<-hls]at hok ⊢;rcases hR:aB.iT (pk s) (s.size+1) 0 0 [] [] []with⟨E,p⟩|⟨a1,ts,cs,ps,m⟩
   ·intro _;refine(Oq w s hs' E p (aj hR)).mono ?_;rintro e w' ⟨rfl,h⟩;exact⟨⟨_,_,_,_,_,_,_,_,_,rfl⟩,h⟩
   ·rw[hR]at hok;obtain⟨p1,p2,p3,p4,p5⟩:=hok;simp only[aB.less];by_cases h1:a1<s.size
    ·simp only[ae2 h1];intro _;refine(Om w s hs' a1 ts cs ps m (aj hR) h1).mono ?_;rintro e w' ⟨rfl,h⟩;exact⟨⟨_,_,_,_,_,_,_,_,_,rfl⟩,h⟩
    ·simp only[ad6 h1];by_cases h2:7<ts.length\/4<cs.length
     ·simp only[ae2 h2];intro _;refine(KL w s hs' a1 ts cs ps m (aj hR) (by omega) h2).mono ?_;rintro e w' ⟨rfl,h⟩;exact⟨⟨_,_,_,_,_,_,_,_,_,rfl⟩,h⟩
     ·simp only[ad6 h2];intro h;exact absurd (by simp) h
end Go.Proofs.YthcppbmkacbbiaaGreat
