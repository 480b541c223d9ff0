import Derived.Test.YthcppbmkacbbiabGreatVBD
import Derived.Test.YthcppbmkacbbiabGreatVBE
set_option linter.unusedSimpArgs false
set_option maxHeartbeats 8000000
set_option maxRecDepth 100000
namespace Go.Proofs.YthcppbmkacbbiabGreat
open Go.Proofs.Tryz
open Go.RowKit Go.Maps Go.WideMaps
open Sat (View Rule og dN)
section
open au (Key put)
def Qd(w:World)(g:Nat)(vs:List View):Prop:=
 ∃(cur:Array Value) (x:Nat×Nat),w.heap[g]?=some (Obj.cells cur 207 x)/\∀i (hi:i<vs.length),cur[i*2]?=some (A vs[i].1)/\cur[i*2+1]?=some (.bool vs[i].2)
theorem vY(Us:Ai)(p:Key):(put Us p).idxOf p=Us.idxOf p:=by
 unfold put;by_cases h:Us.contains p=true
 ·rw[ao4 h]
 ·rw[an8 h,aw0];have hm:p∉Us:=by simpa using h
  rw[an8 hm,as3 hm];simp
theorem LG.ah0{n0:Nat}{w1 w':World}{lb BU BS:Nat}{f:Key->Key}{dom:Key->Prop}{Us:Ai}{ak:List Rule}{X:Nat->Prop}(h:LG n0 w' lb BU BS f dom Us ak X)(hn:n0<=w1.heap.size)(hg:w1.grownBy w' (some BU)):Below n0 w1 w':=by
 have hlo:=h.lo.2.1;exact⟨hg.os,hg.tape,hg.output,hg.size,λk hk=>hg.block k O (λe=>by cases e;omega)⟩
theorem zW(c:Int)(hc:c=38\/c=124\/c=62\/c=45)(X:Nat->Prop)(n0:Nat)(w:World)(lb BU BS:Nat)(f:Key->Key)(dom:Key->Prop)(Us:Ai)(ak:List Rule)(L:List (List dw))(acc:List dw)(x y g vc:Nat)(wM:LG n0 w lb BU BS f dom Us ak X)(hX:∀k,X k->k<w.heap.size)(EJ:vG Us ak L)(YA:Us.length<=900)
 (O7:∀l∈acc,l.1∈Us)(hV:Qd w g (acc.map (vw Us)))(hx:x<acc.length)(hy:y<acc.length)(hal:acc.length<=500)(hd:dom (c,x,y))(Ll:f (c,x,y)=(c,x,y))(hn:n0<=w.heap.size)(hR:L.length<=80000) :
  Calls prog 123 #[Aa lb 0,bZ (c,x,y),Ac g 0 acc.length vc] w λe w'=>∃dR,e=.returned (vV (vw (put Us (c,x,y)) ((c,x,y),true)))/\LG n0 w' lb BU BS f dom (put Us (c,x,y)) dR X/\vG (put Us (c,x,y)) dR (L++Xb f acc (c,x,y))/\Below n0 w w'/\VK w w':=by
 have yP:0<=c/\c<=255:=O
 obtain⟨D,hD⟩:∃D,Xb f acc (c,x,y)=D:=⟨_,rfl⟩;have yL:=vY Us (c,x,y);have wB:=mG Us ((c,x,y):Key);have VY:((c,x,y):Key)∈put Us (c,x,y):=dL _ _;have Yu:acc[x].1∈put Us (c,x,y):=wB.mem (O7 _ (an5 hx));have Yt:acc[y].1∈put Us (c,x,y):=wB.mem (O7 _ (an5 hy));have hvf:vw (put Us (c,x,y)) acc[x]=vw Us acc[x]:=UY wB (O7 _ (an5 hx));have Lc:vw (put Us (c,x,y)) acc[y]=vw Us acc[y]:=UY wB (O7 _ (an5 hy));rw[hD];have Gg:=U9 n0 ((w.alloc (.cells #[Ae c,A x,A y] 82)).alloc (.cells #[A 0,.bool false] 207)) lb BU BS f dom Us ak (λk=>X k\/(w.heap.size<=k/\k<w.heap.size+2)) (c,x,y) (((wM.other (λk hk h=>h.elim id (λh=>O))).grow (an1 _ _ none)).grow (an1 _ _ none)) O hd (by rw[Ll];exact hd) (by rw[Ll,Ll]) ⟨yP,by show x<=1000;omega,by show y<=1000;omega⟩ (by rw[Ll];exact⟨yP,by show x<=1000;omega,by show y<=1000;omega⟩);rw[Ll]at Gg;have hlf:acc[x]=acc[x]:=rfl;obtain⟨lf,hlf⟩:∃l,acc[x]=l:=⟨_,rfl⟩;obtain⟨ls,uM⟩:∃l,acc[y]=l:=⟨_,rfl⟩;rw[hlf]at Yu hvf;rw[uM]at Yt Lc;have HD:Hid ((c=38/\D=y9 ((c,x,y),true) lf ls)\/(c=124/\D=y9 (nl ((c,x,y),true)) (nl lf) (nl ls))\/(c=62/\D=y9 (nl ((c,x,y),true)) lf (nl ls))\/(c=45/\D=Cm ((c,x,y),true) lf ls)):=by
  show _\/_
  rw[<-hD];unfold Xb;rw[Ll,aU hx,aU hy];simp only[hlf,uM];obtain rfl|rfl|rfl|rfl:=hc<;>simp
 obtain⟨cur,cx,bV,nS⟩:=hV;have Qo:=nS x (by simpa using hx);have hcs:=nS y (by simpa using hy);simp only[ax5,hlf,uM]at Qo hcs;obtain⟨ix,GX⟩:∃i,Us.idxOf ((c,x,y):Key)=i:=⟨_,rfl⟩;obtain⟨xf,LW⟩:∃i,(vw Us lf).1=i:=⟨_,rfl⟩;obtain⟨xs,VL⟩:∃i,(vw Us ls).1=i:=⟨_,rfl⟩;obtain⟨jf,hjf⟩:∃i,(vw Us lf).2=i:=⟨_,rfl⟩;obtain⟨js,hjs⟩:∃i,(vw Us ls).2=i:=⟨_,rfl⟩;rw[GX]at Gg yL;rw[LW,hjf]at Qo;rw[VL,hjs]at hcs;have hew:vw (put Us (c,x,y)) ((c,x,y),true)=(ix,true):=by unfold vw;rw[yL]
 have hef:vw (put Us (c,x,y)) lf=(xf,jf):=by rw[hvf,<-LW,<-hjf]
 have hes:vw (put Us (c,x,y)) ls=(xs,js):=by rw[Lc,<-VL,<-hjs]
 have hgx:=(an0.1 bV).1;have hxi:(x:Int)<(acc.length:Int):=O
 have hyi:(y:Int)<(acc.length:Int):=O
 have akj:Hid (aT w 82 BU bZ Us):=wM.us;have HSO:Hid (vG (put Us (c,x,y)) ak L):=EJ.so _;obtain⟨Up,hUp⟩:∃Up,put Us (c,x,y)=Up:=⟨_,rfl⟩;rw[hUp]at Gg VY Yu Yt hew hef hes HSO ⊢;rw[hew];unfold vV;unfold vV at Gg;simp only[bZ]at Gg ⊢
 go_in
 go_wp2_with fail
 refine Gg.mono ?_;rintro e w1 ⟨rfl,D8,bG⟩;have jd:w.grownBy ((w.alloc (.cells #[Ae c,A x,A y] 82)).alloc (.cells #[A 0,.bool false] 207)) none:=(an1 _ _ none).trans (an1 _ _ none);have akk:=(Z akj).lt;have GN:VK ((w.alloc (.cells #[Ae c,A x,A y] 82)).alloc (.cells #[A 0,.bool false] 207)) w1:=VK.map bG ((Z akj).kept (jd.block BU akk R)).noC;have bP1:w1.heap[w.heap.size]?=some (.cells #[Ae c,A x,A y] 82 (0,0)):=aZ GN (by rw[ao3 _ _ _ R,ap5]);have b61:w1.heap[w.heap.size+1]?=some (.cells #[A 0,.bool false] 207 (0,0)):=aZ GN (by
  have e:w.heap.size+1=(w.alloc (.cells #[Ae c,A x,A y] 82)).heap.size:=R
  rw[e,ap5])
 have bV1:w1.heap[g]?=some (.cells cur 207 cx):=aZ GN ((jd.block g hgx R).trans bV);have ak5:VK w w1:=(VK.grown jd).trans GN;have alM:Below n0 w w1:=((But.aC jd).below hn (λk _ e=>by cases e)).trans (D8.ah0 anf bG);have vZ:w.heap.size+2<=w1.heap.size:=by have:=bG.size;simp at this;omega
 obtain⟨w2,eu⟩:∃w2,w1.alloc (.cells #[A ix,.bool true] 207)=w2:=⟨_,rfl⟩;have dh:w1.grownBy w2 none:=by rw[<-eu];exact an1 _ _ none
 have bW2:w2.heap[w1.heap.size]?=some (.cells #[A ix,.bool true] 207 (0,0)):=by rw[<-eu,ap5]
 have bP2:=aZ (VK.grown dh) bP1;have b62:=aZ (VK.grown dh) b61;have bV2:=aZ (VK.grown dh) bV1;have AU:=D8.grow dh;have k0:w1.cell? (J w.heap.size 0)=some (Ae c):=by rw[cell_of bP1];rfl
 have k0':w2.cell? (J w.heap.size 0)=some (Ae c):=by rw[cell_of bP2];rfl
 have E5:w1.heap.size<w2.heap.size:=(an0.1 bW2).1;have HB:=F alM;have HK:=F ak5;obtain⟨rfl,hDD⟩|⟨rfl,hDD⟩|⟨rfl,hDD⟩|⟨rfl,hDD⟩:=Z HD
 all_goals
  have HDD:=F hDD
  go_wp2_with fail
 all_goals
  obtain⟨V,O8⟩:∃V,w2.drew=V:=⟨_,rfl⟩;have Gl:w2.grownBy V none:=by rw[<-O8];exact⟨rfl,rfl,rfl,an2 _,λ_ _ _=>rfl⟩
  refine aq8 (S:=λW'=>VK V W') rfl ?_;have aA:VK V V:=VK.refl _;have hG:V.grownBy V none:=as8 _ _;simp only[ao5,ao1,ap0,Nat.reduceAdd,an7,an6,ao6,ao8,ao7];change wpAnyH prog .any _ _ _ _ _ _ w2.drew;rw[O8];have bW:=aZ (VK.grown Gl) bW2;have bP:=aZ (VK.grown Gl) bP2;have b6:=aZ (VK.grown Gl) b62;have bV:=aZ (VK.grown Gl) bV2;have afp:=AU.grow Gl;have aiY:=Gl.size
 focus
  refine dF 0 (Aa lb 0) aA ?_
  simp only[aF];refine tH 1 (.agg #[A ix,.bool true]) (λw' hS=>?_) aA ?_
  ·have q:=aZ hS bW;have q0:=(cell_of q 0);have q1:=(cell_of q 1)
   go_simp
  simp only[aF];refine dF 2 (Ac g 0 acc.length vc) aA ?_
  simp only[aF];refine dF 3 (Aa w.heap.size 1) aA ?_
  simp only[aF];refine tH 4 (A x) (λw' hS=>?_) aA ?_
  ·have q:=aZ hS bP;have q0:=(cell_of q 1)
   go_simp
  simp only[aF];refine dF 5 (.pointer (some ⟨g,x*2,none⟩)) aA ?_
  simp only[aF];refine tH 6 (.agg #[A xf,.bool jf]) (λw' hS=>?_) aA ?_
  ·have q:=aZ hS bV;have q0:=(cell_of q (x*2)).trans Qo.1;have q1:=(cell_of q (x*2+1)).trans Qo.2
   go_simp
  simp only[aF];refine dF 7 (Ac g 0 acc.length vc) aA ?_
  simp only[aF];refine dF 8 (Aa w.heap.size 2) aA ?_
  simp only[aF];refine tH 9 (A y) (λw' hS=>?_) aA ?_
  ·have q:=aZ hS bP;have q0:=(cell_of q 2)
   go_simp
  simp only[aF];refine dF 10 (.pointer (some ⟨g,y*2,none⟩)) aA ?_
  simp only[aF];refine tH 11 (.agg #[A xs,.bool js]) (λw' hS=>?_) aA ?_
  ·have q:=aZ hS bV;have q0:=(cell_of q (y*2)).trans hcs.1;have q1:=(cell_of q (y*2+1)).trans hcs.2
   go_simp
  simp only[aF];have agR:=hG.size;have iy:=FH (λk=>X k\/(w.heap.size<=k/\k<w.heap.size+2)) n0 V lb BU BS f dom Up ak L (((38,x,y),true)) (lf) (ls) (afp.grow hG) (λk h=>by
   obtain h|h:=h
   ·have:=hX k h;omega
   ·omega) (Z HSO) VY Yu Yt O O
  simp only[XO,hew,hef,hes,vV]at iy;refine oH 12 (λK hK=>?_);go_simp;refine(iy).mono ?_;rintro e w3 ⟨⟨r3,rfl⟩,jK,wL,qo,aaJ,JB⟩;refine hK.out _ _ (aA.trans JB) (ar2 (by kernel_rfl) ?_ _);rw[<-Z HDD]at qo
 rotate_left
 focus
  refine dF 0 (Aa lb 0) aA ?_
  simp only[aF];refine tH 1 (.agg #[A ix,.bool true]) (λw' hS=>?_) aA ?_
  ·have q:=aZ hS bW;have q0:=(cell_of q 0);have q1:=(cell_of q 1)
   go_simp
  simp only[aF];refine dF 3 (Ac g 0 acc.length vc) aA ?_
  simp only[aF];refine dF 4 (Aa w.heap.size 1) aA ?_
  simp only[aF];refine tH 5 (A x) (λw' hS=>?_) aA ?_
  ·have q:=aZ hS bP;have q0:=(cell_of q 1)
   go_simp
  simp only[aF];refine dF 6 (.pointer (some ⟨g,x*2,none⟩)) aA ?_
  simp only[aF];refine tH 7 (.agg #[A xf,.bool jf]) (λw' hS=>?_) aA ?_
  ·have q:=aZ hS bV;have q0:=(cell_of q (x*2)).trans Qo.1;have q1:=(cell_of q (x*2+1)).trans Qo.2
   go_simp
  simp only[aF];refine dF 9 (Ac g 0 acc.length vc) aA ?_
  simp only[aF];refine dF 10 (Aa w.heap.size 2) aA ?_
  simp only[aF];refine tH 11 (A y) (λw' hS=>?_) aA ?_
  ·have q:=aZ hS bP;have q0:=(cell_of q 2)
   go_simp
  simp only[aF];refine dF 12 (.pointer (some ⟨g,y*2,none⟩)) aA ?_
  simp only[aF];refine tH 13 (.agg #[A xs,.bool js]) (λw' hS=>?_) aA ?_
  ·have q:=aZ hS bV;have q0:=(cell_of q (y*2)).trans hcs.1;have q1:=(cell_of q (y*2+1)).trans hcs.2
   go_simp
  simp only[aF];refine oH 2 (λK hK=>?_);go_simp;refine(jT ix true V).mono ?_;rintro e m2 ⟨rfl,tC⟩;replace aA:=aA.trans (VK.grown tC);refine hK.out _ _ aA ?_;replace hG:=hG.trans tC;refine oH 8 (λK hK=>?_);go_simp;refine(jT xf jf m2).mono ?_;rintro e m8 ⟨rfl,hm8⟩;replace aA:=aA.trans (VK.grown hm8);refine hK.out _ _ aA ?_;replace hG:=hG.trans hm8;refine oH 14 (λK hK=>?_);go_simp;refine(jT xs js m8).mono ?_;rintro e m14 ⟨rfl,ajx⟩;replace aA:=aA.trans (VK.grown ajx);refine hK.out _ _ aA ?_;replace hG:=hG.trans ajx;have agR:=hG.size;have iy:=FH (λk=>X k\/(w.heap.size<=k/\k<w.heap.size+2)) n0 m14 lb BU BS f dom Up ak L (nl ((124,x,y),true)) (nl lf) (nl ls) (afp.grow hG) (λk h=>by
   obtain h|h:=h
   ·have:=hX k h;omega
   ·omega) (Z HSO) VY Yu Yt O O
  simp only[XO,hew,hef,hes,vV]at iy;refine oH 15 (λK hK=>?_);go_simp;refine(iy).mono ?_;rintro e w3 ⟨⟨r3,rfl⟩,jK,wL,qo,aaJ,JB⟩;refine hK.out _ _ (aA.trans JB) (ar2 (by kernel_rfl) ?_ _);rw[<-Z HDD]at qo
 rotate_left
 focus
  refine dF 0 (Aa lb 0) aA ?_
  simp only[aF];refine tH 1 (.agg #[A ix,.bool true]) (λw' hS=>?_) aA ?_
  ·have q:=aZ hS bW;have q0:=(cell_of q 0);have q1:=(cell_of q 1)
   go_simp
  simp only[aF];refine dF 3 (Ac g 0 acc.length vc) aA ?_
  simp only[aF];refine dF 4 (Aa w.heap.size 1) aA ?_
  simp only[aF];refine tH 5 (A x) (λw' hS=>?_) aA ?_
  ·have q:=aZ hS bP;have q0:=(cell_of q 1)
   go_simp
  simp only[aF];refine dF 6 (.pointer (some ⟨g,x*2,none⟩)) aA ?_
  simp only[aF];refine tH 7 (.agg #[A xf,.bool jf]) (λw' hS=>?_) aA ?_
  ·have q:=aZ hS bV;have q0:=(cell_of q (x*2)).trans Qo.1;have q1:=(cell_of q (x*2+1)).trans Qo.2
   go_simp
  simp only[aF];refine dF 8 (Ac g 0 acc.length vc) aA ?_
  simp only[aF];refine dF 9 (Aa w.heap.size 2) aA ?_
  simp only[aF];refine tH 10 (A y) (λw' hS=>?_) aA ?_
  ·have q:=aZ hS bP;have q0:=(cell_of q 2)
   go_simp
  simp only[aF];refine dF 11 (.pointer (some ⟨g,y*2,none⟩)) aA ?_
  simp only[aF];refine tH 12 (.agg #[A xs,.bool js]) (λw' hS=>?_) aA ?_
  ·have q:=aZ hS bV;have q0:=(cell_of q (y*2)).trans hcs.1;have q1:=(cell_of q (y*2+1)).trans hcs.2
   go_simp
  simp only[aF];refine oH 2 (λK hK=>?_);go_simp;refine(jT ix true V).mono ?_;rintro e m2 ⟨rfl,tC⟩;replace aA:=aA.trans (VK.grown tC);refine hK.out _ _ aA ?_;replace hG:=hG.trans tC;refine oH 13 (λK hK=>?_);go_simp;refine(jT xs js m2).mono ?_;rintro e m13 ⟨rfl,ajy⟩;replace aA:=aA.trans (VK.grown ajy);refine hK.out _ _ aA ?_;replace hG:=hG.trans ajy;have agR:=hG.size;have iy:=FH (λk=>X k\/(w.heap.size<=k/\k<w.heap.size+2)) n0 m13 lb BU BS f dom Up ak L (nl ((62,x,y),true)) (lf) (nl ls) (afp.grow hG) (λk h=>by
   obtain h|h:=h
   ·have:=hX k h;omega
   ·omega) (Z HSO) VY Yu Yt O O
  simp only[XO,hew,hef,hes,vV]at iy;refine oH 14 (λK hK=>?_);go_simp;refine(iy).mono ?_;rintro e w3 ⟨⟨r3,rfl⟩,jK,wL,qo,aaJ,JB⟩;refine hK.out _ _ (aA.trans JB) (ar2 (by kernel_rfl) ?_ _);rw[<-Z HDD]at qo
 rotate_left
 focus
  refine dF 0 (Aa lb 0) aA ?_
  simp only[aF];refine tH 1 (.agg #[A ix,.bool true]) (λw' hS=>?_) aA ?_
  ·have q:=aZ hS bW;have q0:=(cell_of q 0);have q1:=(cell_of q 1)
   go_simp
  simp only[aF];refine dF 2 (Ac g 0 acc.length vc) aA ?_
  simp only[aF];refine dF 3 (Aa w.heap.size 1) aA ?_
  simp only[aF];refine tH 4 (A x) (λw' hS=>?_) aA ?_
  ·have q:=aZ hS bP;have q0:=(cell_of q 1)
   go_simp
  simp only[aF];refine dF 5 (.pointer (some ⟨g,x*2,none⟩)) aA ?_
  simp only[aF];refine tH 6 (.agg #[A xf,.bool jf]) (λw' hS=>?_) aA ?_
  ·have q:=aZ hS bV;have q0:=(cell_of q (x*2)).trans Qo.1;have q1:=(cell_of q (x*2+1)).trans Qo.2
   go_simp
  simp only[aF];refine dF 7 (Ac g 0 acc.length vc) aA ?_
  simp only[aF];refine dF 8 (Aa w.heap.size 2) aA ?_
  simp only[aF];refine tH 9 (A y) (λw' hS=>?_) aA ?_
  ·have q:=aZ hS bP;have q0:=(cell_of q 2)
   go_simp
  simp only[aF];refine dF 10 (.pointer (some ⟨g,y*2,none⟩)) aA ?_
  simp only[aF];refine tH 11 (.agg #[A xs,.bool js]) (λw' hS=>?_) aA ?_
  ·have q:=aZ hS bV;have q0:=(cell_of q (y*2)).trans hcs.1;have q1:=(cell_of q (y*2+1)).trans hcs.2
   go_simp
  simp only[aF];have agR:=hG.size;have iy:=Xd (λk=>X k\/(w.heap.size<=k/\k<w.heap.size+2)) n0 V lb BU BS f dom Up ak L (((45,x,y),true)) (lf) (ls) (afp.grow hG) (λk h=>by
   obtain h|h:=h
   ·have:=hX k h;omega
   ·omega) (Z HSO) VY Yu Yt O O
  simp only[XO,hew,hef,hes,vV]at iy;refine oH 12 (λK hK=>?_);go_simp;refine(iy).mono ?_;rintro e w3 ⟨⟨r3,rfl⟩,jK,wL,qo,aaJ,JB⟩;refine hK.out _ _ (aA.trans JB) (ar2 (by kernel_rfl) ?_ _);rw[<-Z HDD]at qo
 rotate_left
 all_goals
  have ac3:VK w2 w3:=(VK.grown Gl).trans (aA.trans JB);have ajX:Below n0 w2 w3:=((But.aC (Gl.trans hG)).below O (λk _ e=>by cases e)).trans aaJ;have b63:=aZ ac3 b62;have bW3:=aZ ac3 bW2;have r0:w3.cell? (J w1.heap.size 0)=some (A ix):=by rw[cell_of bW3];rfl
  have r1:w3.cell? (J w1.heap.size 1)=some (.bool true):=by rw[cell_of bW3];rfl
  have s0:w3.cell? (J (w.heap.size+1) 0)=some (A 0):=by rw[cell_of b63];rfl
  have s1:w3.cell? (J (w.heap.size+1) 1)=some (.bool false):=by rw[cell_of b63];rfl
  have f0:w3.frozen? (J (w.heap.size+1) 0)=false:=by simp[World.frozen?,b63]
  have f1:w3.frozen? (J (w.heap.size+1) 1)=false:=by simp[World.frozen?,b63]
  have Aw:w.heap.size+1<w3.heap.size:=(an0.1 b63).1;have amO:w1.heap.size<w3.heap.size:=(an0.1 bW3).1;have O6:((w3.setCell (J (w.heap.size+1) 0) (A ix)).setCell (J (w.heap.size+1) 1) (.bool true)).heap[w.heap.size+1]?=some (.cells #[A ix,.bool true] 207 (0,0)):=by
   rw[heap_setCell_same (heap_setCell_same b63)]
   congr 2
  have hBu:But (λk=>k=w.heap.size+1) w3 ((w3.setCell (J (w.heap.size+1) 0) (A ix)).setCell (J (w.heap.size+1) 1) (.bool true)):=But.setCell (S:=λk=>k=w.heap.size+1) (But.setCell (S:=λk=>k=w.heap.size+1) (But.refl _ _) (λ_=>rfl) _) (λ_=>rfl) _;have gB:Hid (∀WF,But (λk=>k=w.heap.size+1) w3 WF->∃dR,LG n0 WF lb BU BS f dom Up dR X/\vG Up dR (L++D)/\Below n0 w WF/\VK w WF):=λWF hB=>by
   refine⟨jK,(wL.ahY hB (λk e=>⟨Or.inr (by rw[e];omega),#[A 0,.bool false],207,(0,0),by rw[e];exact b63,ane,ane⟩)).other (λk _ h=>Or.inl h),qo,?_,?_⟩
   ·exact(((Z HB).trans ((But.aC dh).below O (λk _ e=>by cases e))).trans ajX).trans (hB.below O (λk hk e=>O))
   ·intro k cur t xx t1 t2 e;have hlt:=(an0.1 e).1;have e3:=ac3 _ _ _ _ t1 t2 ((VK.grown dh) _ _ _ _ t1 t2 ((Z HK) _ _ _ _ t1 t2 e));exact(hB.block k (an0.1 e3).1 O).trans e3
  go_wp2_with fail
  obtain⟨WF,hWF⟩:∃WF,(w3.setCell (J (w.heap.size+1) 0) (A ix)).setCell (J (w.heap.size+1) 1) (.bool true)=WF:=⟨_,rfl⟩;rw[hWF]at hBu O6 ⊢;have x0:WF.cell? (J (w.heap.size+1) 0)=some (A ix):=by rw[cell_of O6];rfl
  have x1:WF.cell? (J (w.heap.size+1) 1)=some (.bool true):=by rw[cell_of O6];rfl
  obtain⟨dR,q1,q2,q3,q4⟩:=Z gB WF hBu;exact aq0 (v:=.agg #[A ix,.bool true]) (by simp[results,results123,go_sem,x0,x1]) rfl ⟨dR,rfl,q1,q2,q3,q4⟩
end
section
open au (Key put fQ aB)
theorem WY(w:World)(lb:Nat)(Us:Ai)(acc:List dw)(x y g vc:Nat)(hV:Qd w g (acc.map (vw Us)))(hx:x<acc.length) :
  Calls prog 123 #[Aa lb 0,bZ (33,x,y),Ac g 0 acc.length vc] w λe w'=>e=.returned (vV (vw Us (nl acc[x])))/\w.grownBy w' none:=by
 obtain⟨cur,cx,bV,nS⟩:=hV;have Qo:=nS x (by simpa using hx);simp only[ax5]at Qo;have Yl:vw Us (nl acc[x])=((vw Us acc[x]).1,!(vw Us acc[x]).2):=rfl;rw[Yl];generalize vw Us acc[x]=u at Qo;obtain⟨xf,jf⟩:=u;simp only at Qo ⊢;have hgx:=(an0.1 bV).1;have hxi:(x:Int)<(acc.length:Int):=O
 have jd:w.grownBy ((w.alloc (.cells #[Ae 33,A x,A y] 82)).alloc (.cells #[A 0,.bool false] 207)) none:=(an1 _ _ none).trans (an1 _ _ none);have bA:=(jd.block g hgx R).trans bV;have b6:((w.alloc (.cells #[Ae 33,A x,A y] 82)).alloc (.cells #[A 0,.bool false] 207)).heap[w.heap.size+1]?=some (.cells #[A 0,.bool false] 207 (0,0)):=by
  have e:w.heap.size+1=(w.alloc (.cells #[Ae 33,A x,A y] 82)).heap.size:=R
  rw[e,ap5]
 have a0:=(cell_of bA (x*2)).trans Qo.1;have a1:=(cell_of bA (x*2+1)).trans Qo.2;have p0:((w.alloc (.cells #[Ae 33,A x,A y] 82)).alloc (.cells #[A 0,.bool false] 207)).cell? (J w.heap.size 0)=some (Ae 33):=by simp[go_sem]
 have p1:((w.alloc (.cells #[Ae 33,A x,A y] 82)).alloc (.cells #[A 0,.bool false] 207)).cell? (J w.heap.size 1)=some (A x):=by simp[go_sem]
 obtain⟨W0,Io⟩:∃W0,(w.alloc (.cells #[Ae 33,A x,A y] 82)).alloc (.cells #[A 0,.bool false] 207)=W0:=⟨_,rfl⟩;rw[Io]at jd bA b6 a0 a1 p0 p1;have ak4:=jT xf jf W0;unfold vV;simp only[bZ]
 go_in
 go_wp2_with fail
 refine ak4.mono ?_;rintro e w1 ⟨rfl,bG⟩;have b63:=(bG.block _ (an0.1 b6).1 R).trans b6;have s0:w1.cell? (J (w.heap.size+1) 0)=some (A 0):=by rw[cell_of b63];rfl
 have s1:w1.cell? (J (w.heap.size+1) 1)=some (.bool false):=by rw[cell_of b63];rfl
 have f0:w1.frozen? (J (w.heap.size+1) 0)=false:=by simp[World.frozen?,b63]
 have f1:w1.frozen? (J (w.heap.size+1) 1)=false:=by simp[World.frozen?,b63]
 have Aw:w.heap.size+1<w1.heap.size:=(an0.1 b63).1;have O6:((w1.setCell (J (w.heap.size+1) 0) (A xf)).setCell (J (w.heap.size+1) 1) (.bool (!jf))).heap[w.heap.size+1]?=some (.cells #[A xf,.bool (!jf)] 207 (0,0)):=by
  rw[heap_setCell_same (heap_setCell_same b63)]
  congr 2
 have hgF:w.grownBy ((w1.setCell (J (w.heap.size+1) 0) (A xf)).setCell (J (w.heap.size+1) 1) (.bool (!jf))) none:=lV (lV (jd.trans bG) (by show w.heap.size<=w.heap.size+1;omega) _) (by show w.heap.size<=w.heap.size+1;omega) _;have Q1:=F O6;have Q2:=F hgF
 go_wp2_with fail
 obtain⟨WF,hWF⟩:∃WF,(w1.setCell (J (w.heap.size+1) 0) (A xf)).setCell (J (w.heap.size+1) 1) (.bool (!jf))=WF:=⟨_,rfl⟩;rw[hWF]at Q1 Q2 ⊢;have x0:WF.cell? (J (w.heap.size+1) 0)=some (A xf):=by rw[cell_of (Z Q1)];rfl
 have x1:WF.cell? (J (w.heap.size+1) 1)=some (.bool (!jf)):=by rw[cell_of (Z Q1)];rfl
 exact aq0 (v:=.agg #[A xf,.bool (!jf)]) (by simp[results,results123,go_sem,x0,x1]) rfl ⟨rfl,Z Q2⟩
theorem Ub(n0:Nat)(w:World)(lb BU BS:Nat)(f:Key->Key)(dom:Key->Prop)(Us:Ai)(ak:List Rule)(X:Nat->Prop)(p:Key)(v:Value)(h:LG n0 w lb BU BS f dom Us ak X)(YA:Us.length<=1000)(hp:dom p)(Ll:dom (f p))(hff:f (f p)=f p)
 (hb:(0<=p.1/\p.1<=255)/\p.2.1<=1000/\p.2.2<=1000)(hbf:(0<=(f p).1/\(f p).1<=255)/\(f p).2.1<=1000/\(f p).2.2<=1000)(hs:p.1=61\/p.1=80\/p.1=81) :
  Calls prog 123 #[Aa lb 0,bZ p,v] w λe w'=>e=.returned (vV (Us.idxOf (f p),true))/\LG n0 w' lb BU BS f dom (put Us (f p)) ak X/\w.grownBy w' (some BU):=by
 have jd:w.grownBy ((w.alloc (.cells #[Ae p.1,A p.2.1,A p.2.2] 82)).alloc (.cells #[A 0,.bool false] 207)) none:=(an1 _ _ none).trans (an1 _ _ none);have Gg:=U9 n0 _ lb BU BS f dom Us ak X p (h.grow jd) YA hp Ll hff hb hbf;have b6:((w.alloc (.cells #[Ae p.1,A p.2.1,A p.2.2] 82)).alloc (.cells #[A 0,.bool false] 207)).heap[w.heap.size+1]?=some (.cells #[A 0,.bool false] 207 (0,0)):=by
  have e:w.heap.size+1=(w.alloc (.cells #[Ae p.1,A p.2.1,A p.2.2] 82)).heap.size:=R
  rw[e,ap5]
 have bP:((w.alloc (.cells #[Ae p.1,A p.2.1,A p.2.2] 82)).alloc (.cells #[A 0,.bool false] 207)).heap[w.heap.size]?=some (.cells #[Ae p.1,A p.2.1,A p.2.2] 82 (0,0)):=by
  rw[ao3 _ _ _ R,ap5]
 have YH:=h.us.lt;have HLG:=F h;have GU:p.1≠33/\p.1≠38/\p.1≠124/\p.1≠62/\p.1≠45:=O
 generalize f p=q at Gg hbf ⊢;generalize Us.idxOf q=ix at Gg ⊢;obtain⟨pc,px,py⟩:=p;simp only at GU jd b6 bP hb;obtain⟨n1,n2,n3,n4,n5⟩:=GU;unfold vV at Gg ⊢;simp only[bZ]at Gg ⊢
 go_in
 go_wp2_with fail
 refine Gg.mono ?_;rintro e w1 ⟨rfl,D8,bG⟩;have hM1:=D8.us;have b63:=(bG.block _ (an0.1 b6).1 anf).trans b6;have bP3:=(bG.block _ (an0.1 bP).1 anf).trans bP;obtain⟨w2,eu⟩:∃w2,w1.alloc (.cells #[A ix,.bool true] 207)=w2:=⟨_,rfl⟩;have dh:w1.grownBy w2 none:=by rw[<-eu];exact an1 _ _ none
 have bW2:w2.heap[w1.heap.size]?=some (.cells #[A ix,.bool true] 207 (0,0)):=by rw[<-eu,ap5]
 have b64:=(dh.block _ (an0.1 b63).1 R).trans b63;have bP4:=(dh.block _ (an0.1 bP3).1 R).trans bP3;have k0:w2.cell? (J w.heap.size 0)=some (Ae pc):=by rw[cell_of bP4];rfl
 have r0:w2.cell? (J w1.heap.size 0)=some (A ix):=by rw[cell_of bW2];rfl
 have r1:w2.cell? (J w1.heap.size 1)=some (.bool true):=by rw[cell_of bW2];rfl
 have s0:w2.cell? (J (w.heap.size+1) 0)=some (A 0):=by rw[cell_of b64];rfl
 have s1:w2.cell? (J (w.heap.size+1) 1)=some (.bool false):=by rw[cell_of b64];rfl
 have f0:w2.frozen? (J (w.heap.size+1) 0)=false:=by simp[World.frozen?,b64]
 have f1:w2.frozen? (J (w.heap.size+1) 1)=false:=by simp[World.frozen?,b64]
 have Aw:w.heap.size+1<w2.heap.size:=(an0.1 b64).1;have hs4:w1.heap.size<w2.heap.size:=(an0.1 bW2).1;have O6:((w2.setCell (J (w.heap.size+1) 0) (A ix)).setCell (J (w.heap.size+1) 1) (.bool true)).heap[w.heap.size+1]?=some (.cells #[A ix,.bool true] 207 (0,0)):=by
  rw[heap_setCell_same (heap_setCell_same b64)]
  congr 2
 have hgF:w.grownBy ((w2.setCell (J (w.heap.size+1) 0) (A ix)).setCell (J (w.heap.size+1) 1) (.bool true)) (some BU):=lV (lV (((jd.but (some BU)).trans bG).trans (dh.but (some BU))) (by show w.heap.size<=w.heap.size+1;omega) _) (by show w.heap.size<=w.heap.size+1;omega) _;have hMF:aT ((w2.setCell (J (w.heap.size+1) 0) (A ix)).setCell (J (w.heap.size+1) 1) (.bool true)) 82 BU bZ (put Us q):=hM1.kept (by rw[ao9 _ _ _ _ (by show BU≠w.heap.size+1;omega),ao9 _ _ _ _ (by show BU≠w.heap.size+1;omega)];exact dh.block BU hM1.lt R);have Q1:=F O6;have Q2:=F hgF;have Q3:=F hMF
 go_wp2_with fail
 obtain⟨WF,hWF⟩:∃WF,(w2.setCell (J (w.heap.size+1) 0) (A ix)).setCell (J (w.heap.size+1) 1) (.bool true)=WF:=⟨_,rfl⟩;rw[hWF]at Q1 Q2 Q3 ⊢;have x0:WF.cell? (J (w.heap.size+1) 0)=some (A ix):=by rw[cell_of (Z Q1)];rfl
 have x1:WF.cell? (J (w.heap.size+1) 1)=some (.bool true):=by rw[cell_of (Z Q1)];rfl
 exact aq0 (v:=.agg #[A ix,.bool true]) (by simp[results,results123,go_sem,x0,x1]) rfl ⟨rfl,(Z HLG).unk (Z Q2) (Z Q3),Z Q2⟩
end
open au (Key put fQ aB bJ)
structure SmD(f:Key->Key)(dom:Key->Prop)(nt:Nat):Prop where
 WV:∀p:Key,(p.1=61->p.2.1<nt/\p.2.2<nt)->dom p
 eq:∀a b,a<nt->b<nt->∃c d,f (61,a,b)=(61,c,d)/\c<nt/\d<nt/\f (61,c,d)=(61,c,d)
 other:∀p:Key,p.1≠61->f p=p
def PV(f:Key->Key)(Us:Ai)(p:Key):Ai:=if p.1=33 then Us else put Us (f p)
def Kt(f:Key->Key)(acc:List dw)(p:Key):dw:=if p.1=33 then nl (acc.getD p.2.1 ((0,0,0),false))else(f p,true)
theorem PU(f:Key->Key)(Us:Ai)(p:Key):Us <+: PV f Us p:=by
 unfold PV;by_cases e:p.1=33
 ·rw[ao4 e];exact av9 _
 ·rw[an8 e];exact mG _ _
theorem WZ(X:Nat->Prop)(n0:Nat)(w:World)(lb BU BS:Nat)(f:Key->Key)(dom:Key->Prop)(Us:Ai)(ak:List Rule)(L:List (List dw))(acc:List dw)(p:Key)(g vc nt nc:Nat)(wM:LG n0 w lb BU BS f dom Us ak X)(hX:∀k,X k->k<w.heap.size)(EJ:vG Us ak L)(YA:Us.length<=900)
 (O7:∀l∈acc,l.1∈Us)(hV:Qd w g (acc.map (vw Us)))(hal:acc.length<=500)(hp:fQ nt nc acc.length p)(Bc:nt<=1000)(UH:nc<=1000)(BF:SmD f dom nt)(hn:n0<=w.heap.size)(hR:L.length<=80000) :
  Calls prog 123 #[Aa lb 0,bZ p,Ac g 0 acc.length vc] w λe w'=>∃dR,e=.returned (vV (vw (PV f Us p) (Kt f acc p)))/\LG n0 w' lb BU BS f dom (PV f Us p) dR X/\vG (PV f Us p) dR (L++Xb f acc p)/\Below n0 w w'/\VK w w':=by
 have iF:=hp.bd Bc UH (O:acc.length<=1000);have atom:(p.1=61\/p.1=80\/p.1=81)->dom p->dom (f p)->f (f p)=f p->((0<=(f p).1/\(f p).1<=255)/\(f p).2.1<=1000/\(f p).2.2<=1000)->
   Calls prog 123 #[Aa lb 0,bZ p,Ac g 0 acc.length vc] w λe w'=>∃dR,e=.returned (vV (vw (PV f Us p) (Kt f acc p)))/\LG n0 w' lb BU BS f dom (PV f Us p) dR X/\vG (PV f Us p) dR (L++Xb f acc p)/\Below n0 w w'/\VK w w':=λhs I M h3 h4=>by
  have e33:p.1≠33:=O
  have ed:Xb f acc p=[]:=by
   unfold Xb;rw[an8 O,an8 O,an8 O,an8 O]
  have e1:PV f Us p=put Us (f p):=an8 e33;have e2:Kt f acc p=(f p,true):=an8 e33;rw[e1,e2,ed,av7];refine(Ub n0 w lb BU BS f dom Us ak X p _ wM O I M h3 iF h4 hs).mono ?_;rintro e w' ⟨rfl,g1,g2⟩;refine⟨ak,?_,g1,EJ.so _,wM.below hn g2,VK.map g2 wM.us.noC⟩
  show Ending.returned (vV (Us.idxOf (f p),true))=Ending.returned (vV ((put Us (f p)).idxOf (f p),true))
  rw[vY]
 obtain⟨a,b,_⟩|⟨a,b,c⟩|⟨a,b,c⟩|⟨a,b,c⟩:=hp
 ·obtain⟨pc,px,py⟩:=p;simp only at a b;subst a;have e1:PV f Us (33,px,py)=Us:=by simp[PV]
  have e2:Kt f acc (33,px,py)=nl acc[px]:=by
   show(if (33:Int)=33 then nl (acc.getD px ((0,0,0),false))else _)=_
   rw[ao4 rfl,aU b]
  have ed:Xb f acc (33,px,py)=[]:=by simp[Xb]
  rw[e1,e2,ed,av7];refine(WY w lb Us acc px py g vc hV b).mono ?_;rintro e w' ⟨rfl,hg⟩;exact⟨ak,rfl,wM.grow hg,EJ,(But.aC hg).below hn (λk _ e=>by cases e),VK.grown hg⟩
 ·have jP:p.1≠61:=by intro e;rw[e]at a;simp[aB]at a
  have mV:p.1≠33:=by intro e;rw[e]at a;simp[aB]at a
  have Ll:=BF.other p jP;have hdp:=BF.WV p (λe=>absurd e jP);have e1:PV f Us p=put Us p:=by unfold PV;rw[an8 mV,Ll]
  have e2:Kt f acc p=(p,true):=by unfold Kt;rw[an8 mV,Ll]
  rw[e1,e2];obtain⟨pc,px,py⟩:=p;simp only at a b c jP mV;have hj:pc=38\/pc=124\/pc=62\/pc=45:=by simpa[aB,or_assoc]using a
  obtain e|e|e|e:=hj
  ·subst e;exact zW 38 (Or.inl rfl) X n0 w lb BU BS f dom Us ak L acc px py g vc wM hX EJ YA O7 hV b c hal hdp Ll hn hR
  ·subst e;exact zW 124 (Or.inr (Or.inl rfl)) X n0 w lb BU BS f dom Us ak L acc px py g vc wM hX EJ YA O7 hV b c hal hdp Ll hn hR
  ·subst e;exact zW 62 (Or.inr (Or.inr (Or.inl rfl))) X n0 w lb BU BS f dom Us ak L acc px py g vc wM hX EJ YA O7 hV b c hal hdp Ll hn hR
  ·subst e;exact zW 45 (Or.inr (Or.inr (Or.inr rfl))) X n0 w lb BU BS f dom Us ak L acc px py g vc wM hX EJ YA O7 hV b c hal hdp Ll hn hR
 ·have Ll:=BF.other p O;have hdp:=BF.WV p (λe=>O);exact atom (Or.inr a) hdp (by rw[Ll];exact hdp) (by rw[Ll,Ll]) (by rw[Ll];exact iF)
 ·obtain⟨c',d',q1,q2,q3,q4⟩:=BF.eq p.2.1 p.2.2 b c;have hpe:p=(61,p.2.1,p.2.2):=by rw[<-a]
  rw[<-hpe]at q1;have hdp:=BF.WV p (λ_=>⟨b,c⟩);refine atom (Or.inl a) hdp (by rw[q1];exact BF.WV _ (λ_=>⟨q2,q3⟩)) (by rw[q1,q4]) (by rw[q1];exact⟨R,by show c'<=1000;omega,by show d'<=1000;omega⟩)
def vH(f:Key->Key)(Us:Ai)(ps:Ai)(k:Nat):Ai:=(ps.take k).foldl (PV f) Us
theorem tY{f:Key->Key}{Us ps:Ai}{k:Nat}(hk:k<ps.length):vH f Us ps (k+1)=PV f (vH f Us ps k) ps[k]:=by
 unfold vH;rw[aq3,an3 hk,az2];rfl
theorem aeC(f:Key->Key)(Us ps:Ai):∀k,(vH f Us ps k).length<=Us.length+k:=by
 intro k
 induction k with
 |zero=>simp[vH]
 |succ k ih=>
  by_cases hk:k<ps.length
  ·rw[tY hk];unfold PV;split
   ·omega
   ·have:=X5 (vH f Us ps k) (f ps[k]);omega
  ·have:vH f Us ps (k+1)=vH f Us ps k:=by
    unfold vH;rw[aq5 O,aq5 O]
   rw[this];omega
theorem Nz{f:Key->Key}{ps:Ai}{k:Nat}(hk:k<ps.length):lits f (ps.take (k+1))=lits f (ps.take k)++[Kt f (lits f (ps.take k)) ps[k]]:=by
 have e:ps.take (k+1)=ps.take k++[ps[k]]:=by rw[aq3,an3 hk];rfl
 rw[e,EU];rfl
theorem acJ{f:Key->Key}{Us ps:Ai}{nt nc:Nat}(hi:bJ nt nc ps):∀k,k<=ps.length->∀l∈lits f (ps.take k),l.1∈vH f Us ps k:=by
 intro k
 induction k with
 |zero=>intro _ l hl;simp[lits]at hl
 |succ k ih=>
  intro hk l hl;have iQ:k<ps.length:=O
  rw[Nz iQ]at hl;rw[tY iQ];obtain hl|hl:=aq7.1 hl
  ·exact(PU _ _ _).mem (ih O l hl)
  ·rw[ap8.1 hl];unfold Kt PV;by_cases e:ps[k].1=33
   ·rw[ao4 e,ao4 e];obtain⟨_,b,_⟩|⟨a,_⟩|⟨a,_⟩|⟨a,_⟩:=hi.ok k iQ
    ·have hlen:ps[k].2.1<(lits f (ps.take k)).length:=(by rw[lS];simp;omega);rw[aU hlen];have:=ih O _ (an5 hlen);exact this
    ·rw[e]at a;simp[aB]at a
    ·omega
    ·omega
   ·rw[an8 e,an8 e];exact dL _ _
end Go.Proofs.YthcppbmkacbbiabGreat
