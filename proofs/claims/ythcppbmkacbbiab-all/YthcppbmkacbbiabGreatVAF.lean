import Derived.Test.YthcppbmkacbbiabGreatVAE
import Derived.Deep.RegionWith
set_option linter.unusedSimpArgs false
set_option maxHeartbeats 1000000
namespace Go.Proofs.YthcppbmkacbbiabGreat
open Go.Proofs.Tryz
open Go.RowKit Go.Maps Go.WideMaps
open au (Key put RT Lp RF)
def PostT(w:World)(B BT BC BP:Nat)(s:ByteArray)(d:Nat)(cs:Ah)(ps:Ai)(r:RT)(e:Ending)(w':World):Prop:=
 Kp B BT BC BP w w'/\match r with
 |.ok (a1,aP,m)=>e=.returned (.tuple #[A m,.bool true])/\CI w' B BT BC BP s a1 d aP cs ps
 |.error (E,p)=>(∃z:Int,e=.returned (.tuple #[A z,.bool false]))/\Bad w' B p E
def ah7(w:World)(B BT BC BP:Nat)(s:ByteArray)(d:Nat)(cs:Ah)(ps:Ai)(r:Lp)(e:Ending)(w':World):Prop:=
 Kp B BT BC BP w w'/\match r with
 |.ok (a1,aP,m,m2)=>e=.returned (.tuple #[A m,A m2,.bool true])/\CI w' B BT BC BP s a1 d aP cs ps
 |.error (E,p)=>(∃z z2:Int,e=.returned (.tuple #[A z,A z2,.bool false]))/\Bad w' B p E
def En(B BT BC BP:Nat)(s:ByteArray)(cs:Ah)(ps:Ai)(n:Nat):Prop:=
 ∀(w:World) (a d:Nat) (Y:Ai),a<=s.size->d<=8->Y.length<=a->s.size<a+n->CI w B BT BC BP s a d Y cs ps->
  Calls prog 96 #[Aa B 0] w (PostT w B BT BC BP s d cs ps (au.iU (pk s) n a d Y))
section
variable (w:World) (B BT BC BP:Nat) (s:ByteArray) (a d:Nat) (Y:List Key) (cs:List (Int×Nat)) (ps:List Key) (n:Nat)
theorem qC(hs:s.size<=100)(ha:a<=s.size)(hd:d<=8)(ht:Y.length<=a)(hn:s.size<a+1+n)(hT:En B BT BC BP s cs ps n)(h:CI w B BT BC BP s a d Y cs ps) :
  Calls prog 94 #[Aa B 0] w (PostT w B BT BC BP s d cs ps (au.arg1 (pk s) (au.iU (pk s) n) a d Y)):=by
 by_cases iC:pk s a=40
 ·have hlt:a<s.size:=dW O;by_cases h8:d=8
  ·have hr:au.arg1 (pk s) (au.iU (pk s) n) a d Y=.error (3,a):=(by unfold au.arg1;rw[ao4 iC,ao4 h8]);rw[hr]
   go_in
   go_wp2_with fail
   refine(nI w B BT BC BP s a d Y cs ps hs ha h8 iC h).mono ?_;rintro e w1 ⟨rfl,I,k1⟩
   go_wp2_with fail
   go_ret2
   exact⟨k1,⟨_,rfl⟩,I⟩
  ·have iq:=au.eX (pk:=pk s) (N:=s.size) (λa h=>dW h) n (a+1) (d+1) Y O;cases hR:au.iU (pk s) n (a+1) (d+1) Y with
   |error Ep=>
    obtain⟨E,p⟩:=Ep;have hr:au.arg1 (pk s) (au.iU (pk s) n) a d Y=.error (E,p):=(by unfold au.arg1;rw[ao4 iC,an8 h8,hR]);rw[hr];have HR:=F hR
    go_in
    go_wp2_with fail
    refine(fE w B BT BC BP s a d Y cs ps hs hlt O iC h).mono ?_;rintro e w1 ⟨rfl,I,k1⟩
    go_wp2_with fail
    refine(hT w1 (a+1) (d+1) Y O O O O I).mono ?_;rw[Z HR];rintro e w2 ⟨k2,⟨z,rfl⟩,M⟩
    go_wp2_with fail
    go_ret2
    exact⟨k1.trans k2,⟨_,rfl⟩,M⟩
   |ok q=>
    obtain⟨a1,aP,m⟩:=q;rw[hR]at iq;obtain⟨p1,p2,p3,p4,p5⟩:=iq;by_cases rU:pk s a1=41
    ·have jL:a1<s.size:=dW O;have hr:au.arg1 (pk s) (au.iU (pk s) n) a d Y=.ok (a1+1,aP,m):=(by unfold au.arg1;rw[ao4 iC,an8 h8,hR];simp only[rU,av8]);rw[hr];have HR:=F hR
     go_in
     go_wp2_with fail
     refine(fE w B BT BC BP s a d Y cs ps hs hlt O iC h).mono ?_;rintro e w1 ⟨rfl,I,k1⟩
     go_wp2_with fail
     refine(hT w1 (a+1) (d+1) Y O O O O I).mono ?_;rw[Z HR];rintro e w2 ⟨k2,rfl,M⟩
     go_wp2_with fail
     refine(qQ w2 B BT BC BP s a1 d aP cs ps hs jL hd rU M).mono ?_;rintro e w3 ⟨rfl,h3,k3⟩
     go_wp2_with fail
     go_ret2
     exact⟨(k1.trans k2).trans k3,rfl,h3⟩
    ·have hr:au.arg1 (pk s) (au.iU (pk s) n) a d Y=.error (2,a1):=(by unfold au.arg1;rw[ao4 iC,an8 h8,hR];simp only[rU,az0]);rw[hr];have HR:=F hR
     go_in
     go_wp2_with fail
     refine(fE w B BT BC BP s a d Y cs ps hs hlt O iC h).mono ?_;rintro e w1 ⟨rfl,I,k1⟩
     go_wp2_with fail
     refine(hT w1 (a+1) (d+1) Y O O O O I).mono ?_;rw[Z HR];rintro e w2 ⟨k2,rfl,M⟩
     go_wp2_with fail
     refine(vN w2 B BT BC BP s a1 d aP cs ps hs p2 hd rU M).mono ?_;rintro e w3 ⟨rfl,h3,k3⟩
     go_wp2_with fail
     go_ret2
     exact⟨(k1.trans k2).trans k3,⟨_,rfl⟩,h3⟩
 ·have hr:au.arg1 (pk s) (au.iU (pk s) n) a d Y=.error (2,a):=by unfold au.arg1;rw[an8 iC]
  rw[hr]
  go_in
  go_wp2_with fail
  refine(uq w B BT BC BP s a d Y cs ps hs ha hd iC h).mono ?_;rintro e w1 ⟨rfl,I,k1⟩
  go_wp2_with fail
  go_ret2
  exact⟨k1,⟨_,rfl⟩,I⟩
theorem Bj(hs:s.size<=100)(ha:a<=s.size)(hd:d<=8)(ht:Y.length<=a)(hn:s.size<a+1+n)(hT:En B BT BC BP s cs ps n)(h:CI w B BT BC BP s a d Y cs ps) :
  Calls prog 140 #[Aa B 0] w (ah7 w B BT BC BP s d cs ps (au.arg2 (pk s) (au.iU (pk s) n) a d Y)):=by
 by_cases iC:pk s a=40
 ·have hlt:a<s.size:=dW O;by_cases h8:d=8
  ·have hr:au.arg2 (pk s) (au.iU (pk s) n) a d Y=.error (3,a):=(by unfold au.arg2;rw[ao4 iC,ao4 h8]);rw[hr]
   go_in
   go_wp2_with fail
   refine(nI w B BT BC BP s a d Y cs ps hs ha h8 iC h).mono ?_;rintro e w1 ⟨rfl,I,k1⟩
   go_wp2_with fail
   go_ret3
   exact⟨k1,⟨_,_,rfl⟩,I⟩
  ·have iq:=au.eX (pk:=pk s) (N:=s.size) (λa h=>dW h) n (a+1) (d+1) Y O;cases hR:au.iU (pk s) n (a+1) (d+1) Y with
   |error Ep=>
    obtain⟨E,p⟩:=Ep;have hr:au.arg2 (pk s) (au.iU (pk s) n) a d Y=.error (E,p):=(by unfold au.arg2;rw[ao4 iC,an8 h8,hR]);rw[hr];have HR:=F hR
    go_in
    go_wp2_with fail
    refine(fE w B BT BC BP s a d Y cs ps hs hlt O iC h).mono ?_;rintro e w1 ⟨rfl,I,k1⟩
    go_wp2_with fail
    refine(hT w1 (a+1) (d+1) Y O O O O I).mono ?_;rw[Z HR];rintro e w2 ⟨k2,⟨z,rfl⟩,M⟩
    go_wp2_with fail
    go_ret3
    exact⟨k1.trans k2,⟨_,_,rfl⟩,M⟩
   |ok q=>
    obtain⟨a1,aP,m⟩:=q;rw[hR]at iq;obtain⟨p1,p2,p3,p4,p5⟩:=iq;by_cases N7:pk s a1=44
    ·have jL:a1<s.size:=dW O;have adb:=au.eX (pk:=pk s) (N:=s.size) (λa h=>dW h) n (a1+1) (d+1) aP O;cases mX:au.iU (pk s) n (a1+1) (d+1) aP with
     |error Ep=>
      obtain⟨E,p⟩:=Ep;have hr:au.arg2 (pk s) (au.iU (pk s) n) a d Y=.error (E,p):=(by unfold au.arg2;rw[ao4 iC,an8 h8,hR];simp only[N7,av8,mX]);rw[hr];have HR:=F hR;have Bl:=F mX
      go_in
      go_wp2_with fail
      refine(fE w B BT BC BP s a d Y cs ps hs hlt O iC h).mono ?_;rintro e w1 ⟨rfl,I,k1⟩
      go_wp2_with fail
      refine(hT w1 (a+1) (d+1) Y O O O O I).mono ?_;rw[Z HR];rintro e w2 ⟨k2,rfl,M⟩
      go_wp2_with fail
      refine(qP w2 B BT BC BP s a1 (d+1) aP cs ps 44 hs jL N7 M).mono ?_;rintro e w3 ⟨rfl,h3,k3⟩
      go_wp2_with fail
      refine(hT w3 (a1+1) (d+1) aP O O O O h3).mono ?_;rw[Z Bl];rintro e w4 ⟨k4,⟨z,rfl⟩,h4⟩
      go_wp2_with fail
      go_ret3
      exact⟨((k1.trans k2).trans k3).trans k4,⟨_,_,rfl⟩,h4⟩
     |ok q=>
      obtain⟨a2,ts2,m2⟩:=q;rw[mX]at adb;obtain⟨q1,q2,q3,q4,q5⟩:=adb;by_cases rU:pk s a2=41
      ·have sG:a2<s.size:=dW O;have hr:au.arg2 (pk s) (au.iU (pk s) n) a d Y=.ok (a2+1,ts2,m,m2):=(by unfold au.arg2;rw[ao4 iC,an8 h8,hR];simp only[N7,av8,mX,rU]);rw[hr];have HR:=F hR;have Bl:=F mX
       go_in
       go_wp2_with fail
       refine(fE w B BT BC BP s a d Y cs ps hs hlt O iC h).mono ?_;rintro e w1 ⟨rfl,I,k1⟩
       go_wp2_with fail
       refine(hT w1 (a+1) (d+1) Y O O O O I).mono ?_;rw[Z HR];rintro e w2 ⟨k2,rfl,M⟩
       go_wp2_with fail
       refine(qP w2 B BT BC BP s a1 (d+1) aP cs ps 44 hs jL N7 M).mono ?_;rintro e w3 ⟨rfl,h3,k3⟩
       go_wp2_with fail
       refine(hT w3 (a1+1) (d+1) aP O O O O h3).mono ?_;rw[Z Bl];rintro e w4 ⟨k4,rfl,h4⟩
       go_wp2_with fail
       refine(qQ w4 B BT BC BP s a2 d ts2 cs ps hs sG hd rU h4).mono ?_;rintro e w5 ⟨rfl,h5,k5⟩
       go_wp2_with fail
       go_ret3
       exact⟨(((k1.trans k2).trans k3).trans k4).trans k5,rfl,h5⟩
      ·have hr:au.arg2 (pk s) (au.iU (pk s) n) a d Y=.error (2,a2):=(by unfold au.arg2;rw[ao4 iC,an8 h8,hR];simp only[N7,av8,mX,rU,az0]);rw[hr];have HR:=F hR;have Bl:=F mX
       go_in
       go_wp2_with fail
       refine(fE w B BT BC BP s a d Y cs ps hs hlt O iC h).mono ?_;rintro e w1 ⟨rfl,I,k1⟩
       go_wp2_with fail
       refine(hT w1 (a+1) (d+1) Y O O O O I).mono ?_;rw[Z HR];rintro e w2 ⟨k2,rfl,M⟩
       go_wp2_with fail
       refine(qP w2 B BT BC BP s a1 (d+1) aP cs ps 44 hs jL N7 M).mono ?_;rintro e w3 ⟨rfl,h3,k3⟩
       go_wp2_with fail
       refine(hT w3 (a1+1) (d+1) aP O O O O h3).mono ?_;rw[Z Bl];rintro e w4 ⟨k4,rfl,h4⟩
       go_wp2_with fail
       refine(vN w4 B BT BC BP s a2 d ts2 cs ps hs q2 hd rU h4).mono ?_;rintro e w5 ⟨rfl,h5,k5⟩
       go_wp2_with fail
       go_ret3
       exact⟨(((k1.trans k2).trans k3).trans k4).trans k5,⟨_,_,rfl⟩,h5⟩
    ·have hr:au.arg2 (pk s) (au.iU (pk s) n) a d Y=.error (2,a1):=(by unfold au.arg2;rw[ao4 iC,an8 h8,hR];simp only[N7,az0]);rw[hr];have HR:=F hR
     go_in
     go_wp2_with fail
     refine(fE w B BT BC BP s a d Y cs ps hs hlt O iC h).mono ?_;rintro e w1 ⟨rfl,I,k1⟩
     go_wp2_with fail
     refine(hT w1 (a+1) (d+1) Y O O O O I).mono ?_;rw[Z HR];rintro e w2 ⟨k2,rfl,M⟩
     go_wp2_with fail
     refine(Hr w2 B BT BC BP s a1 (d+1) aP cs ps 44 hs p2 N7 M).mono ?_;rintro e w3 ⟨rfl,h3,k3⟩
     go_wp2_with fail
     go_ret3
     exact⟨(k1.trans k2).trans k3,⟨_,_,rfl⟩,h3⟩
 ·have hr:au.arg2 (pk s) (au.iU (pk s) n) a d Y=.error (2,a):=by unfold au.arg2;rw[an8 iC]
  rw[hr]
  go_in
  go_wp2_with fail
  refine(uq w B BT BC BP s a d Y cs ps hs ha hd iC h).mono ?_;rintro e w1 ⟨rfl,I,k1⟩
  go_wp2_with fail
  go_ret3
  exact⟨k1,⟨_,_,rfl⟩,I⟩
end
theorem qX(BT:Nat)(Y:Ai)(c xi yi:Int)(x y:Nat)(w:World)(hx:xi=x)(hy:yi=y)(I:0<=c/\c<=255)(M:x<=1000)(h3:y<=1000)(hl:Y.length<=1000)(hM:aT w 76 BT bZ Y) :
  Calls prog 141 #[.map (some BT),.agg #[Ae c,A xi,A yi]] w λe w'=>
   e=.returned (A (Y.idxOf (c,x,y)))/\aT w' 76 BT bZ (put Y (c,x,y))/\w.grownBy w' (some BT):=by
 subst hx;subst hy;exact acy BT Y c x y w I M h3 hl hM
theorem CI.dI{w:World}{B BT BC BP:Nat}{s:ByteArray}{a d:Nat}{Y:Ai}{cs:Ah}{ps:Ai}(h:CI w B BT BC BP s a d Y cs ps){X:Nat}(I:X≠B)(M:X≠BT)(h3:X≠BC)(h4:X≠BP)(i:Nat)(v:Value) :
  CI (w.setCell (J X i) v) B BT BC BP s a d Y cs ps:=by
 have hb:∀j,(w.setCell (J X i) v).cell? (J B j)=w.cell? (J B j):=λj=>World.cell?_of_block (Below.heap_setCell _ _ _ _ (ax7 I));have hf:∀j,(w.setCell (J X i) v).frozen? (J B j)=w.frozen? (J B j):=λj=>World.frozen?_of_block (Below.heap_setCell _ _ _ _ (ax7 I));exact⟨(hb _).trans h.c0,(hb _).trans h.c1,(hb _).trans h.c2,(hb _).trans h.c3,(hb _).trans h.c4,(hb _).trans h.c5,(hb _).trans h.c6,(hf _).trans h.f1,(hf _).trans h.f2,(hf _).trans h.f3,
  h.mt.kept (Below.heap_setCell _ _ _ _ (ax7 M)),h.mc.kept (Below.heap_setCell _ _ _ _ (ax7 h3)),h.mp.kept (Below.heap_setCell _ _ _ _ (ax7 h4)),h.nT,h.nC,h.nn,h.nP,h.nTP,h.nCP⟩
theorem Bad.dI{w:World}{B p:Nat}{E:Int}(h:Bad w B p E){X:Nat}(I:X≠B)(i:Nat)(v:Value):Bad (w.setCell (J X i) v) B p E:=
 ⟨(World.cell?_of_block (Below.heap_setCell _ _ _ _ (ax7 I))).trans h.c1,(World.cell?_of_block (Below.heap_setCell _ _ _ _ (ax7 I))).trans h.c3⟩
theorem gy{w1 w2:World}{B BT BC BP T:Nat}{v:Value}{xs:Array Value}(k:Kp B BT BC BP ((w1.setCell (J B 1) v).alloc (.cells xs T)) w2)(hB:B<w1.heap.size)(hT:BT<w1.heap.size)(hC:BC<w1.heap.size)(hP:BP<w1.heap.size)(i:Nat) :
  w2.cell? (J w1.heap.size i)=xs[i]?:=by
 have vZ:w1.heap.size=(w1.setCell (J B 1) v).heap.size:=by simp[World.setCell]
 rw[k.cell (by simp[World.setCell]) O O O O];exact World.cell?_alloc_at _ _ _ _ vZ
theorem iG{w1 w2:World}{B BT BC BP T:Nat}{v:Value}{xs:Array Value}(k:Kp B BT BC BP ((w1.setCell (J B 1) v).alloc (.cells xs T)) w2)(hB:B<w1.heap.size)(hT:BT<w1.heap.size)(hC:BC<w1.heap.size)(hP:BP<w1.heap.size)(i:Nat) :
  w2.frozen? (J w1.heap.size i)=false:=by
 have vZ:w1.heap.size=(w1.setCell (J B 1) v).heap.size:=by simp[World.setCell]
 rw[k.frozen (by simp[World.setCell]) O O O O];exact World.frozen?_alloc_at _ _ _ _ vZ
section
variable (w:World) (B BT BC BP:Nat) (s:ByteArray) (a d:Nat) (Y:List Key) (cs:List (Int×Nat)) (ps:List Key) (n:Nat)
theorem aeH(hs:s.size<=100)(ha:a<s.size)(ht:Y.length<=a)(hc:pk s a=97)(h:CI w B BT BC BP s a d Y cs ps) :
  Calls prog 96 #[Aa B 0] w (PostT w B BT BC BP s d cs ps (.ok (a+1,put Y (97,0,0),Y.idxOf ((97,0,0):Key)))):=by
 have HC:=F hc;clear hc
 go_in
 go_wp2_with fail
 refine(cO w B BT BC BP s a d Y cs ps hs O h).mono ?_;rw[Z HC];rintro e w1 ⟨rfl,I,k1⟩;have c1:=I.c1;have f1:=I.f1;have c4:=I.c4;have hlt:=I.lt;have HI:=F ((I.set1 (v:=(a:Int)+1) (a':=a+1) O).alloc (.cells #[Ae 97,A 0,A 0] 76));have HK:=F ((k1.trans (Kp.setCell B BT BC BP w1 1 (A ((a:Int)+1)))).trans (Kp.alloc B BT BC BP _ (.cells #[Ae 97,A 0,A 0] 76)))
 go_wp2_with fail
 go_region_with (go_at_call 141;refine(qX BT Y 97 0 0 0 0 _ rfl rfl O O O O (by exact(Z HI).mt.kept rfl)).mono ?_;rintro e w3 ⟨rfl,hm,hg⟩)
 all_goals
  go_wp2_with fail
  go_ret2
  exact⟨(Z HK).trans ((Kp.drewN _ _ _ _ _ 1).trans (Kp.BZ hg)),rfl,((Z HI).drewN 1).Vx hm hg⟩
theorem aeG(hs:s.size<=100)(ha:a<s.size)(ht:Y.length<=a)(hc:pk s a=98)(h:CI w B BT BC BP s a d Y cs ps) :
  Calls prog 96 #[Aa B 0] w (PostT w B BT BC BP s d cs ps (.ok (a+1,put Y (98,0,0),Y.idxOf ((98,0,0):Key)))):=by
 have HC:=F hc;clear hc
 go_in
 go_wp2_with fail
 refine(cO w B BT BC BP s a d Y cs ps hs O h).mono ?_;rw[Z HC];rintro e w1 ⟨rfl,I,k1⟩;have c1:=I.c1;have f1:=I.f1;have c4:=I.c4;have hlt:=I.lt;have HI:=F ((I.set1 (v:=(a:Int)+1) (a':=a+1) O).alloc (.cells #[Ae 98,A 0,A 0] 76));have HK:=F ((k1.trans (Kp.setCell B BT BC BP w1 1 (A ((a:Int)+1)))).trans (Kp.alloc B BT BC BP _ (.cells #[Ae 98,A 0,A 0] 76)))
 go_wp2_with fail
 go_region_with (go_at_call 141;refine(qX BT Y 98 0 0 0 0 _ rfl rfl O O O O (by exact(Z HI).mt.kept rfl)).mono ?_;rintro e w3 ⟨rfl,hm,hg⟩)
 all_goals
  go_wp2_with fail
  go_ret2
  exact⟨(Z HK).trans ((Kp.drewN _ _ _ _ _ 1).trans (Kp.BZ hg)),rfl,((Z HI).drewN 1).Vx hm hg⟩
theorem aeF(hs:s.size<=100)(ha:a<s.size)(ht:Y.length<=a)(hc:pk s a=99)(h:CI w B BT BC BP s a d Y cs ps) :
  Calls prog 96 #[Aa B 0] w (PostT w B BT BC BP s d cs ps (.ok (a+1,put Y (99,0,0),Y.idxOf ((99,0,0):Key)))):=by
 have HC:=F hc;clear hc
 go_in
 go_wp2_with fail
 refine(cO w B BT BC BP s a d Y cs ps hs O h).mono ?_;rw[Z HC];rintro e w1 ⟨rfl,I,k1⟩;have c1:=I.c1;have f1:=I.f1;have c4:=I.c4;have hlt:=I.lt;have HI:=F ((I.set1 (v:=(a:Int)+1) (a':=a+1) O).alloc (.cells #[Ae 99,A 0,A 0] 76));have HK:=F ((k1.trans (Kp.setCell B BT BC BP w1 1 (A ((a:Int)+1)))).trans (Kp.alloc B BT BC BP _ (.cells #[Ae 99,A 0,A 0] 76)))
 go_wp2_with fail
 go_region_with (go_at_call 141;refine(qX BT Y 99 0 0 0 0 _ rfl rfl O O O O (by exact(Z HI).mt.kept rfl)).mono ?_;rintro e w3 ⟨rfl,hm,hg⟩)
 all_goals
  go_wp2_with fail
  go_ret2
  exact⟨(Z HK).trans ((Kp.drewN _ _ _ _ _ 1).trans (Kp.BZ hg)),rfl,((Z HI).drewN 1).Vx hm hg⟩
end
section
variable (w:World) (B BT BC BP:Nat) (s:ByteArray) (a d:Nat) (Y:List Key) (cs:List (Int×Nat)) (ps:List Key) (n:Nat)
theorem abJ(hs:s.size<=100)(ha:a<s.size)(ht:Y.length<=a)(hc:pk s a=100)(h:CI w B BT BC BP s a d Y cs ps) :
  Calls prog 96 #[Aa B 0] w (PostT w B BT BC BP s d cs ps (.ok (a+1,put Y (100,0,0),Y.idxOf ((100,0,0):Key)))):=by
 have HC:=F hc;clear hc
 go_in
 go_wp2_with fail
 refine(cO w B BT BC BP s a d Y cs ps hs O h).mono ?_;rw[Z HC];rintro e w1 ⟨rfl,I,k1⟩;have c1:=I.c1;have f1:=I.f1;have c4:=I.c4;have hlt:=I.lt;have HI:=F ((I.set1 (v:=(a:Int)+1) (a':=a+1) O).alloc (.cells #[Ae 100,A 0,A 0] 76));have HK:=F ((k1.trans (Kp.setCell B BT BC BP w1 1 (A ((a:Int)+1)))).trans (Kp.alloc B BT BC BP _ (.cells #[Ae 100,A 0,A 0] 76)))
 go_wp2_with fail
 go_region_with (go_at_call 141;refine(qX BT Y 100 0 0 0 0 _ rfl rfl O O O O (by exact(Z HI).mt.kept rfl)).mono ?_;rintro e w3 ⟨rfl,hm,hg⟩)
 all_goals
  go_wp2_with fail
  go_ret2
  exact⟨(Z HK).trans ((Kp.drewN _ _ _ _ _ 1).trans (Kp.BZ hg)),rfl,((Z HI).drewN 1).Vx hm hg⟩
theorem abI(hs:s.size<=100)(ha:a<s.size)(ht:Y.length<=a)(hc:pk s a=101)(h:CI w B BT BC BP s a d Y cs ps) :
  Calls prog 96 #[Aa B 0] w (PostT w B BT BC BP s d cs ps (.ok (a+1,put Y (101,0,0),Y.idxOf ((101,0,0):Key)))):=by
 have HC:=F hc;clear hc
 go_in
 go_wp2_with fail
 refine(cO w B BT BC BP s a d Y cs ps hs O h).mono ?_;rw[Z HC];rintro e w1 ⟨rfl,I,k1⟩;have c1:=I.c1;have f1:=I.f1;have c4:=I.c4;have hlt:=I.lt;have HI:=F ((I.set1 (v:=(a:Int)+1) (a':=a+1) O).alloc (.cells #[Ae 101,A 0,A 0] 76));have HK:=F ((k1.trans (Kp.setCell B BT BC BP w1 1 (A ((a:Int)+1)))).trans (Kp.alloc B BT BC BP _ (.cells #[Ae 101,A 0,A 0] 76)))
 go_wp2_with fail
 go_region_with (go_at_call 141;refine(qX BT Y 101 0 0 0 0 _ rfl rfl O O O O (by exact(Z HI).mt.kept rfl)).mono ?_;rintro e w3 ⟨rfl,hm,hg⟩)
 all_goals
  go_wp2_with fail
  go_ret2
  exact⟨(Z HK).trans ((Kp.drewN _ _ _ _ _ 1).trans (Kp.BZ hg)),rfl,((Z HI).drewN 1).Vx hm hg⟩
end
section
variable (w:World) (B BT BC BP:Nat) (s:ByteArray) (a d:Nat) (Y:List Key) (cs:List (Int×Nat)) (ps:List Key) (n:Nat)
theorem Zk(hs:s.size<=100)(ha:a<s.size)(hd:d<=8)(ht:Y.length<=a)(hn:s.size<a+1+1+n)(hT:En B BT BC BP s cs ps n)(hc:pk s a=102)(a1:Nat)(aP:Ai)(m:Nat)
 (HR:Hid (au.arg1 (pk s) (au.iU (pk s) n) (a+1) d Y=.ok (a1,aP,m)))(hl:aP.length<=1000)(Fb:m<=1000)(h:CI w B BT BC BP s a d Y cs ps) :
  Calls prog 96 #[Aa B 0] w (PostT w B BT BC BP s d cs ps (.ok (a1,put aP (102,m,0),aP.idxOf ((102,m,0):Key)))):=by
 have HC:=F hc
 go_in
 go_wp2_with fail
 refine(cO w B BT BC BP s a d Y cs ps hs O h).mono ?_;rw[Z HC];rintro e w1 ⟨rfl,I,k1⟩;have c1:=I.c1;have f1:=I.f1;have c4:=I.c4;have hlt:=I.lt;have rF:=I.mt.lt;have rH:=I.mc.lt;have rG:=I.mp.lt;have hI:=(I.set1 (v:=(a:Int)+1) (a':=a+1) O).alloc (.cells #[Ae 102,A 0,A 0] 76);have HK:=F ((k1.trans (Kp.setCell B BT BC BP w1 1 (A ((a:Int)+1)))).trans (Kp.alloc B BT BC BP _ (.cells #[Ae 102,A 0,A 0] 76)))
 go_wp2_with fail
 refine(qC _ B BT BC BP s (a+1) d Y cs ps n hs O hd O O hT hI).mono ?_;rw[Z HR];rintro e w2 ⟨k2,rfl,M⟩;have cx0:=gy k2 hlt rF rH rG 0;have cx1:=gy k2 hlt rF rH rG 1;have cx2:=gy k2 hlt rF rH rG 2;have fx1:=iG k2 hlt rF rH rG 1;have fx2:=iG k2 hlt rF rH rG 2;simp at cx0 cx1 cx2;have c4:=M.c4;have HI:=F (M.dI (X:=w1.heap.size) O O O O 1 (A (m:Nat)));have XH:=F (((Z HK).trans k2).dI (X:=w1.heap.size) (by have:=k1.size;omega) 1 (A (m:Nat)))
 go_wp2_with fail
 go_region_with (go_at_call 141;refine(qX BT aP 102 m 0 m 0 _ rfl rfl O O O hl (by exact(Z HI).mt.kept rfl)).mono ?_;rintro e w3 ⟨rfl,hm,hg⟩)
 all_goals
  go_wp2_with fail
  go_ret2
  exact⟨(Z XH).trans ((Kp.drewN _ _ _ _ _ 1).trans (Kp.BZ hg)),rfl,((Z HI).drewN 1).Vx hm hg⟩
theorem U5(hs:s.size<=100)(ha:a<s.size)(hd:d<=8)(ht:Y.length<=a)(hn:s.size<a+1+1+n)(hT:En B BT BC BP s cs ps n)(hc:pk s a=102)(E:Int)(p:Nat)
 (HR:Hid (au.arg1 (pk s) (au.iU (pk s) n) (a+1) d Y=.error (E,p)))(h:CI w B BT BC BP s a d Y cs ps) :
  Calls prog 96 #[Aa B 0] w (PostT w B BT BC BP s d cs ps (.error (E,p))):=by
 have HC:=F hc
 go_in
 go_wp2_with fail
 refine(cO w B BT BC BP s a d Y cs ps hs O h).mono ?_;rw[Z HC];rintro e w1 ⟨rfl,I,k1⟩;have c1:=I.c1;have f1:=I.f1;have c4:=I.c4;have hlt:=I.lt;have rF:=I.mt.lt;have rH:=I.mc.lt;have rG:=I.mp.lt;have hI:=(I.set1 (v:=(a:Int)+1) (a':=a+1) O).alloc (.cells #[Ae 102,A 0,A 0] 76);have HK:=F ((k1.trans (Kp.setCell B BT BC BP w1 1 (A ((a:Int)+1)))).trans (Kp.alloc B BT BC BP _ (.cells #[Ae 102,A 0,A 0] 76)))
 go_wp2_with fail
 refine(qC _ B BT BC BP s (a+1) d Y cs ps n hs O hd O O hT hI).mono ?_;rw[Z HR];rintro e w2 ⟨k2,⟨z,rfl⟩,M⟩;have cx0:=gy k2 hlt rF rH rG 0;have cx1:=gy k2 hlt rF rH rG 1;have cx2:=gy k2 hlt rF rH rG 2;have fx1:=iG k2 hlt rF rH rG 1;have fx2:=iG k2 hlt rF rH rG 2;simp at cx0 cx1 cx2
 go_wp2_with fail
 go_ret2
 exact⟨(((Z HK).trans k2).dI (X:=w1.heap.size) (by have:=k1.size;omega) 1 (A z)),⟨_,rfl⟩,(M.dI (X:=w1.heap.size) O 1 (A z))⟩
theorem aeE(hs:s.size<=100)(ha:a<=s.size)(I:au.isName (pk s a)=false)(M:pk s a≠102)(h3:pk s a≠103)(h:CI w B BT BC BP s a d Y cs ps) :
  Calls prog 96 #[Aa B 0] w (PostT w B BT BC BP s d cs ps (.error (2,a))):=by
 generalize hp:pk s a=p at I M h3;have HP:=F hp;have Fj:((p==97)=false/\(p==98)=false/\(p==99)=false)/\(p==100)=false/\(p==101)=false/\(p==102)=false/\(p==103)=false:=by
  simp[au.isName]at I;simp;omega
 obtain⟨⟨b1,b2,b3⟩,b4,b5,b6,b7⟩:=Fj
 go_in
 go_wp2_with fail
 refine(cO w B BT BC BP s a d Y cs ps hs ha h).mono ?_;rw[Z HP];rintro e w1 ⟨rfl,I,k1⟩
 go_wp2_with fail
 refine(um _ B BT BC BP s a d Y cs ps 2 (I.alloc _)).mono ?_;rintro e w2 ⟨rfl,M,k2⟩
 go_wp2_with fail
 go_ret2
 exact⟨(k1.trans (Kp.alloc _ _ _ _ _ _)).trans k2,⟨_,rfl⟩,M⟩
end
section
variable (w:World) (B BT BC BP:Nat) (s:ByteArray) (a d:Nat) (Y:List Key) (cs:List (Int×Nat)) (ps:List Key) (n:Nat)
theorem Zj(hs:s.size<=100)(ha:a<s.size)(hd:d<=8)(ht:Y.length<=a)(hn:s.size<a+1+1+n)(hT:En B BT BC BP s cs ps n)(hc:pk s a=103)(a1:Nat)(aP:Ai)(m m2:Nat)
 (HR:Hid (au.arg2 (pk s) (au.iU (pk s) n) (a+1) d Y=.ok (a1,aP,m,m2)))(hl:aP.length<=1000)(Fb:m<=1000)(tC:m2<=1000)(h:CI w B BT BC BP s a d Y cs ps) :
  Calls prog 96 #[Aa B 0] w (PostT w B BT BC BP s d cs ps (.ok (a1,put aP (103,m,m2),aP.idxOf ((103,m,m2):Key)))):=by
 have HC:=F hc
 go_in
 go_wp2_with fail
 refine(cO w B BT BC BP s a d Y cs ps hs O h).mono ?_;rw[Z HC];rintro e w1 ⟨rfl,I,k1⟩;have c1:=I.c1;have f1:=I.f1;have c4:=I.c4;have hlt:=I.lt;have rF:=I.mt.lt;have rH:=I.mc.lt;have rG:=I.mp.lt;have hI:=(I.set1 (v:=(a:Int)+1) (a':=a+1) O).alloc (.cells #[Ae 103,A 0,A 0] 76);have HK:=F ((k1.trans (Kp.setCell B BT BC BP w1 1 (A ((a:Int)+1)))).trans (Kp.alloc B BT BC BP _ (.cells #[Ae 103,A 0,A 0] 76)))
 go_wp2_with fail
 refine(Bj _ B BT BC BP s (a+1) d Y cs ps n hs O hd O O hT hI).mono ?_;rw[Z HR];rintro e w2 ⟨k2,rfl,M⟩;have cx0:=gy k2 hlt rF rH rG 0;have cx1:=gy k2 hlt rF rH rG 1;have cx2:=gy k2 hlt rF rH rG 2;have fx1:=iG k2 hlt rF rH rG 1;have fx2:=iG k2 hlt rF rH rG 2;simp at cx0 cx1 cx2;have c4:=M.c4;have HI:=F ((M.dI (X:=w1.heap.size) O O O O 1 (A (m:Nat))).dI (X:=w1.heap.size) O O O O 2 (A (m2:Nat)));have XH:=F ((((Z HK).trans k2).dI (X:=w1.heap.size) (by have:=k1.size;omega) 1 (A (m:Nat))).dI (X:=w1.heap.size) (by have:=k1.size;omega) 2 (A (m2:Nat)))
 go_wp2_with fail
 go_region_with (go_at_call 141;refine(qX BT aP 103 m m2 m m2 _ rfl rfl O O O hl (by exact(Z HI).mt.kept rfl)).mono ?_;rintro e w3 ⟨rfl,hm,hg⟩)
 all_goals
  go_wp2_with fail
  go_ret2
  exact⟨(Z XH).trans ((Kp.drewN _ _ _ _ _ 1).trans (Kp.BZ hg)),rfl,((Z HI).drewN 1).Vx hm hg⟩
theorem U4(hs:s.size<=100)(ha:a<s.size)(hd:d<=8)(ht:Y.length<=a)(hn:s.size<a+1+1+n)(hT:En B BT BC BP s cs ps n)(hc:pk s a=103)(E:Int)(p:Nat)
 (HR:Hid (au.arg2 (pk s) (au.iU (pk s) n) (a+1) d Y=.error (E,p)))(h:CI w B BT BC BP s a d Y cs ps) :
  Calls prog 96 #[Aa B 0] w (PostT w B BT BC BP s d cs ps (.error (E,p))):=by
 have HC:=F hc
 go_in
 go_wp2_with fail
 refine(cO w B BT BC BP s a d Y cs ps hs O h).mono ?_;rw[Z HC];rintro e w1 ⟨rfl,I,k1⟩;have c1:=I.c1;have f1:=I.f1;have c4:=I.c4;have hlt:=I.lt;have rF:=I.mt.lt;have rH:=I.mc.lt;have rG:=I.mp.lt;have hI:=(I.set1 (v:=(a:Int)+1) (a':=a+1) O).alloc (.cells #[Ae 103,A 0,A 0] 76);have HK:=F ((k1.trans (Kp.setCell B BT BC BP w1 1 (A ((a:Int)+1)))).trans (Kp.alloc B BT BC BP _ (.cells #[Ae 103,A 0,A 0] 76)))
 go_wp2_with fail
 refine(Bj _ B BT BC BP s (a+1) d Y cs ps n hs O hd O O hT hI).mono ?_;rw[Z HR];rintro e w2 ⟨k2,⟨z,z2,rfl⟩,M⟩;have cx0:=gy k2 hlt rF rH rG 0;have cx1:=gy k2 hlt rF rH rG 1;have cx2:=gy k2 hlt rF rH rG 2;have fx1:=iG k2 hlt rF rH rG 1;have fx2:=iG k2 hlt rF rH rG 2;simp at cx0 cx1 cx2
 go_wp2_with fail
 go_ret2
 exact⟨((((Z HK).trans k2).dI (X:=w1.heap.size) (by have:=k1.size;omega) 1 (A z)).dI (X:=w1.heap.size) (by have:=k1.size;omega) 2 (A z2)),⟨_,rfl⟩,((M.dI (X:=w1.heap.size) O 1 (A z)).dI (X:=w1.heap.size) O 2 (A z2))⟩
end
section
variable (w:World) (B BT BC BP:Nat) (s:ByteArray) (a d:Nat) (Y:List Key) (cs:List (Int×Nat)) (ps:List Key) (n:Nat)
theorem Zi(hs:s.size<=100)(hT:En B BT BC BP s cs ps n):En B BT BC BP s cs ps (n+1):=by
 intro w a d Y ha hd ht hn h;unfold au.iU;split
 ·rename_i Lh;have hlt:a<s.size:=dW (λe=>by rw[e]at Lh;simp[au.isName]at Lh);have h5:pk s a=97\/pk s a=98\/pk s a=99\/pk s a=100\/pk s a=101:=by simp[au.isName]at Lh;omega
  obtain e|e|e|e|e:=h5
  ·rw[e];exact aeH w B BT BC BP s a d Y cs ps hs hlt ht e h
  ·rw[e];exact aeG w B BT BC BP s a d Y cs ps hs hlt ht e h
  ·rw[e];exact aeF w B BT BC BP s a d Y cs ps hs hlt ht e h
  ·rw[e];exact abJ w B BT BC BP s a d Y cs ps hs hlt ht e h
  ·rw[e];exact abI w B BT BC BP s a d Y cs ps hs hlt ht e h
 ·rename_i Lh;split
  ·rename_i e;have hlt:a<s.size:=dW O;have iq:=au.lN (pk:=pk s) (N:=s.size) (λa h=>dW h) (rec:=au.iU (pk s) n) (a:=a+1) (d:=d) (Y:=Y) O (λiC=>au.eX (λa h=>dW h) _ _ _ _ (by have:=dW (s:=s) (a:=a+1) O;omega));cases hR:au.arg1 (pk s) (au.iU (pk s) n) (a+1) d Y with
   |error Ep=>
    obtain⟨E,p⟩:=Ep;exact U5 w B BT BC BP s a d Y cs ps n hs hlt hd ht O hT e E p (F hR) h
   |ok q=>
    obtain⟨a1,aP,m⟩:=q;rw[hR]at iq;obtain⟨p1,p2,p3,p4,p5⟩:=iq;exact Zk w B BT BC BP s a d Y cs ps n hs hlt hd ht O hT e a1 aP m (F hR) O O h
  ·split
   ·rename_i e;have hlt:a<s.size:=dW O;have iq:=au.Nu (pk:=pk s) (N:=s.size) (λa h=>dW h) (rec:=au.iU (pk s) n) (a:=a+1) (d:=d) (Y:=Y) O (λa' ts' _ _ h'=>au.eX (λa h=>dW h) _ _ _ _ h');cases hR:au.arg2 (pk s) (au.iU (pk s) n) (a+1) d Y with
    |error Ep=>
     obtain⟨E,p⟩:=Ep;exact U4 w B BT BC BP s a d Y cs ps n hs hlt hd ht O hT e E p (F hR) h
    |ok q=>
     obtain⟨a1,aP,m,m2⟩:=q;rw[hR]at iq;obtain⟨p1,p2,p3,p4,p5,p6⟩:=iq;exact Zj w B BT BC BP s a d Y cs ps n hs hlt hd ht O hT e a1 aP m m2 (F hR) O O O h
   ·rename_i e1 e2;exact aeE w B BT BC BP s a d Y cs ps hs ha (by simpa using Lh) e1 e2 h
theorem CV(hs:s.size<=100):∀n,En B BT BC BP s cs ps n
 |0=>λw a d Y ha hd ht hn h=>absurd hn O
 |n+1=>Zi B BT BC BP s cs ps n hs (CV hs n)
end
end Go.Proofs.YthcppbmkacbbiabGreat
