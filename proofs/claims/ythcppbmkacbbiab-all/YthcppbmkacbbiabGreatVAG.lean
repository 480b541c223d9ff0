import Derived.Test.YthcppbmkacbbiabGreatVAF
set_option linter.unusedSimpArgs false
set_option linter.unusedVariables false
set_option maxHeartbeats 1000000
namespace Go.Proofs.YthcppbmkacbbiabGreat
open Go.Proofs.Tryz
open Go.RowKit Go.Maps Go.WideMaps
open au (Key put RT Lp RF RP RQ)
def PostF(w:World)(B BT BC BP:Nat)(s:ByteArray)(d:Nat)(r:RP)(e:Ending)(w':World):Prop:=
 Kp B BT BC BP w w'/\match r with
 |.ok (a1,aP,dQ,ps1,m)=>e=.returned (.tuple #[A m,.bool true])/\CI w' B BT BC BP s a1 d aP dQ ps1
 |.error (E,p)=>(∃z:Int,e=.returned (.tuple #[A z,.bool false]))/\Bad w' B p E
def tu(w:World)(B BT BC BP:Nat)(s:ByteArray)(d:Nat)(r:RQ)(e:Ending)(w':World):Prop:=
 Kp B BT BC BP w w'/\match r with
 |.ok (a1,aP,dQ,ps1,q)=>e=.returned (.tuple #[.agg #[Ae q.1,A q.2.1,A q.2.2],.bool true])/\CI w' B BT BC BP s a1 d aP dQ ps1
 |.error (E,p)=>(∃x y z:Int,e=.returned (.tuple #[.agg #[Ae x,A y,A z],.bool false]))/\Bad w' B p E
def akJ(w:World)(B BT BC BP:Nat)(s:ByteArray)(d:Nat)(cs:Ah)(ps:Ai)(c:Int)(r:RT)(e:Ending)(w':World):Prop:=
 Kp B BT BC BP w w'/\match r with
 |.ok (a1,aP,m)=>e=.returned (.tuple #[A (cs.idxOf (c,m)),.bool true])/\CI w' B BT BC BP s a1 d aP (put cs (c,m)) ps
 |.error (E,p)=>(∃z:Int,e=.returned (.tuple #[A z,.bool false]))/\Bad w' B p E
theorem acA(BC:Nat)(cs:Ah)(c xi:Int)(x:Nat)(w:World)(hx:xi=x)(I:0<=c/\c<=255)(M:x<=1000)(hl:cs.length<=1000)(hM:aT w 79 BC mZ cs) :
  Calls prog 95 #[.map (some BC),.agg #[Ae c,A xi]] w λe w'=>
   e=.returned (A (cs.idxOf (c,x)))/\aT w' 79 BC mZ (put cs (c,x))/\w.grownBy w' (some BC):=by
 subst hx;exact acB BC cs c x w I M hl hM
theorem yD(BP:Nat)(ps:Ai)(c xi yi:Int)(x y:Nat)(w:World)(hx:xi=x)(hy:yi=y)(I:0<=c/\c<=255)(M:x<=1000)(h3:y<=1000)(hl:ps.length<=1000)(hM:aT w 82 BP bZ ps) :
  Calls prog 50 #[.map (some BP),.agg #[Ae c,A xi,A yi]] w λe w'=>
   e=.returned (A (ps.idxOf (c,x,y)))/\aT w' 82 BP bZ (put ps (c,x,y))/\w.grownBy w' (some BP):=by
 subst hx;subst hy;exact Rw BP ps c x y w I M h3 hl hM
structure PX(w:World)(X B BT BC BP:Nat)(c x y:Int):Prop where
 p0:w.cell? (J X 0)=some (Ae c)
 p1:w.cell? (J X 1)=some (A x)
 p2:w.cell? (J X 2)=some (A y)
 f0:w.frozen? (J X 0)=false
 f1:w.frozen? (J X 1)=false
 f2:w.frozen? (J X 2)=false
 nB:X≠B
 nT:X≠BT
 nC:X≠BC
 nP:X≠BP
 lt:X<w.heap.size
section
variable {w w':World} {X B BT BC BP:Nat} {c x y:Int} {s:ByteArray} {a d:Nat} {Y:List Key} {cs:List (Int×Nat)} {ps:List Key}
theorem PX.kp(h:PX w X B BT BC BP c x y)(k:Kp B BT BC BP w w'):PX w' X B BT BC BP c x y:=
 ⟨(k.cell h.lt h.nB h.nT h.nC h.nP).trans h.p0,(k.cell h.lt h.nB h.nT h.nC h.nP).trans h.p1,(k.cell h.lt h.nB h.nT h.nC h.nP).trans h.p2,
  (k.frozen h.lt h.nB h.nT h.nC h.nP).trans h.f0,(k.frozen h.lt h.nB h.nT h.nC h.nP).trans h.f1,(k.frozen h.lt h.nB h.nT h.nC h.nP).trans h.f2,h.nB,h.nT,h.nC,h.nP,ap2 h.lt k.size⟩
theorem PX.new(hci:CI w B BT BC BP s a d Y cs ps)(c x y:Int):PX (w.alloc (.cells #[Ae c,A x,A y] 82)) w.heap.size B BT BC BP c x y:=by
 have I:=hci.lt;have M:=hci.mt.lt;have h3:=hci.mc.lt;have h4:=hci.mp.lt;exact⟨World.cell?_alloc_at _ _ _ _ rfl,World.cell?_alloc_at _ _ _ _ rfl,World.cell?_alloc_at _ _ _ _ rfl,World.frozen?_alloc_at _ _ _ _ rfl,World.frozen?_alloc_at _ _ _ _ rfl,World.frozen?_alloc_at _ _ _ _ rfl,O,O,O,O,R⟩
theorem PX.set0(h:PX w X B BT BC BP c x y)(c':Int):PX (w.setCell (J X 0) (Ae c')) X B BT BC BP c' x y:=
 ⟨bH _ h.p0,(aI _ _ _ O).trans h.p1,(aI _ _ _ O).trans h.p2,by rw[World.frozen?_setCell];exact h.f0,by rw[World.frozen?_setCell];exact h.f1,by rw[World.frozen?_setCell];exact h.f2,
  h.nB,h.nT,h.nC,h.nP,by have:=h.lt;simpa[World.setCell]using this⟩
theorem PX.set1(h:PX w X B BT BC BP c x y)(x':Int):PX (w.setCell (J X 1) (A x')) X B BT BC BP c x' y:=
 ⟨(aI _ _ _ O).trans h.p0,bH _ h.p1,(aI _ _ _ O).trans h.p2,by rw[World.frozen?_setCell];exact h.f0,by rw[World.frozen?_setCell];exact h.f1,by rw[World.frozen?_setCell];exact h.f2,
  h.nB,h.nT,h.nC,h.nP,by have:=h.lt;simpa[World.setCell]using this⟩
theorem PX.set2(h:PX w X B BT BC BP c x y)(y':Int):PX (w.setCell (J X 2) (A y')) X B BT BC BP c x y':=
 ⟨(aI _ _ _ O).trans h.p0,(aI _ _ _ O).trans h.p1,bH _ h.p2,by rw[World.frozen?_setCell];exact h.f0,by rw[World.frozen?_setCell];exact h.f1,by rw[World.frozen?_setCell];exact h.f2,
  h.nB,h.nT,h.nC,h.nP,by have:=h.lt;simpa[World.setCell]using this⟩
theorem CI.px(h:CI w B BT BC BP s a d Y cs ps)(hx:PX w X B BT BC BP c x y)(i:Nat)(v:Value):CI (w.setCell (J X i) v) B BT BC BP s a d Y cs ps:=h.dI hx.nB hx.nT hx.nC hx.nP i v
end
section
variable (w:World) (B BT BC BP:Nat) (s:ByteArray) (a d:Nat) (Y:List Key) (cs:List (Int×Nat)) (ps:List Key) (n:Nat)
theorem zX(hs:s.size<=100)(ha:a<=s.size)(hd:d<=8)(ht:Y.length<=a)(hcs:cs.length<=a)(hn:s.size<a+1+n)(c:Int)(iF:0<=c/\c<=255)(h:CI w B BT BC BP s a d Y cs ps) :
  Calls prog 48 #[Aa B 0,Ae c] w (akJ w B BT BC BP s d cs ps c (au.arg1 (pk s) (au.iU (pk s) n) a d Y)):=by
 have iq:=au.lN (pk:=pk s) (N:=s.size) (λa h=>dW h) (rec:=au.iU (pk s) n) (a:=a) (d:=d) (Y:=Y) O (λiC=>au.eX (λa h=>dW h) _ _ _ _ (by have:=dW (s:=s) (a:=a) O;omega));cases hR:au.arg1 (pk s) (au.iU (pk s) n) a d Y with
 |error Ep=>
  obtain⟨E,p⟩:=Ep;have HR:=F hR
  go_in
  go_wp2_with fail
  refine(qC _ B BT BC BP s a d Y cs ps n hs ha hd ht hn (CV B BT BC BP s cs ps hs n) h).mono ?_;rw[Z HR];rintro e w2 ⟨k2,⟨z,rfl⟩,M⟩
  go_wp2_with fail
  go_ret2
  exact⟨k2,⟨_,rfl⟩,M⟩
 |ok q=>
  obtain⟨a1,aP,m⟩:=q;rw[hR]at iq;obtain⟨p1,p2,p3,p4,p5⟩:=iq;have HR:=F hR
  go_in
  go_wp2_with fail
  refine(qC _ B BT BC BP s a d Y cs ps n hs ha hd ht hn (CV B BT BC BP s cs ps hs n) h).mono ?_;rw[Z HR];rintro e w2 ⟨k2,rfl,M⟩;have c5:=M.c5
  go_wp2_with fail
  refine(acA BC cs c m m _ rfl iF O O M.mc).mono ?_;rintro e w3 ⟨rfl,hM,hg⟩
  go_wp2_with fail
  go_ret2
  exact⟨k2.trans (Kp.ahP hg),rfl,M.akU hM hg⟩
end
theorem Kp.jJ{w w':World}{B BT BC BP X:Nat}(hX:w.heap.size<=X)(h:Kp B BT BC BP w w')(i:Nat)(v:Value):Kp B BT BC BP w (w'.setCell (J X i) v):=h.dI hX i v
section
variable (w:World) (B BT BC BP:Nat) (s:ByteArray) (a d:Nat) (Y:List Key) (cs:List (Int×Nat)) (ps:List Key) (n:Nat)
theorem PD(hs:s.size<=100)(ha:a<=s.size)(hd:d<=8)(ht:Y.length<=a)(hn:s.size<a+n)(h:CI w B BT BC BP s a d Y cs ps) :
  Calls prog 49 #[Aa B 0] w (tu w B BT BC BP s d (au.OC (pk s) n a d Y cs ps)):=by
 have hT:=CV B BT BC BP s cs ps hs n;have iq:=au.eX (pk:=pk s) (N:=s.size) (λa h=>dW h) n a d Y ha;have xR:=PX.new h 61 0 0;have kU:=h.alloc (.cells #[Ae 61,A 0,A 0] 82);have UF:Kp B BT BC BP w _:=Kp.alloc B BT BC BP w (.cells #[Ae 61,A 0,A 0] 82);cases hR:au.iU (pk s) n a d Y with
 |error Ep=>
  obtain⟨E,p⟩:=Ep;have hr:au.OC (pk s) n a d Y cs ps=.error (E,p):=by unfold au.OC;rw[hR]
  rw[hr];have HR:=F hR
  go_in
  go_wp2_with fail
  refine(hT _ a d Y ha hd ht hn kU).mono ?_;rw[Z HR];rintro e w2 ⟨k2,⟨z,rfl⟩,M⟩;have hX:=xR.kp k2;have x0:=hX.p0;have x1:=hX.p1;have x2:=hX.p2;have y0:=hX.f0;have y1:=hX.f1;have y2:=hX.f2
  go_wp2_with fail
  refine bodyPost_ret (v:=.tuple #[.agg #[Ae 61,A z,A 0],.bool false]) (by simp[results,results49,go_sem,x0,x1,x2]) rfl ⟨?_,⟨_,_,_,rfl⟩,?_⟩
  ·repeat refine Kp.jJ (an2 _) ?_ _ _
   exact UF.trans k2
  ·repeat refine Bad.dI ?_ hX.nB _ _
   exact M
 |ok q=>
  obtain⟨a1,aP,m⟩:=q;rw[hR]at iq;obtain⟨p1,p2,p3,p4,p5⟩:=iq;by_cases jP:pk s a1=61
  ·have jL:a1<s.size:=dW O;cases mX:au.iU (pk s) n (a1+1) d aP with
   |error Ep=>
    obtain⟨E,p⟩:=Ep;have hr:au.OC (pk s) n a d Y cs ps=.error (E,p):=(by unfold au.OC;rw[hR];simp only[jP,av8,mX]);rw[hr];have HR:=F hR;have Bl:=F mX
    go_in
    go_wp2_with fail
    refine(hT _ a d Y ha hd ht hn kU).mono ?_;rw[Z HR];rintro e w2 ⟨k2,rfl,M⟩;have hX:=xR.kp k2;have x0:=hX.p0;have x1:=hX.p1;have x2:=hX.p2;have y0:=hX.f0;have y1:=hX.f1;have y2:=hX.f2
    go_wp2_with fail
    refine(qP _ B BT BC BP s a1 d aP cs ps 61 hs jL jP (M.px hX 1 (A m))).mono ?_;rintro e w3 ⟨rfl,h3,k3⟩;have jF:=(hX.set1 m).kp k3
    go_wp2_with fail
    refine(hT w3 (a1+1) d aP O hd O O h3).mono ?_;rw[Z Bl];rintro e w4 ⟨k4,⟨z,rfl⟩,h4⟩;have yR:=jF.kp k4;have x0:=yR.p0;have x1:=yR.p1;have x2:=yR.p2;have y0:=yR.f0;have y1:=yR.f1;have y2:=yR.f2
    go_wp2_with fail
    refine bodyPost_ret (v:=.tuple #[.agg #[Ae 61,A m,A z],.bool false]) (by simp[results,results49,go_sem,x0,x1,x2]) rfl ⟨?_,⟨_,_,_,rfl⟩,?_⟩
    ·repeat refine Kp.jJ (an2 _) ?_ _ _
     exact((Kp.jJ (an2 _) (UF.trans k2) 1 (A m)).trans k3).trans k4
    ·repeat refine Bad.dI ?_ yR.nB _ _
     exact h4
   |ok q=>
    obtain⟨a2,ts2,m2⟩:=q;have hr:au.OC (pk s) n a d Y cs ps=.ok (a2,ts2,cs,ps,(61,m,m2)):=(by unfold au.OC;rw[hR];simp only[jP,av8,mX]);rw[hr];have HR:=F hR;have Bl:=F mX
    go_in
    go_wp2_with fail
    refine(hT _ a d Y ha hd ht hn kU).mono ?_;rw[Z HR];rintro e w2 ⟨k2,rfl,M⟩;have hX:=xR.kp k2;have x0:=hX.p0;have x1:=hX.p1;have x2:=hX.p2;have y0:=hX.f0;have y1:=hX.f1;have y2:=hX.f2
    go_wp2_with fail
    refine(qP _ B BT BC BP s a1 d aP cs ps 61 hs jL jP (M.px hX 1 (A m))).mono ?_;rintro e w3 ⟨rfl,h3,k3⟩;have jF:=(hX.set1 m).kp k3
    go_wp2_with fail
    refine(hT w3 (a1+1) d aP O hd O O h3).mono ?_;rw[Z Bl];rintro e w4 ⟨k4,rfl,h4⟩;have yR:=jF.kp k4;have x0:=yR.p0;have x1:=yR.p1;have x2:=yR.p2;have y0:=yR.f0;have y1:=yR.f1;have y2:=yR.f2
    go_wp2_with fail
    refine bodyPost_ret (v:=.tuple #[.agg #[Ae 61,A m,A m2],.bool true]) (by simp[results,results49,go_sem,x0,x1,x2]) rfl ⟨?_,rfl,?_⟩
    ·repeat refine Kp.jJ (an2 _) ?_ _ _
     exact((Kp.jJ (an2 _) (UF.trans k2) 1 (A m)).trans k3).trans k4
    ·repeat refine CI.dI ?_ yR.nB yR.nT yR.nC yR.nP _ _
     exact h4
  ·have hr:au.OC (pk s) n a d Y cs ps=.error (2,a1):=(by unfold au.OC;rw[hR];simp only[jP,az0]);rw[hr];have HR:=F hR
   go_in
   go_wp2_with fail
   refine(hT _ a d Y ha hd ht hn kU).mono ?_;rw[Z HR];rintro e w2 ⟨k2,rfl,M⟩;have hX:=xR.kp k2;have x0:=hX.p0;have x1:=hX.p1;have x2:=hX.p2;have y0:=hX.f0;have y1:=hX.f1;have y2:=hX.f2
   go_wp2_with fail
   refine(Hr _ B BT BC BP s a1 d aP cs ps 61 hs p2 jP (M.px hX 1 (A m))).mono ?_;rintro e w3 ⟨rfl,h3,k3⟩;have jF:=(hX.set1 m).kp k3;have x0:=jF.p0;have x1:=jF.p1;have x2:=jF.p2;have y0:=jF.f0;have y1:=jF.f1;have y2:=jF.f2
   go_wp2_with fail
   refine bodyPost_ret (v:=.tuple #[.agg #[Ae 61,A m,A 0],.bool false]) (by simp[results,results49,go_sem,x0,x1,x2]) rfl ⟨?_,⟨_,_,_,rfl⟩,?_⟩
   ·repeat refine Kp.jJ (an2 _) ?_ _ _
    exact(Kp.jJ (an2 _) (UF.trans k2) 1 (A m)).trans k3
   ·repeat refine Bad.dI ?_ jF.nB _ _
    exact h3
end
theorem Kp.yU{w w':World}{B BT BC BP:Nat}(h:Kp B BT BC BP w w'):Kp B BT BC BP w w'.drew:=h.trans (Kp.drewN B BT BC BP w' 1)
theorem Bad.yU{w:World}{B p:Nat}{E:Int}(h:Bad w B p E):Bad w.drew B p E:=⟨h.c1,h.c3⟩
theorem CI.yU{w:World}{B BT BC BP:Nat}{s:ByteArray}{a d:Nat}{Y:Ai}{cs:Ah}{ps:Ai}(h:CI w B BT BC BP s a d Y cs ps):CI w.drew B BT BC BP s a d Y cs ps:=h.drewN 1
theorem PX.yU{w:World}{X B BT BC BP:Nat}{c x y:Int}(h:PX w X B BT BC BP c x y):PX w.drew X B BT BC BP c x y:=h.kp (Kp.drewN _ _ _ _ _ 1)
def zl(B BT BC BP:Nat)(s:ByteArray)(n:Nat):Prop:=
 ∀(w:World) (a d:Nat) (Y:Ai) (cs:Ah) (ps:Ai),a<=s.size->d<=8->Y.length<=a->cs.length<=a->ps.length<=a->s.size<a+n->CI w B BT BC BP s a d Y cs ps->
  Calls prog 24 #[Aa B 0] w (PostF w B BT BC BP s d (au.lG (pk s) n a d Y cs ps))
section
variable (w:World) (B BT BC BP:Nat) (s:ByteArray) (a d:Nat) (Y:List Key) (cs:List (Int×Nat)) (ps:List Key) (n:Nat)
theorem RY(hs:s.size<=100)(ha:a<s.size)(hd:d<=8)(ht:Y.length<=a)(hcs:cs.length<=a)(oQ:ps.length<=a)(hn:s.size<a+1+n)(HC:Hid (pk s a=40))(h8:d=8)(h:CI w B BT BC BP s a d Y cs ps) :
  Calls prog 47 #[Aa B 0] w (tu w B BT BC BP s d (.error (3,a))):=by
 have xR:=PX.new h 0 0 0;have kU:=h.alloc (.cells #[Ae 0,A 0,A 0] 82);have UF:Kp B BT BC BP w _:=Kp.alloc B BT BC BP w (.cells #[Ae 0,A 0,A 0] 82)
 go_in
 go_wp2_with fail
 refine(nI _ B BT BC BP s a d Y cs ps hs O h8 (Z HC) kU).mono ?_;rintro e w1 ⟨rfl,I,k1⟩;have hX:=xR.kp k1;have x0:=hX.p0;have x1:=hX.p1;have x2:=hX.p2;have y0:=hX.f0;have y1:=hX.f1;have y2:=hX.f2
 go_wp2_with fail
 refine bodyPost_ret (v:=.tuple #[.agg #[Ae 0,A 0,A 0],.bool false]) (by simp[results,results47,go_sem,x0,x1,x2]) rfl ⟨?_,⟨_,_,_,rfl⟩,?_⟩
 ·repeat refine Kp.jJ (an2 _) ?_ _ _
  exact UF.trans k1
 ·repeat refine Bad.dI ?_ hX.nB _ _
  exact I
theorem aao(hs:s.size<=100)(ha:a<s.size)(hd:d<=8)(ht:Y.length<=a)(hcs:cs.length<=a)(oQ:ps.length<=a)(hn:s.size<a+1+n)(HC:Hid (pk s a=40))(h8:d≠8)(E:Int)(p:Nat)(HR:Hid (au.lG (pk s) n (a+1) (d+1) Y cs ps=.error (E,p)))(hF:zl B BT BC BP s n)(h:CI w B BT BC BP s a d Y cs ps) :
  Calls prog 47 #[Aa B 0] w (tu w B BT BC BP s d (.error (E,p))):=by
 have xR:=PX.new h 0 0 0;have kU:=h.alloc (.cells #[Ae 0,A 0,A 0] 82);have UF:Kp B BT BC BP w _:=Kp.alloc B BT BC BP w (.cells #[Ae 0,A 0,A 0] 82)
 go_in
 go_wp2_with fail
 refine(fE _ B BT BC BP s a d Y cs ps hs ha O (Z HC) kU).mono ?_;rintro e w1 ⟨rfl,I,k1⟩;have EH:=xR.kp k1
 go_wp2_with fail
 refine(hF w1 (a+1) (d+1) Y cs ps O O O O O O I).mono ?_;rw[Z HR];rintro e w2 ⟨k2,⟨z,rfl⟩,M⟩;have hX:=EH.kp k2;have x0:=hX.p0;have x1:=hX.p1;have x2:=hX.p2;have y0:=hX.f0;have y1:=hX.f1;have y2:=hX.f2
 go_wp2_with fail
 refine bodyPost_ret (v:=.tuple #[.agg #[Ae 0,A z,A 0],.bool false]) (by simp[results,results47,go_sem,x0,x1,x2]) rfl ⟨?_,⟨_,_,_,rfl⟩,?_⟩
 ·repeat refine Kp.jJ (an2 _) ?_ _ _
  exact(UF.trans k1).trans k2
 ·repeat refine Bad.dI ?_ hX.nB _ _
  exact M
theorem aan(hs:s.size<=100)(ha:a<s.size)(hd:d<=8)(ht:Y.length<=a)(hcs:cs.length<=a)(oQ:ps.length<=a)(hn:s.size<a+1+n)(HC:Hid (pk s a=40))(h8:d≠8)(a1:Nat)(aP:Ai)(dQ:Ah)(ps1:Ai)(m1:Nat)(HR:Hid (au.lG (pk s) n (a+1) (d+1) Y cs ps=.ok (a1,aP,dQ,ps1,m1)))(agO:aP.length<=a1)(ahp:dQ.length<=a1)(ag1:ps1.length<=a1)(ahb:a<a1)(aha:a1<=s.size)(hj:au.aB (pk s a1)=false)(hF:zl B BT BC BP s n)(h:CI w B BT BC BP s a d Y cs ps) :
  Calls prog 47 #[Aa B 0] w (tu w B BT BC BP s d (.error (2,a1))):=by
 have xR:=PX.new h 0 0 0;have kU:=h.alloc (.cells #[Ae 0,A 0,A 0] 82);have UF:Kp B BT BC BP w _:=Kp.alloc B BT BC BP w (.cells #[Ae 0,A 0,A 0] 82)
 go_in
 go_wp2_with fail
 refine(fE _ B BT BC BP s a d Y cs ps hs ha O (Z HC) kU).mono ?_;rintro e w1 ⟨rfl,I,k1⟩;have EH:=xR.kp k1
 go_wp2_with fail
 refine(hF w1 (a+1) (d+1) Y cs ps O O O O O O I).mono ?_;rw[Z HR];rintro e w2 ⟨k2,rfl,M⟩;have pJ:=EH.kp k2;have x0:=pJ.p0;have x1:=pJ.p1;have x2:=pJ.p2;have y0:=pJ.f0;have y1:=pJ.f1;have y2:=pJ.f2
 go_wp2_with fail
 refine(cO _ B BT BC BP s a1 (d+1) aP dQ ps1 hs O (M.px pJ 1 (A m1))).mono ?_;rintro e w3 ⟨rfl,h3,k3⟩;have jF:=(pJ.set1 m1).kp k3;have x0:=jF.p0;have x1:=jF.p1;have x2:=jF.p2;have y0:=jF.f0;have y1:=jF.f1;have y2:=jF.f2
 go_wp2_with fail
 refine(acT _ B BT BC BP s a1 (d+1) aP dQ ps1 hs aha hj (h3.px jF 0 (Ae (pk s a1)))).mono ?_;rintro e w4 ⟨rfl,h4,k4⟩;have yR:=(jF.set0 (pk s a1)).kp k4;have x0:=yR.p0;have x1:=yR.p1;have x2:=yR.p2;have y0:=yR.f0;have y1:=yR.f1;have y2:=yR.f2
 go_wp2_with fail
 refine bodyPost_ret (v:=.tuple #[.agg #[Ae (pk s a1),A m1,A 0],.bool false]) (by simp[results,results47,go_sem,x0,x1,x2]) rfl ⟨?_,⟨_,_,_,rfl⟩,?_⟩
 ·repeat refine Kp.jJ (an2 _) ?_ _ _
  exact(Kp.jJ (an2 _) ((Kp.jJ (an2 _) ((UF.trans k1).trans k2) 1 (A m1)).trans k3) 0 (Ae (pk s a1))).trans k4
 ·repeat refine Bad.dI ?_ yR.nB _ _
  exact h4
theorem aam(hs:s.size<=100)(ha:a<s.size)(hd:d<=8)(ht:Y.length<=a)(hcs:cs.length<=a)(oQ:ps.length<=a)(hn:s.size<a+1+n)(HC:Hid (pk s a=40))(h8:d≠8)(a1:Nat)(aP:Ai)(dQ:Ah)(ps1:Ai)(m1:Nat)(HR:Hid (au.lG (pk s) n (a+1) (d+1) Y cs ps=.ok (a1,aP,dQ,ps1,m1)))(agO:aP.length<=a1)(ahp:dQ.length<=a1)(ag1:ps1.length<=a1)(ahb:a<a1)(jL:a1<s.size)(hj:au.aB (pk s a1)=true)(E:Int)(p:Nat)(Bl:Hid (au.lG (pk s) n (a1+1) (d+1) aP dQ ps1=.error (E,p)))(hF:zl B BT BC BP s n)(h:CI w B BT BC BP s a d Y cs ps) :
  Calls prog 47 #[Aa B 0] w (tu w B BT BC BP s d (.error (E,p))):=by
 have xR:=PX.new h 0 0 0;have kU:=h.alloc (.cells #[Ae 0,A 0,A 0] 82);have UF:Kp B BT BC BP w _:=Kp.alloc B BT BC BP w (.cells #[Ae 0,A 0,A 0] 82)
 go_in
 go_wp2_with fail
 refine(fE _ B BT BC BP s a d Y cs ps hs ha O (Z HC) kU).mono ?_;rintro e w1 ⟨rfl,I,k1⟩;have EH:=xR.kp k1
 go_wp2_with fail
 refine(hF w1 (a+1) (d+1) Y cs ps O O O O O O I).mono ?_;rw[Z HR];rintro e w2 ⟨k2,rfl,M⟩;have pJ:=EH.kp k2;have x0:=pJ.p0;have x1:=pJ.p1;have x2:=pJ.p2;have y0:=pJ.f0;have y1:=pJ.f1;have y2:=pJ.f2
 go_wp2_with fail
 refine(cO _ B BT BC BP s a1 (d+1) aP dQ ps1 hs O (M.px pJ 1 (A m1))).mono ?_;rintro e w3 ⟨rfl,h3,k3⟩;have jF:=(pJ.set1 m1).kp k3;have x0:=jF.p0;have x1:=jF.p1;have x2:=jF.p2;have y0:=jF.f0;have y1:=jF.f1;have y2:=jF.f2
 go_wp2_with fail
 refine(EX _ B BT BC BP s a1 (d+1) aP dQ ps1 hs jL hj (h3.px jF 0 (Ae (pk s a1)))).mono ?_;rintro e w4 ⟨rfl,h4,k4⟩;have yR:=(jF.set0 (pk s a1)).kp k4
 go_wp2_with fail
 refine(hF w4 (a1+1) (d+1) aP dQ ps1 O O O O O O h4).mono ?_;rw[Z Bl];rintro e w5 ⟨k5,⟨z,rfl⟩,h5⟩;have CO:=yR.kp k5;have x0:=CO.p0;have x1:=CO.p1;have x2:=CO.p2;have y0:=CO.f0;have y1:=CO.f1;have y2:=CO.f2
 go_wp2_with fail
 go_region
 all_goals
  go_wp2_with fail
  refine bodyPost_ret (v:=.tuple #[.agg #[Ae (pk s a1),A m1,A z],.bool false]) (by simp[results,results47,go_sem,x0,x1,x2]) rfl ⟨?_,⟨_,_,_,rfl⟩,?_⟩
  ·refine Kp.yU ?_
   repeat refine Kp.jJ (an2 _) ?_ _ _
   exact((Kp.jJ (an2 _) ((Kp.jJ (an2 _) ((UF.trans k1).trans k2) 1 (A m1)).trans k3) 0 (Ae (pk s a1))).trans k4).trans k5
  ·refine Bad.yU ?_
   repeat refine Bad.dI ?_ CO.nB _ _
   exact h5
theorem aal(hs:s.size<=100)(ha:a<s.size)(hd:d<=8)(ht:Y.length<=a)(hcs:cs.length<=a)(oQ:ps.length<=a)(hn:s.size<a+1+n)(HC:Hid (pk s a=40))(h8:d≠8)(a1:Nat)(aP:Ai)(dQ:Ah)(ps1:Ai)(m1:Nat)(HR:Hid (au.lG (pk s) n (a+1) (d+1) Y cs ps=.ok (a1,aP,dQ,ps1,m1)))(agO:aP.length<=a1)(ahp:dQ.length<=a1)(ag1:ps1.length<=a1)(ahb:a<a1)(jL:a1<s.size)(hj:au.aB (pk s a1)=true)(a2:Nat)(ts2:Ai)(Ce:Ah)(ps2:Ai)(m2:Nat)(Bl:Hid (au.lG (pk s) n (a1+1) (d+1) aP dQ ps1=.ok (a2,ts2,Ce,ps2,m2)))(wE:a2<=s.size)(rU:pk s a2≠41)(hF:zl B BT BC BP s n)(h:CI w B BT BC BP s a d Y cs ps) :
  Calls prog 47 #[Aa B 0] w (tu w B BT BC BP s d (.error (2,a2))):=by
 have xR:=PX.new h 0 0 0;have kU:=h.alloc (.cells #[Ae 0,A 0,A 0] 82);have UF:Kp B BT BC BP w _:=Kp.alloc B BT BC BP w (.cells #[Ae 0,A 0,A 0] 82)
 go_in
 go_wp2_with fail
 refine(fE _ B BT BC BP s a d Y cs ps hs ha O (Z HC) kU).mono ?_;rintro e w1 ⟨rfl,I,k1⟩;have EH:=xR.kp k1
 go_wp2_with fail
 refine(hF w1 (a+1) (d+1) Y cs ps O O O O O O I).mono ?_;rw[Z HR];rintro e w2 ⟨k2,rfl,M⟩;have pJ:=EH.kp k2;have x0:=pJ.p0;have x1:=pJ.p1;have x2:=pJ.p2;have y0:=pJ.f0;have y1:=pJ.f1;have y2:=pJ.f2
 go_wp2_with fail
 refine(cO _ B BT BC BP s a1 (d+1) aP dQ ps1 hs O (M.px pJ 1 (A m1))).mono ?_;rintro e w3 ⟨rfl,h3,k3⟩;have jF:=(pJ.set1 m1).kp k3;have x0:=jF.p0;have x1:=jF.p1;have x2:=jF.p2;have y0:=jF.f0;have y1:=jF.f1;have y2:=jF.f2
 go_wp2_with fail
 refine(EX _ B BT BC BP s a1 (d+1) aP dQ ps1 hs jL hj (h3.px jF 0 (Ae (pk s a1)))).mono ?_;rintro e w4 ⟨rfl,h4,k4⟩;have yR:=(jF.set0 (pk s a1)).kp k4
 go_wp2_with fail
 refine(hF w4 (a1+1) (d+1) aP dQ ps1 O O O O O O h4).mono ?_;rw[Z Bl];rintro e w5 ⟨k5,rfl,h5⟩;have CO:=yR.kp k5;have hXs:=(CO.set2 m2).yU;have hIs:=(h5.px CO 2 (A m2)).yU;have x0:=CO.p0;have x1:=CO.p1;have x2:=CO.p2;have y0:=CO.f0;have y1:=CO.f1;have y2:=CO.f2
 go_wp2_with fail
 go_region_with (go_at_call 93;refine(vN _ B BT BC BP s a2 d ts2 Ce ps2 hs wE hd rU hIs).mono ?_;rintro e w6 ⟨rfl,h6,k6⟩;have z0:=(hXs.kp k6).p0;have z1:=(hXs.kp k6).p1;have z2:=(hXs.kp k6).p2;have v0:=(hXs.kp k6).f0;have v1:=(hXs.kp k6).f1;have v2:=(hXs.kp k6).f2)
 all_goals
  go_wp2_with fail
  refine bodyPost_ret (v:=.tuple #[.agg #[Ae (pk s a1),A m1,A m2],.bool false]) (by simp[results,results47,go_sem,z0,z1,z2]) rfl ⟨?_,⟨_,_,_,rfl⟩,?_⟩
  ·repeat refine Kp.jJ (an2 _) ?_ _ _
   exact(Kp.yU (Kp.jJ (an2 _) (((Kp.jJ (an2 _) ((Kp.jJ (an2 _) ((UF.trans k1).trans k2) 1 (A m1)).trans k3) 0 (Ae (pk s a1))).trans k4).trans k5) 2 (A m2))).trans k6
  ·repeat refine Bad.dI ?_ CO.nB _ _
   exact h6
theorem aak(hs:s.size<=100)(ha:a<s.size)(hd:d<=8)(ht:Y.length<=a)(hcs:cs.length<=a)(oQ:ps.length<=a)(hn:s.size<a+1+n)(HC:Hid (pk s a=40))(h8:d≠8)(a1:Nat)(aP:Ai)(dQ:Ah)(ps1:Ai)(m1:Nat)(HR:Hid (au.lG (pk s) n (a+1) (d+1) Y cs ps=.ok (a1,aP,dQ,ps1,m1)))(agO:aP.length<=a1)(ahp:dQ.length<=a1)(ag1:ps1.length<=a1)(ahb:a<a1)(jL:a1<s.size)(hj:au.aB (pk s a1)=true)(a2:Nat)(ts2:Ai)(Ce:Ah)(ps2:Ai)(m2:Nat)(Bl:Hid (au.lG (pk s) n (a1+1) (d+1) aP dQ ps1=.ok (a2,ts2,Ce,ps2,m2)))(sG:a2<s.size)(rU:pk s a2=41)(hF:zl B BT BC BP s n)(h:CI w B BT BC BP s a d Y cs ps) :
  Calls prog 47 #[Aa B 0] w (tu w B BT BC BP s d (.ok (a2+1,ts2,Ce,ps2,(pk s a1,m1,m2)))):=by
 have xR:=PX.new h 0 0 0;have kU:=h.alloc (.cells #[Ae 0,A 0,A 0] 82);have UF:Kp B BT BC BP w _:=Kp.alloc B BT BC BP w (.cells #[Ae 0,A 0,A 0] 82)
 go_in
 go_wp2_with fail
 refine(fE _ B BT BC BP s a d Y cs ps hs ha O (Z HC) kU).mono ?_;rintro e w1 ⟨rfl,I,k1⟩;have EH:=xR.kp k1
 go_wp2_with fail
 refine(hF w1 (a+1) (d+1) Y cs ps O O O O O O I).mono ?_;rw[Z HR];rintro e w2 ⟨k2,rfl,M⟩;have pJ:=EH.kp k2;have x0:=pJ.p0;have x1:=pJ.p1;have x2:=pJ.p2;have y0:=pJ.f0;have y1:=pJ.f1;have y2:=pJ.f2
 go_wp2_with fail
 refine(cO _ B BT BC BP s a1 (d+1) aP dQ ps1 hs O (M.px pJ 1 (A m1))).mono ?_;rintro e w3 ⟨rfl,h3,k3⟩;have jF:=(pJ.set1 m1).kp k3;have x0:=jF.p0;have x1:=jF.p1;have x2:=jF.p2;have y0:=jF.f0;have y1:=jF.f1;have y2:=jF.f2
 go_wp2_with fail
 refine(EX _ B BT BC BP s a1 (d+1) aP dQ ps1 hs jL hj (h3.px jF 0 (Ae (pk s a1)))).mono ?_;rintro e w4 ⟨rfl,h4,k4⟩;have yR:=(jF.set0 (pk s a1)).kp k4
 go_wp2_with fail
 refine(hF w4 (a1+1) (d+1) aP dQ ps1 O O O O O O h4).mono ?_;rw[Z Bl];rintro e w5 ⟨k5,rfl,h5⟩;have CO:=yR.kp k5;have hXs:=(CO.set2 m2).yU;have hIs:=(h5.px CO 2 (A m2)).yU;have x0:=CO.p0;have x1:=CO.p1;have x2:=CO.p2;have y0:=CO.f0;have y1:=CO.f1;have y2:=CO.f2
 go_wp2_with fail
 go_region_with (go_at_call 93;refine(qQ _ B BT BC BP s a2 d ts2 Ce ps2 hs sG hd rU hIs).mono ?_;rintro e w6 ⟨rfl,h6,k6⟩;have z0:=(hXs.kp k6).p0;have z1:=(hXs.kp k6).p1;have z2:=(hXs.kp k6).p2;have v0:=(hXs.kp k6).f0;have v1:=(hXs.kp k6).f1;have v2:=(hXs.kp k6).f2)
 all_goals
  go_wp2_with fail
  refine bodyPost_ret (v:=.tuple #[.agg #[Ae (pk s a1),A m1,A m2],.bool true]) (by simp[results,results47,go_sem,z0,z1,z2]) rfl ⟨?_,rfl,?_⟩
  ·repeat refine Kp.jJ (an2 _) ?_ _ _
   exact(Kp.yU (Kp.jJ (an2 _) (((Kp.jJ (an2 _) ((Kp.jJ (an2 _) ((UF.trans k1).trans k2) 1 (A m1)).trans k3) 0 (Ae (pk s a1))).trans k4).trans k5) 2 (A m2))).trans k6
  ·repeat refine CI.dI ?_ CO.nB CO.nT CO.nC CO.nP _ _
   exact h6
end
section
variable (w:World) (B BT BC BP:Nat) (s:ByteArray) (a d:Nat) (Y:List Key) (cs:List (Int×Nat)) (ps:List Key) (n:Nat)
theorem Dn(s:ByteArray):(∀a,pk s a≠0->a<s.size)/\∀a,0<=pk s a/\pk s a<=255:=⟨λ_ h=>dW h,afV s⟩
theorem VE(hs:s.size<=100)(_ha:a<=s.size)(hd:d<=8)(ht:Y.length<=a)(hcs:cs.length<=a)(oQ:ps.length<=a)(hn:s.size<a+1+n)(hc:pk s a=40)(hF:zl B BT BC BP s n)(h:CI w B BT BC BP s a d Y cs ps) :
  Calls prog 47 #[Aa B 0] w (tu w B BT BC BP s d (au.ZA (pk s) (au.lG (pk s) n) a d Y cs ps)):=by
 have hlt:a<s.size:=dW O;unfold au.ZA;split
 ·rename_i h8;exact RY w B BT BC BP s a d Y cs ps n hs hlt hd ht hcs oQ hn (F hc) h8 h
 ·rename_i h8;have iq:=au.zB (Dn s).1 (Dn s).2 n (a+1) (d+1) Y cs ps O O O O;split
  ·rename_i Ep hR;obtain⟨E,p⟩:=Ep;exact aao w B BT BC BP s a d Y cs ps n hs hlt hd ht hcs oQ hn (F hc) h8 E p (F hR) hF h
  ·rename_i a1 aP dQ ps1 m1 hR;rw[hR]at iq;obtain⟨p1,p2,p3,p4,p5,p6,p7⟩:=iq;split
   ·rename_i hj;have jL:a1<s.size:=dW (λe=>by rw[e]at hj;simp[au.aB]at hj);have adb:=au.zB (Dn s).1 (Dn s).2 n (a1+1) (d+1) aP dQ ps1 O O O O;split
    ·rename_i Ep mX;obtain⟨E,p⟩:=Ep;exact aam w B BT BC BP s a d Y cs ps n hs hlt hd ht hcs oQ hn (F hc) h8 a1 aP dQ ps1 m1 (F hR) O O O O jL hj E p (F mX) hF h
    ·rename_i a2 ts2 Ce ps2 m2 mX;rw[mX]at adb;obtain⟨q1,q2,q3,q4,q5,q6,q7⟩:=adb;split
     ·rename_i rU;exact aak w B BT BC BP s a d Y cs ps n hs hlt hd ht hcs oQ hn (F hc) h8 a1 aP dQ ps1 m1 (F hR) O O O O jL hj a2 ts2 Ce ps2 m2 (F mX) (dW O) rU hF h
     ·rename_i rU;exact aal w B BT BC BP s a d Y cs ps n hs hlt hd ht hcs oQ hn (F hc) h8 a1 aP dQ ps1 m1 (F hR) O O O O jL hj a2 ts2 Ce ps2 m2 (F mX) q2 rU hF h
   ·rename_i hj;exact aan w B BT BC BP s a d Y cs ps n hs hlt hd ht hcs oQ hn (F hc) h8 a1 aP dQ ps1 m1 (F hR) O O O O p2 (by simpa using hj) hF h
theorem Nr{w1:World}{B BT BC BP:Nat}{s:ByteArray}{a d:Nat}{Y:Ai}{cs:Ah}{ps:Ai}(h:CI w1 B BT BC BP s a d Y cs ps)(v:Int)(a':Nat)(hv:v=a')(c:Int) :
  PX ((w1.setCell (J B 1) (A v)).alloc (.cells #[Ae c,A 0,A 0] 82)) w1.heap.size B BT BC BP c 0 0:=by
 have I:=PX.new (h.set1 hv) c 0 0;have e:(w1.setCell (J B 1) (A v)).heap.size=w1.heap.size:=by simp[World.setCell]
 rw[e]at I;exact I
end
section
variable (w:World) (B BT BC BP:Nat) (s:ByteArray) (a d:Nat) (Y:List Key) (cs:List (Int×Nat)) (ps:List Key) (n:Nat)
theorem GZ(hs:s.size<=100)(ha:a<=s.size)(hd:d<=8)(ht:Y.length<=a)(hcs:cs.length<=a)(oQ:ps.length<=a)(hn:s.size<a+1+n)(HC:Hid (pk s a=33))(hF:zl B BT BC BP s n)(E:Int)(p:Nat)(HR:Hid (au.lG (pk s) n (a+1) d Y cs ps=.error (E,p)))(h:CI w B BT BC BP s a d Y cs ps) :
  Calls prog 24 #[Aa B 0] w (PostF w B BT BC BP s d (.error (E,p))):=by
 have hlt:a<s.size:=dW (by rw[Z HC];omega)
 go_in
 go_wp2_with fail
 refine(cO w B BT BC BP s a d Y cs ps hs ha h).mono ?_;rw[Z HC];rintro e w1 ⟨rfl,I,k1⟩;have c1:=I.c1;have YH:=I.lt;have f1:=I.f1;have kU:=(I.set1 (v:=(a:Int)+1) (a':=a+1) O).alloc (.cells #[Ae 33,A 0,A 0] 82);have xR:=Nr I ((a:Int)+1) (a+1) O 33;have kJ:=(k1.trans (Kp.setCell B BT BC BP w1 1 (A ((a:Int)+1)))).trans (Kp.alloc B BT BC BP _ (.cells #[Ae 33,A 0,A 0] 82))
 go_wp2_with fail
 refine(hF _ (a+1) d Y cs ps O hd O O O O kU).mono ?_;rw[Z HR];rintro e w2 ⟨k2,⟨z,rfl⟩,M⟩;have hX:=xR.kp k2;have x0:=hX.p0;have x1:=hX.p1;have x2:=hX.p2;have y0:=hX.f0;have y1:=hX.f1;have y2:=hX.f2
 go_wp2_with fail
 go_ret2
 refine⟨?_,⟨_,rfl⟩,?_⟩
 ·repeat refine Kp.jJ k1.size ?_ _ _
  exact kJ.trans k2
 ·repeat refine Bad.dI ?_ hX.nB _ _
  exact M
theorem J3(hs:s.size<=100)(ha:a<=s.size)(hd:d<=8)(ht:Y.length<=a)(hcs:cs.length<=a)(oQ:ps.length<=a)(hn:s.size<a+1+n)(HC:Hid (pk s a=33))(hF:zl B BT BC BP s n)(a1:Nat)(aP:Ai)(dQ:Ah)(ps1:Ai)(m:Nat)(hl:ps1.length<=1000)(Fb:m<=1000)(HR:Hid (au.lG (pk s) n (a+1) d Y cs ps=.ok (a1,aP,dQ,ps1,m)))(h:CI w B BT BC BP s a d Y cs ps) :
  Calls prog 24 #[Aa B 0] w (PostF w B BT BC BP s d (.ok (a1,aP,dQ,put ps1 (33,m,0),ps1.idxOf ((33,m,0):Key)))):=by
 have hlt:a<s.size:=dW (by rw[Z HC];omega)
 go_in
 go_wp2_with fail
 refine(cO w B BT BC BP s a d Y cs ps hs ha h).mono ?_;rw[Z HC];rintro e w1 ⟨rfl,I,k1⟩;have c1:=I.c1;have YH:=I.lt;have f1:=I.f1;have kU:=(I.set1 (v:=(a:Int)+1) (a':=a+1) O).alloc (.cells #[Ae 33,A 0,A 0] 82);have xR:=Nr I ((a:Int)+1) (a+1) O 33;have kJ:=(k1.trans (Kp.setCell B BT BC BP w1 1 (A ((a:Int)+1)))).trans (Kp.alloc B BT BC BP _ (.cells #[Ae 33,A 0,A 0] 82))
 go_wp2_with fail
 refine(hF _ (a+1) d Y cs ps O hd O O O O kU).mono ?_;rw[Z HR];rintro e w2 ⟨k2,rfl,M⟩;have hX:=xR.kp k2;have x0:=hX.p0;have x1:=hX.p1;have x2:=hX.p2;have y0:=hX.f0;have y1:=hX.f1;have y2:=hX.f2;have c6:=M.c6;have HI:=F (M.px hX 1 (A (m:Nat)));have XH:=F (Kp.jJ k1.size (kJ.trans k2) 1 (A (m:Nat)))
 go_wp2_with fail
 go_region_with (go_at_call 50;refine(yD BP ps1 33 m 0 m 0 _ rfl rfl O O O hl (by exact(Z HI).mp.kept rfl)).mono ?_;rintro e w3 ⟨rfl,hm,hg⟩)
 all_goals
  go_wp2_with fail
  go_ret2
  exact⟨(Z XH).trans ((Kp.drewN _ _ _ _ _ 1).trans (Kp.JY hg)),rfl,((Z HI).drewN 1).acz hm hg⟩
theorem J5(hs:s.size<=100)(ha:a<=s.size)(hd:d<=8)(ht:Y.length<=a)(hcs:cs.length<=a)(oQ:ps.length<=a)(hn:s.size<a+1+1+n)(HC:Hid (pk s a=80))(E:Int)(p:Nat)(HR:Hid (au.arg1 (pk s) (au.iU (pk s) n) (a+1) d Y=.error (E,p)))(h:CI w B BT BC BP s a d Y cs ps) :
  Calls prog 24 #[Aa B 0] w (PostF w B BT BC BP s d (.error (E,p))):=by
 have hlt:a<s.size:=dW (by rw[Z HC];omega)
 go_in
 go_wp2_with fail
 refine(cO w B BT BC BP s a d Y cs ps hs ha h).mono ?_;rw[Z HC];rintro e w1 ⟨rfl,I,k1⟩;have c1:=I.c1;have YH:=I.lt;have f1:=I.f1;have kU:=(I.set1 (v:=(a:Int)+1) (a':=a+1) O).alloc (.cells #[Ae 80,A 0,A 0] 82);have xR:=Nr I ((a:Int)+1) (a+1) O 80;have kJ:=(k1.trans (Kp.setCell B BT BC BP w1 1 (A ((a:Int)+1)))).trans (Kp.alloc B BT BC BP _ (.cells #[Ae 80,A 0,A 0] 82))
 go_wp2_with fail
 refine(zX _ B BT BC BP s (a+1) d Y cs ps n hs O hd O O O 80 O kU).mono ?_;rw[Z HR];rintro e w2 ⟨k2,⟨z,rfl⟩,M⟩;have hX:=xR.kp k2;have x0:=hX.p0;have x1:=hX.p1;have x2:=hX.p2;have y0:=hX.f0;have y1:=hX.f1;have y2:=hX.f2
 go_wp2_with fail
 go_ret2
 refine⟨?_,⟨_,rfl⟩,?_⟩
 ·repeat refine Kp.jJ k1.size ?_ _ _
  exact kJ.trans k2
 ·repeat refine Bad.dI ?_ hX.nB _ _
  exact M
theorem MN(hs:s.size<=100)(ha:a<=s.size)(hd:d<=8)(ht:Y.length<=a)(hcs:cs.length<=a)(oQ:ps.length<=a)(hn:s.size<a+1+1+n)(HC:Hid (pk s a=80))(a1:Nat)(aP:Ai)(m ix:Nat)(HIX:Hid (cs.idxOf ((80,m):Int×Nat)=ix))(HR:Hid (au.arg1 (pk s) (au.iU (pk s) n) (a+1) d Y=.ok (a1,aP,m)))(h:CI w B BT BC BP s a d Y cs ps) :
  Calls prog 24 #[Aa B 0] w (PostF w B BT BC BP s d (.ok (a1,aP,put cs (80,m),put ps (80,ix,0),ps.idxOf ((80,ix,0):Key)))):=by
 have hlt:a<s.size:=dW (by rw[Z HC];omega);have GX:ix<=1000:=by have:cs.idxOf ((80,m):Int×Nat)<=cs.length:=aw3;rw[Z HIX]at this;omega
 go_in
 go_wp2_with fail
 refine(cO w B BT BC BP s a d Y cs ps hs ha h).mono ?_;rw[Z HC];rintro e w1 ⟨rfl,I,k1⟩;have c1:=I.c1;have YH:=I.lt;have f1:=I.f1;have kU:=(I.set1 (v:=(a:Int)+1) (a':=a+1) O).alloc (.cells #[Ae 80,A 0,A 0] 82);have xR:=Nr I ((a:Int)+1) (a+1) O 80;have kJ:=(k1.trans (Kp.setCell B BT BC BP w1 1 (A ((a:Int)+1)))).trans (Kp.alloc B BT BC BP _ (.cells #[Ae 80,A 0,A 0] 82))
 go_wp2_with fail
 refine(zX _ B BT BC BP s (a+1) d Y cs ps n hs O hd O O O 80 O kU).mono ?_;rw[Z HR];rintro e w2 ⟨k2,he,M⟩;rw[Z HIX]at he;subst he;have hX:=xR.kp k2;have x0:=hX.p0;have x1:=hX.p1;have x2:=hX.p2;have y0:=hX.f0;have y1:=hX.f1;have y2:=hX.f2;have c6:=M.c6;have HI:=F (M.px hX 1 (A (ix:Nat)));have XH:=F (Kp.jJ k1.size (kJ.trans k2) 1 (A (ix:Nat)))
 go_wp2_with fail
 go_region_with (go_at_call 50;refine(yD BP ps 80 ix 0 ix 0 _ rfl rfl O O O O (by exact(Z HI).mp.kept rfl)).mono ?_;rintro e w3 ⟨rfl,hm,hg⟩)
 all_goals
  go_wp2_with fail
  go_ret2
  exact⟨(Z XH).trans ((Kp.drewN _ _ _ _ _ 1).trans (Kp.JY hg)),rfl,((Z HI).drewN 1).acz hm hg⟩
theorem J4(hs:s.size<=100)(ha:a<=s.size)(hd:d<=8)(ht:Y.length<=a)(hcs:cs.length<=a)(oQ:ps.length<=a)(hn:s.size<a+1+1+n)(HC:Hid (pk s a=81))(E:Int)(p:Nat)(HR:Hid (au.arg1 (pk s) (au.iU (pk s) n) (a+1) d Y=.error (E,p)))(h:CI w B BT BC BP s a d Y cs ps) :
  Calls prog 24 #[Aa B 0] w (PostF w B BT BC BP s d (.error (E,p))):=by
 have hlt:a<s.size:=dW (by rw[Z HC];omega)
 go_in
 go_wp2_with fail
 refine(cO w B BT BC BP s a d Y cs ps hs ha h).mono ?_;rw[Z HC];rintro e w1 ⟨rfl,I,k1⟩;have c1:=I.c1;have YH:=I.lt;have f1:=I.f1;have kU:=(I.set1 (v:=(a:Int)+1) (a':=a+1) O).alloc (.cells #[Ae 81,A 0,A 0] 82);have xR:=Nr I ((a:Int)+1) (a+1) O 81;have kJ:=(k1.trans (Kp.setCell B BT BC BP w1 1 (A ((a:Int)+1)))).trans (Kp.alloc B BT BC BP _ (.cells #[Ae 81,A 0,A 0] 82))
 go_wp2_with fail
 refine(zX _ B BT BC BP s (a+1) d Y cs ps n hs O hd O O O 81 O kU).mono ?_;rw[Z HR];rintro e w2 ⟨k2,⟨z,rfl⟩,M⟩;have hX:=xR.kp k2;have x0:=hX.p0;have x1:=hX.p1;have x2:=hX.p2;have y0:=hX.f0;have y1:=hX.f1;have y2:=hX.f2
 go_wp2_with fail
 go_ret2
 refine⟨?_,⟨_,rfl⟩,?_⟩
 ·repeat refine Kp.jJ k1.size ?_ _ _
  exact kJ.trans k2
 ·repeat refine Bad.dI ?_ hX.nB _ _
  exact M
theorem ML(hs:s.size<=100)(ha:a<=s.size)(hd:d<=8)(ht:Y.length<=a)(hcs:cs.length<=a)(oQ:ps.length<=a)(hn:s.size<a+1+1+n)(HC:Hid (pk s a=81))(a1:Nat)(aP:Ai)(m ix:Nat)(HIX:Hid (cs.idxOf ((81,m):Int×Nat)=ix))(HR:Hid (au.arg1 (pk s) (au.iU (pk s) n) (a+1) d Y=.ok (a1,aP,m)))(h:CI w B BT BC BP s a d Y cs ps) :
  Calls prog 24 #[Aa B 0] w (PostF w B BT BC BP s d (.ok (a1,aP,put cs (81,m),put ps (81,ix,0),ps.idxOf ((81,ix,0):Key)))):=by
 have hlt:a<s.size:=dW (by rw[Z HC];omega);have GX:ix<=1000:=by have:cs.idxOf ((81,m):Int×Nat)<=cs.length:=aw3;rw[Z HIX]at this;omega
 go_in
 go_wp2_with fail
 refine(cO w B BT BC BP s a d Y cs ps hs ha h).mono ?_;rw[Z HC];rintro e w1 ⟨rfl,I,k1⟩;have c1:=I.c1;have YH:=I.lt;have f1:=I.f1;have kU:=(I.set1 (v:=(a:Int)+1) (a':=a+1) O).alloc (.cells #[Ae 81,A 0,A 0] 82);have xR:=Nr I ((a:Int)+1) (a+1) O 81;have kJ:=(k1.trans (Kp.setCell B BT BC BP w1 1 (A ((a:Int)+1)))).trans (Kp.alloc B BT BC BP _ (.cells #[Ae 81,A 0,A 0] 82))
 go_wp2_with fail
 refine(zX _ B BT BC BP s (a+1) d Y cs ps n hs O hd O O O 81 O kU).mono ?_;rw[Z HR];rintro e w2 ⟨k2,he,M⟩;rw[Z HIX]at he;subst he;have hX:=xR.kp k2;have x0:=hX.p0;have x1:=hX.p1;have x2:=hX.p2;have y0:=hX.f0;have y1:=hX.f1;have y2:=hX.f2;have c6:=M.c6;have HI:=F (M.px hX 1 (A (ix:Nat)));have XH:=F (Kp.jJ k1.size (kJ.trans k2) 1 (A (ix:Nat)))
 go_wp2_with fail
 go_region_with (go_at_call 50;refine(yD BP ps 81 ix 0 ix 0 _ rfl rfl O O O O (by exact(Z HI).mp.kept rfl)).mono ?_;rintro e w3 ⟨rfl,hm,hg⟩)
 all_goals
  go_wp2_with fail
  go_ret2
  exact⟨(Z XH).trans ((Kp.drewN _ _ _ _ _ 1).trans (Kp.JY hg)),rfl,((Z HI).drewN 1).acz hm hg⟩
theorem MJ(hs:s.size<=100)(ha:a<=s.size)(hd:d<=8)(ht:Y.length<=a)(hcs:cs.length<=a)(oQ:ps.length<=a)(HC:Hid (pk s a=40))(E:Int)(p:Nat)(HP:Hid (∀w,CI w B BT BC BP s a d Y cs ps->Calls prog 47 #[Aa B 0] w (tu w B BT BC BP s d (.error (E,p)))))(h:CI w B BT BC BP s a d Y cs ps) :
  Calls prog 24 #[Aa B 0] w (PostF w B BT BC BP s d (.error (E,p))):=by
 have hlt:a<s.size:=dW (by rw[Z HC];omega)
 go_in
 go_wp2_with fail
 refine(cO w B BT BC BP s a d Y cs ps hs ha h).mono ?_;rw[Z HC];rintro e w1 ⟨rfl,I,k1⟩;have kU:=I.alloc (.cells #[Ae 40,A 0,A 0] 82);have xR:=PX.new I 40 0 0;have kJ:=k1.trans (Kp.alloc B BT BC BP _ (.cells #[Ae 40,A 0,A 0] 82))
 go_wp2_with fail
 refine((Z HP) _ kU).mono ?_;rintro e w2 ⟨k2,⟨x,y,z,rfl⟩,M⟩;have hX:=xR.kp k2;have x0:=hX.p0;have x1:=hX.p1;have x2:=hX.p2;have y0:=hX.f0;have y1:=hX.f1;have y2:=hX.f2
 go_wp2_with fail
 go_ret2
 refine⟨?_,⟨_,rfl⟩,?_⟩
 ·repeat refine Kp.jJ k1.size ?_ _ _
  exact kJ.trans k2
 ·repeat refine Bad.dI ?_ hX.nB _ _
  exact M
theorem Pv(hs:s.size<=100)(ha:a<=s.size)(hd:d<=8)(ht:Y.length<=a)(hcs:cs.length<=a)(oQ:ps.length<=a)(HC:Hid (pk s a=40))(a1:Nat)(aP:Ai)(dQ:Ah)(ps1:Ai)(q0:Int)(q1 q2:Nat)(hl:ps1.length<=1000)(hq0:0<=q0/\q0<=255)(Qk:q1<=1000)(OX:q2<=1000)(HP:Hid (∀w,CI w B BT BC BP s a d Y cs ps->Calls prog 47 #[Aa B 0] w (tu w B BT BC BP s d (.ok (a1,aP,dQ,ps1,(q0,q1,q2))))))(h:CI w B BT BC BP s a d Y cs ps) :
  Calls prog 24 #[Aa B 0] w (PostF w B BT BC BP s d (.ok (a1,aP,dQ,put ps1 (q0,q1,q2),ps1.idxOf ((q0,q1,q2):Key)))):=by
 have hlt:a<s.size:=dW (by rw[Z HC];omega)
 go_in
 go_wp2_with fail
 refine(cO w B BT BC BP s a d Y cs ps hs ha h).mono ?_;rw[Z HC];rintro e w1 ⟨rfl,I,k1⟩;have kU:=I.alloc (.cells #[Ae 40,A 0,A 0] 82);have xR:=PX.new I 40 0 0;have kJ:=k1.trans (Kp.alloc B BT BC BP _ (.cells #[Ae 40,A 0,A 0] 82))
 go_wp2_with fail
 refine((Z HP) _ kU).mono ?_;rintro e w2 ⟨k2,rfl,M⟩;have hX:=xR.kp k2;have x0:=hX.p0;have x1:=hX.p1;have x2:=hX.p2;have y0:=hX.f0;have y1:=hX.f1;have y2:=hX.f2;have c6:=M.c6;have HI:=F (((M.px hX 0 (Ae q0)).dI hX.nB hX.nT hX.nC hX.nP 1 (A (q1:Nat))).dI hX.nB hX.nT hX.nC hX.nP 2 (A (q2:Nat)));have XH:=F (Kp.jJ k1.size (Kp.jJ k1.size (Kp.jJ k1.size (kJ.trans k2) 0 (Ae q0)) 1 (A (q1:Nat))) 2 (A (q2:Nat)))
 go_wp2_with fail
 go_region_with (go_at_call 50;refine(yD BP ps1 q0 q1 q2 q1 q2 _ rfl rfl hq0 Qk OX hl (by exact(Z HI).mp.kept rfl)).mono ?_;rintro e w3 ⟨rfl,hm,hg⟩)
 all_goals
  go_wp2_with fail
  go_ret2
  exact⟨(Z XH).trans ((Kp.drewN _ _ _ _ _ 1).trans (Kp.JY hg)),rfl,((Z HI).drewN 1).acz hm hg⟩
end
section
variable (w:World) (B BT BC BP:Nat) (s:ByteArray) (a d:Nat) (Y:List Key) (cs:List (Int×Nat)) (ps:List Key) (n:Nat)
theorem MK(hs:s.size<=100)(ha:a<=s.size)(hd:d<=8)(ht:Y.length<=a)(hcs:cs.length<=a)(oQ:ps.length<=a)(c:Int)(HC:Hid (pk s a=c))(b1:(c==33)=false)(b2:(c==40)=false)(b3:(c==80)=false)(b4:(c==81)=false)(E:Int)(p:Nat)(HP:Hid (∀w,CI w B BT BC BP s a d Y cs ps->Calls prog 49 #[Aa B 0] w (tu w B BT BC BP s d (.error (E,p)))))(h:CI w B BT BC BP s a d Y cs ps) :
  Calls prog 24 #[Aa B 0] w (PostF w B BT BC BP s d (.error (E,p))):=by
 go_in
 go_wp2_with fail
 refine(cO w B BT BC BP s a d Y cs ps hs ha h).mono ?_;rw[Z HC];rintro e w1 ⟨rfl,I,k1⟩;have kU:=I.alloc (.cells #[Ae c,A 0,A 0] 82);have xR:=PX.new I c 0 0;have kJ:=k1.trans (Kp.alloc B BT BC BP _ (.cells #[Ae c,A 0,A 0] 82))
 go_wp2_with fail
 refine((Z HP) _ kU).mono ?_;rintro e w2 ⟨k2,⟨x,y,z,rfl⟩,M⟩;have hX:=xR.kp k2;have x0:=hX.p0;have x1:=hX.p1;have x2:=hX.p2;have y0:=hX.f0;have y1:=hX.f1;have y2:=hX.f2
 go_wp2_with fail
 go_ret2
 refine⟨?_,⟨_,rfl⟩,?_⟩
 ·repeat refine Kp.jJ k1.size ?_ _ _
  exact kJ.trans k2
 ·repeat refine Bad.dI ?_ hX.nB _ _
  exact M
theorem Px(hs:s.size<=100)(ha:a<=s.size)(hd:d<=8)(ht:Y.length<=a)(hcs:cs.length<=a)(oQ:ps.length<=a)(c:Int)(HC:Hid (pk s a=c))(b1:(c==33)=false)(b2:(c==40)=false)(b3:(c==80)=false)(b4:(c==81)=false)(a1:Nat)(aP:Ai)(dQ:Ah)(ps1:Ai)(q0:Int)(q1 q2:Nat)(hl:ps1.length<=1000)(hq0:0<=q0/\q0<=255)(Qk:q1<=1000)(OX:q2<=1000)(HP:Hid (∀w,CI w B BT BC BP s a d Y cs ps->Calls prog 49 #[Aa B 0] w (tu w B BT BC BP s d (.ok (a1,aP,dQ,ps1,(q0,q1,q2))))))(h:CI w B BT BC BP s a d Y cs ps) :
  Calls prog 24 #[Aa B 0] w (PostF w B BT BC BP s d (.ok (a1,aP,dQ,put ps1 (q0,q1,q2),ps1.idxOf ((q0,q1,q2):Key)))):=by
 go_in
 go_wp2_with fail
 refine(cO w B BT BC BP s a d Y cs ps hs ha h).mono ?_;rw[Z HC];rintro e w1 ⟨rfl,I,k1⟩;have kU:=I.alloc (.cells #[Ae c,A 0,A 0] 82);have xR:=PX.new I c 0 0;have kJ:=k1.trans (Kp.alloc B BT BC BP _ (.cells #[Ae c,A 0,A 0] 82))
 go_wp2_with fail
 refine((Z HP) _ kU).mono ?_;rintro e w2 ⟨k2,rfl,M⟩;have hX:=xR.kp k2;have x0:=hX.p0;have x1:=hX.p1;have x2:=hX.p2;have y0:=hX.f0;have y1:=hX.f1;have y2:=hX.f2;have c6:=M.c6;have HI:=F (((M.px hX 0 (Ae q0)).dI hX.nB hX.nT hX.nC hX.nP 1 (A (q1:Nat))).dI hX.nB hX.nT hX.nC hX.nP 2 (A (q2:Nat)));have XH:=F (Kp.jJ k1.size (Kp.jJ k1.size (Kp.jJ k1.size (kJ.trans k2) 0 (Ae q0)) 1 (A (q1:Nat))) 2 (A (q2:Nat)))
 go_wp2_with fail
 go_region_with (go_at_call 50;refine(yD BP ps1 q0 q1 q2 q1 q2 _ rfl rfl hq0 Qk OX hl (by exact(Z HI).mp.kept rfl)).mono ?_;rintro e w3 ⟨rfl,hm,hg⟩)
 all_goals
  go_wp2_with fail
  go_ret2
  exact⟨(Z XH).trans ((Kp.drewN _ _ _ _ _ 1).trans (Kp.JY hg)),rfl,((Z HI).drewN 1).acz hm hg⟩
theorem Pq(hs:s.size<=100)(hF:zl B BT BC BP s n):zl B BT BC BP s (n+1):=by
 intro w a d Y cs ps ha hd ht hcs oQ hn h;unfold au.lG;split
 ·rename_i e;have hlt:a<s.size:=dW O;have iq:=au.zB (Dn s).1 (Dn s).2 n (a+1) d Y cs ps O O O O;cases hR:au.lG (pk s) n (a+1) d Y cs ps with
  |error Ep=>
   obtain⟨E,p⟩:=Ep;exact GZ w B BT BC BP s a d Y cs ps n hs ha hd ht hcs oQ O (F e) hF E p (F hR) h
  |ok q=>
   obtain⟨a1,aP,dQ,ps1,m⟩:=q;rw[hR]at iq;obtain⟨p1,p2,p3,p4,p5,p6,p7⟩:=iq;exact J3 w B BT BC BP s a d Y cs ps n hs ha hd ht hcs oQ O (F e) hF a1 aP dQ ps1 m O O (F hR) h
 ·rename_i e33;split
  ·rename_i e;have hlt:a<s.size:=dW O;have HP:Hid (∀w,CI w B BT BC BP s a d Y cs ps->Calls prog 47 #[Aa B 0] w (tu w B BT BC BP s d (au.ZA (pk s) (au.lG (pk s) n) a d Y cs ps))):=λw h=>VE w B BT BC BP s a d Y cs ps n hs ha hd ht hcs oQ O e hF h;have iq:=au.ae2 (Dn s).1 (Dn s).2 (n:=n) (a:=a) (d:=d) (Y:=Y) (cs:=cs) (ps:=ps) hlt ht hcs oQ;cases hR:au.ZA (pk s) (au.lG (pk s) n) a d Y cs ps with
   |error Ep=>
    obtain⟨E,p⟩:=Ep;rw[hR]at HP;exact MJ w B BT BC BP s a d Y cs ps hs ha hd ht hcs oQ (F e) E p HP h
   |ok q=>
    obtain⟨a1,aP,dQ,ps1,q0,q1,q2⟩:=q;rw[hR]at HP iq;obtain⟨p1,p2,p3,p4,p5,p6,p7,p8,p9,p10⟩:=iq;exact Pv w B BT BC BP s a d Y cs ps hs ha hd ht hcs oQ (F e) a1 aP dQ ps1 q0 q1 q2 O ⟨p9,p10⟩ (by simp at p7;omega) (by simp at p8;omega) HP h
  ·rename_i e40;split
   ·rename_i e8;have hlt:a<s.size:=dW O;unfold au.rdC;obtain e|e:=e8
    ·rw[e];cases hR:au.arg1 (pk s) (au.iU (pk s) (n+1)) (a+1) d Y with
     |error Ep=>
      obtain⟨E,p⟩:=Ep;exact J5 w B BT BC BP s a d Y cs ps (n+1) hs ha hd ht hcs oQ O (F e) E p (F hR) h
     |ok q=>
      obtain⟨a1,aP,m⟩:=q;exact MN w B BT BC BP s a d Y cs ps (n+1) hs ha hd ht hcs oQ O (F e) a1 aP m _ (F rfl) (F hR) h
    ·rw[e];cases hR:au.arg1 (pk s) (au.iU (pk s) (n+1)) (a+1) d Y with
     |error Ep=>
      obtain⟨E,p⟩:=Ep;exact J4 w B BT BC BP s a d Y cs ps (n+1) hs ha hd ht hcs oQ O (F e) E p (F hR) h
     |ok q=>
      obtain⟨a1,aP,m⟩:=q;exact ML w B BT BC BP s a d Y cs ps (n+1) hs ha hd ht hcs oQ O (F e) a1 aP m _ (F rfl) (F hR) h
   ·rename_i e8;have Fj:((pk s a==33)=false/\(pk s a==40)=false)/\(pk s a==80)=false/\(pk s a==81)=false:=anf;obtain⟨⟨b1,b2⟩,b3,b4⟩:=Fj;have HP:Hid (∀w,CI w B BT BC BP s a d Y cs ps->Calls prog 49 #[Aa B 0] w (tu w B BT BC BP s d (au.OC (pk s) (n+1) a d Y cs ps))):=λw h=>PD w B BT BC BP s a d Y cs ps (n+1) hs ha hd ht O h;have iq:=au.X9 (Dn s).1 (n:=n+1) (a:=a) (d:=d) (Y:=Y) (cs:=cs) (ps:=ps) ha ht;cases hR:au.OC (pk s) (n+1) a d Y cs ps with
    |error Ep=>
     obtain⟨E,p⟩:=Ep;rw[hR]at HP;exact MK w B BT BC BP s a d Y cs ps hs ha hd ht hcs oQ _ (F rfl) b1 b2 b3 b4 E p HP h
    |ok q=>
     obtain⟨a1,aP,dQ,ps1,q0,q1,q2⟩:=q;rw[hR]at HP iq;obtain⟨p1,p2,p3,p4,p5,p6,p7,p8,p9,p10⟩:=iq;exact Px w B BT BC BP s a d Y cs ps hs ha hd ht hcs oQ _ (F rfl) b1 b2 b3 b4 a1 aP dQ ps1 q0 q1 q2 O ⟨p9,p10⟩ (by simp at p7;omega) (by simp at p8;omega) HP h
theorem oV(hs:s.size<=100):∀n,zl B BT BC BP s n
 |0=>λw a d Y cs ps ha hd ht hcs oQ hn h=>absurd hn O
 |n+1=>Pq B BT BC BP s n hs (oV hs n)
end
end Go.Proofs.YthcppbmkacbbiabGreat
