import Derived.Test.YthcppbmkacbbiabGreatWAE
set_option linter.unusedSimpArgs false
set_option maxHeartbeats 1000000
namespace Go.Proofs.YthcppbmkacbbiabGreat
open Go.Proofs.Tryz
open Go.RowKit Go.Maps Go.WideMaps
section
open aB (Key put RT wZ RF)
section
variable (w:World) (B BT BC BP:Nat) (s:ByteArray) (a d:Nat) (ts:List Key) (cs:List (Int×Nat)) (ps:List Key) (n:Nat)
theorem KP(hs:s.size<=100)(ha:a<s.size)(hd:d<=8)(ht:ts.length<=a)(hn:s.size<a+1+1+n)(hT:uI B BT BC BP s cs ps n)(hc:pk s a=102)(a1:Nat)(aF:List Key)(m:Nat)
 (HR:Hid (aB.arg1 (pk s) (aB.dR (pk s) n) (a+1) d ts=.ok (a1,aF,m)))(hl:aF.length<=1000)(hm1:m<=1000)(h:CI w B BT BC BP s a d ts cs ps) :
  Calls prog 96 #[.pointer (some ⟨B,0,none⟩)] w (PostT w B BT BC BP s d cs ps (.ok (a1,put aF (102,m,0),aF.idxOf ((102,m,0):Key)))):=by
 have HC:=aj hc;clear hc
 go_enter func96,ntmps96
 go_wp2_with fail
 refine(aW w B BT BC BP s a d ts cs ps hs (by omega) h).mono ?_;rw[ah HC];rintro e w1 ⟨rfl,h1,k1⟩;have c1:=h1.c1;have f1:=h1.f1;have c4:=h1.c4;have hlt:=h1.lt;have kM:=h1.mt.lt;have kP:=h1.mc.lt;have kN:=h1.mp.lt;have hI:=(h1.set1 (v:=(a:Int)+1) (a':=a+1) (by omega)).alloc (.cells #[.int .u8 102,.int .i64 0,.int .i64 0] 76);have HK:=aj ((k1.trans (Kp.setCell B BT BC BP w1 1 (.int .i64 ((a:Int)+1)))).trans (Kp.alloc B BT BC BP _ (.cells #[.int .u8 102,.int .i64 0,.int .i64 0] 76)))
 go_wp2_with fail
 refine(jQ _ B BT BC BP s (a+1) d ts cs ps n hs (by omega) hd (by omega) (by omega) hT hI).mono ?_;rw[ah HR];rintro e w2 ⟨k2,rfl,h2⟩;have cx0:=dK k2 hlt kM kP kN 0;have cx1:=dK k2 hlt kM kP kN 1;have cx2:=dK k2 hlt kM kP kN 2;have fx1:=dQ k2 hlt kM kP kN 1;have fx2:=dQ k2 hlt kM kP kN 2;simp at cx0 cx1 cx2;clear hI c1 f1 c4;have c4:=h2.c4;have HI:=aj (h2.bg (X:=w1.heap.size) (by omega) (by omega) (by omega) (by omega) 1 (.int .i64 (m:Nat)));have HK2:=aj (((ah HK).trans k2).bg (X:=w1.heap.size) (by have:=k1.size;omega) 1 (.int .i64 (m:Nat)))
 go_wp2_with fail
 go_region_with (go_at_call 141;refine(kJ BT aF 102 m 0 m 0 _ rfl rfl (by omega) (by omega) (by omega) hl (by exact(ah HI).mt.kept rfl)).mono ?_;rintro e w3 ⟨rfl,hm,hg⟩)
 all_goals
  go_wp2_with fail
  go_ret2
  exact⟨(ah HK2).trans ((Kp.drewN _ _ _ _ _ 1).trans (Kp.rQ hg)),rfl,((ah HI).drewN 1).Hz hm hg⟩
theorem GI(hs:s.size<=100)(ha:a<s.size)(hd:d<=8)(ht:ts.length<=a)(hn:s.size<a+1+1+n)(hT:uI B BT BC BP s cs ps n)(hc:pk s a=102)(E:Int)(p:Nat)
 (HR:Hid (aB.arg1 (pk s) (aB.dR (pk s) n) (a+1) d ts=.error (E,p)))(h:CI w B BT BC BP s a d ts cs ps) :
  Calls prog 96 #[.pointer (some ⟨B,0,none⟩)] w (PostT w B BT BC BP s d cs ps (.error (E,p))):=by
 have HC:=aj hc;clear hc
 go_enter func96,ntmps96
 go_wp2_with fail
 refine(aW w B BT BC BP s a d ts cs ps hs (by omega) h).mono ?_;rw[ah HC];rintro e w1 ⟨rfl,h1,k1⟩;have c1:=h1.c1;have f1:=h1.f1;have c4:=h1.c4;have hlt:=h1.lt;have kM:=h1.mt.lt;have kP:=h1.mc.lt;have kN:=h1.mp.lt;have hI:=(h1.set1 (v:=(a:Int)+1) (a':=a+1) (by omega)).alloc (.cells #[.int .u8 102,.int .i64 0,.int .i64 0] 76);have HK:=aj ((k1.trans (Kp.setCell B BT BC BP w1 1 (.int .i64 ((a:Int)+1)))).trans (Kp.alloc B BT BC BP _ (.cells #[.int .u8 102,.int .i64 0,.int .i64 0] 76)))
 go_wp2_with fail
 refine(jQ _ B BT BC BP s (a+1) d ts cs ps n hs (by omega) hd (by omega) (by omega) hT hI).mono ?_;rw[ah HR];rintro e w2 ⟨k2,⟨z,rfl⟩,h2⟩;have cx0:=dK k2 hlt kM kP kN 0;have cx1:=dK k2 hlt kM kP kN 1;have cx2:=dK k2 hlt kM kP kN 2;have fx1:=dQ k2 hlt kM kP kN 1;have fx2:=dQ k2 hlt kM kP kN 2;simp at cx0 cx1 cx2;clear hI c1 f1 c4
 go_wp2_with fail
 go_ret2
 exact⟨(((ah HK).trans k2).bg (X:=w1.heap.size) (by have:=k1.size;omega) 1 (.int .i64 z)),⟨_,rfl⟩,(h2.bg (X:=w1.heap.size) (by omega) 1 (.int .i64 z))⟩
theorem Ti(hs:s.size<=100)(ha:a<=s.size)(h1:aB.isName (pk s a)=false)(h2:pk s a≠102)(h3:pk s a≠103)(h:CI w B BT BC BP s a d ts cs ps) :
  Calls prog 96 #[.pointer (some ⟨B,0,none⟩)] w (PostT w B BT BC BP s d cs ps (.error (2,a))):=by
 generalize hp:pk s a=p at h1 h2 h3;have HP:=aj hp;clear hp;have hc':((p==97)=false/\(p==98)=false/\(p==99)=false)/\(p==100)=false/\(p==101)=false/\(p==102)=false/\(p==103)=false:=by
  simp[aB.isName]at h1;simp;omega
 obtain⟨⟨b1,b2,b3⟩,b4,b5,b6,b7⟩:=hc';clear h1 h2 h3
 go_enter func96,ntmps96
 go_wp2_with fail
 refine(aW w B BT BC BP s a d ts cs ps hs ha h).mono ?_;rw[ah HP];rintro e w1 ⟨rfl,h1,k1⟩
 go_wp2_with fail
 refine(lT _ B BT BC BP s a d ts cs ps 2 (h1.alloc _)).mono ?_;rintro e w2 ⟨rfl,h2,k2⟩
 go_wp2_with fail
 go_ret2
 exact⟨(k1.trans (Kp.alloc _ _ _ _ _ _)).trans k2,⟨_,rfl⟩,h2⟩
end
section
variable (w:World) (B BT BC BP:Nat) (s:ByteArray) (a d:Nat) (ts:List Key) (cs:List (Int×Nat)) (ps:List Key) (n:Nat)
theorem KO(hs:s.size<=100)(ha:a<s.size)(hd:d<=8)(ht:ts.length<=a)(hn:s.size<a+1+1+n)(hT:uI B BT BC BP s cs ps n)(hc:pk s a=103)(a1:Nat)(aF:List Key)(m m2:Nat)
 (HR:Hid (aB.arg2 (pk s) (aB.dR (pk s) n) (a+1) d ts=.ok (a1,aF,m,m2)))(hl:aF.length<=1000)(hm1:m<=1000)(hm2:m2<=1000)(h:CI w B BT BC BP s a d ts cs ps) :
  Calls prog 96 #[.pointer (some ⟨B,0,none⟩)] w (PostT w B BT BC BP s d cs ps (.ok (a1,put aF (103,m,m2),aF.idxOf ((103,m,m2):Key)))):=by
 have HC:=aj hc;clear hc
 go_enter func96,ntmps96
 go_wp2_with fail
 refine(aW w B BT BC BP s a d ts cs ps hs (by omega) h).mono ?_;rw[ah HC];rintro e w1 ⟨rfl,h1,k1⟩;have c1:=h1.c1;have f1:=h1.f1;have c4:=h1.c4;have hlt:=h1.lt;have kM:=h1.mt.lt;have kP:=h1.mc.lt;have kN:=h1.mp.lt;have hI:=(h1.set1 (v:=(a:Int)+1) (a':=a+1) (by omega)).alloc (.cells #[.int .u8 103,.int .i64 0,.int .i64 0] 76);have HK:=aj ((k1.trans (Kp.setCell B BT BC BP w1 1 (.int .i64 ((a:Int)+1)))).trans (Kp.alloc B BT BC BP _ (.cells #[.int .u8 103,.int .i64 0,.int .i64 0] 76)))
 go_wp2_with fail
 refine(qZ _ B BT BC BP s (a+1) d ts cs ps n hs (by omega) hd (by omega) (by omega) hT hI).mono ?_;rw[ah HR];rintro e w2 ⟨k2,rfl,h2⟩;have cx0:=dK k2 hlt kM kP kN 0;have cx1:=dK k2 hlt kM kP kN 1;have cx2:=dK k2 hlt kM kP kN 2;have fx1:=dQ k2 hlt kM kP kN 1;have fx2:=dQ k2 hlt kM kP kN 2;simp at cx0 cx1 cx2;clear hI c1 f1 c4;have c4:=h2.c4;have HI:=aj ((h2.bg (X:=w1.heap.size) (by omega) (by omega) (by omega) (by omega) 1 (.int .i64 (m:Nat))).bg (X:=w1.heap.size) (by omega) (by omega) (by omega) (by omega) 2 (.int .i64 (m2:Nat)));have HK2:=aj ((((ah HK).trans k2).bg (X:=w1.heap.size) (by have:=k1.size;omega) 1 (.int .i64 (m:Nat))).bg (X:=w1.heap.size) (by have:=k1.size;omega) 2 (.int .i64 (m2:Nat)))
 go_wp2_with fail
 go_region_with (go_at_call 141;refine(kJ BT aF 103 m m2 m m2 _ rfl rfl (by omega) (by omega) (by omega) hl (by exact(ah HI).mt.kept rfl)).mono ?_;rintro e w3 ⟨rfl,hm,hg⟩)
 all_goals
  go_wp2_with fail
  go_ret2
  exact⟨(ah HK2).trans ((Kp.drewN _ _ _ _ _ 1).trans (Kp.rQ hg)),rfl,((ah HI).drewN 1).Hz hm hg⟩
theorem GH(hs:s.size<=100)(ha:a<s.size)(hd:d<=8)(ht:ts.length<=a)(hn:s.size<a+1+1+n)(hT:uI B BT BC BP s cs ps n)(hc:pk s a=103)(E:Int)(p:Nat)
 (HR:Hid (aB.arg2 (pk s) (aB.dR (pk s) n) (a+1) d ts=.error (E,p)))(h:CI w B BT BC BP s a d ts cs ps) :
  Calls prog 96 #[.pointer (some ⟨B,0,none⟩)] w (PostT w B BT BC BP s d cs ps (.error (E,p))):=by
 have HC:=aj hc;clear hc
 go_enter func96,ntmps96
 go_wp2_with fail
 refine(aW w B BT BC BP s a d ts cs ps hs (by omega) h).mono ?_;rw[ah HC];rintro e w1 ⟨rfl,h1,k1⟩;have c1:=h1.c1;have f1:=h1.f1;have c4:=h1.c4;have hlt:=h1.lt;have kM:=h1.mt.lt;have kP:=h1.mc.lt;have kN:=h1.mp.lt;have hI:=(h1.set1 (v:=(a:Int)+1) (a':=a+1) (by omega)).alloc (.cells #[.int .u8 103,.int .i64 0,.int .i64 0] 76);have HK:=aj ((k1.trans (Kp.setCell B BT BC BP w1 1 (.int .i64 ((a:Int)+1)))).trans (Kp.alloc B BT BC BP _ (.cells #[.int .u8 103,.int .i64 0,.int .i64 0] 76)))
 go_wp2_with fail
 refine(qZ _ B BT BC BP s (a+1) d ts cs ps n hs (by omega) hd (by omega) (by omega) hT hI).mono ?_;rw[ah HR];rintro e w2 ⟨k2,⟨z,z2,rfl⟩,h2⟩;have cx0:=dK k2 hlt kM kP kN 0;have cx1:=dK k2 hlt kM kP kN 1;have cx2:=dK k2 hlt kM kP kN 2;have fx1:=dQ k2 hlt kM kP kN 1;have fx2:=dQ k2 hlt kM kP kN 2;simp at cx0 cx1 cx2;clear hI c1 f1 c4
 go_wp2_with fail
 go_ret2
 exact⟨((((ah HK).trans k2).bg (X:=w1.heap.size) (by have:=k1.size;omega) 1 (.int .i64 z)).bg (X:=w1.heap.size) (by have:=k1.size;omega) 2 (.int .i64 z2)),⟨_,rfl⟩,((h2.bg (X:=w1.heap.size) (by omega) 1 (.int .i64 z)).bg (X:=w1.heap.size) (by omega) 2 (.int .i64 z2))⟩
end
section
variable (w:World) (B BT BC BP:Nat) (s:ByteArray) (a d:Nat) (ts:List Key) (cs:List (Int×Nat)) (ps:List Key) (n:Nat)
theorem KN(hs:s.size<=100)(hT:uI B BT BC BP s cs ps n):uI B BT BC BP s cs ps (n+1):=by
 intro w a d ts ha hd ht hn h;unfold aB.dR;split
 ·rename_i hnm;have hlt:a<s.size:=bJ (λe=>by rw[e]at hnm;simp[aB.isName]at hnm);have h5:pk s a=97\/pk s a=98\/pk s a=99\/pk s a=100\/pk s a=101:=by simp[aB.isName]at hnm;omega
  rcases h5 with e|e|e|e|e
  ·rw[e];exact Tq w B BT BC BP s a d ts cs ps hs hlt ht e h
  ·rw[e];exact Tn w B BT BC BP s a d ts cs ps hs hlt ht e h
  ·rw[e];exact Tj w B BT BC BP s a d ts cs ps hs hlt ht e h
  ·rw[e];exact Oq w B BT BC BP s a d ts cs ps hs hlt ht e h
  ·rw[e];exact Oo w B BT BC BP s a d ts cs ps hs hlt ht e h
 ·rename_i hnm;split
  ·rename_i e;have hlt:a<s.size:=bJ (by omega);have hok:=aB.iZ (pk:=pk s) (N:=s.size) (λa h=>bJ h) (rec:=aB.dR (pk s) n) (a:=a+1) (d:=d) (ts:=ts) (by omega) (λh40=>aB.dH (λa h=>bJ h) _ _ _ _ (by have:=bJ (s:=s) (a:=a+1) (by omega);omega));cases hR:aB.arg1 (pk s) (aB.dR (pk s) n) (a+1) d ts with
   |error Ep=>
    obtain⟨E,p⟩:=Ep;exact GI w B BT BC BP s a d ts cs ps n hs hlt hd ht (by omega) hT e E p (aj hR) h
   |ok q=>
    obtain⟨a1,aF,m⟩:=q;rw[hR]at hok;obtain⟨p1,p2,p3,p4,p5⟩:=hok;exact KP w B BT BC BP s a d ts cs ps n hs hlt hd ht (by omega) hT e a1 aF m (aj hR) (by omega) (by omega) h
  ·split
   ·rename_i e;have hlt:a<s.size:=bJ (by omega);have hok:=aB.Bc (pk:=pk s) (N:=s.size) (λa h=>bJ h) (rec:=aB.dR (pk s) n) (a:=a+1) (d:=d) (ts:=ts) (by omega) (λa' ts' _ _ h'=>aB.dH (λa h=>bJ h) _ _ _ _ h');cases hR:aB.arg2 (pk s) (aB.dR (pk s) n) (a+1) d ts with
    |error Ep=>
     obtain⟨E,p⟩:=Ep;exact GH w B BT BC BP s a d ts cs ps n hs hlt hd ht (by omega) hT e E p (aj hR) h
    |ok q=>
     obtain⟨a1,aF,m,m2⟩:=q;rw[hR]at hok;obtain⟨p1,p2,p3,p4,p5,p6⟩:=hok;exact KO w B BT BC BP s a d ts cs ps n hs hlt hd ht (by omega) hT e a1 aF m m2 (aj hR) (by omega) (by omega) (by omega) h
   ·rename_i e1 e2;exact Ti w B BT BC BP s a d ts cs ps hs ha (by simpa using hnm) e1 e2 h
theorem sH(hs:s.size<=100):∀n,uI B BT BC BP s cs ps n
 |0=>λw a d ts ha hd ht hn h=>absurd hn (by omega)
 |n+1=>KN B BT BC BP s cs ps n hs (sH hs n)
end
end
open aB (Key put RT wZ RF RP RQ)
def PostF(w:World)(B BT BC BP:Nat)(s:ByteArray)(d:Nat)(r:RP)(e:Ending)(w':World):Prop:=
 Kp B BT BC BP w w'/\match r with
 |.ok (a1,aF,cs1,ps1,m)=>e=.returned (.tuple #[.int .i64 m,.bool true])/\CI w' B BT BC BP s a1 d aF cs1 ps1
 |.error (E,p)=>(∃z:Int,e=.returned (.tuple #[.int .i64 z,.bool false]))/\Bad w' B p E
def lF(w:World)(B BT BC BP:Nat)(s:ByteArray)(d:Nat)(r:RQ)(e:Ending)(w':World):Prop:=
 Kp B BT BC BP w w'/\match r with
 |.ok (a1,aF,cs1,ps1,q)=>e=.returned (.tuple #[.agg #[.int .u8 q.1,.int .i64 q.2.1,.int .i64 q.2.2],.bool true])/\CI w' B BT BC BP s a1 d aF cs1 ps1
 |.error (E,p)=>(∃x y z:Int,e=.returned (.tuple #[.agg #[.int .u8 x,.int .i64 y,.int .i64 z],.bool false]))/\Bad w' B p E
def aam(w:World)(B BT BC BP:Nat)(s:ByteArray)(d:Nat)(cs:List (Int×Nat))(ps:List Key)(c:Int)(r:RT)(e:Ending)(w':World):Prop:=
 Kp B BT BC BP w w'/\match r with
 |.ok (a1,aF,m)=>e=.returned (.tuple #[.int .i64 (cs.idxOf (c,m)),.bool true])/\CI w' B BT BC BP s a1 d aF (put cs (c,m)) ps
 |.error (E,p)=>(∃z:Int,e=.returned (.tuple #[.int .i64 z,.bool false]))/\Bad w' B p E
theorem Pn(BC:Nat)(cs:List (Int×Nat))(c xi:Int)(x:Nat)(w:World)(hx:xi=x)(h1:0<=c/\c<=255)(h2:x<=1000)(hl:cs.length<=1000)(hM:aH w 79 BC iT cs) :
  Calls prog 95 #[.map (some BC),.agg #[.int .u8 c,.int .i64 xi]] w λe w'=>
   e=.returned (.int .i64 (cs.idxOf (c,x)))/\aH w' 79 BC iT (put cs (c,x))/\w.grownBy w' (some BC):=by
 subst hx;exact Po BC cs c x w h1 h2 hl hM
theorem pF(BP:Nat)(ps:List Key)(c xi yi:Int)(x y:Nat)(w:World)(hx:xi=x)(hy:yi=y)(h1:0<=c/\c<=255)(h2:x<=1000)(h3:y<=1000)(hl:ps.length<=1000)(hM:aH w 82 BP aS ps) :
  Calls prog 50 #[.map (some BP),.agg #[.int .u8 c,.int .i64 xi,.int .i64 yi]] w λe w'=>
   e=.returned (.int .i64 (ps.idxOf (c,x,y)))/\aH w' 82 BP aS (put ps (c,x,y))/\w.grownBy w' (some BP):=by
 subst hx;subst hy;exact ES BP ps c x y w h1 h2 h3 hl hM
structure PX(w:World)(X B BT BC BP:Nat)(c x y:Int):Prop where
 p0:w.cell? ⟨X,0,none⟩=some (.int .u8 c)
 p1:w.cell? ⟨X,1,none⟩=some (.int .i64 x)
 p2:w.cell? ⟨X,2,none⟩=some (.int .i64 y)
 f0:w.frozen? ⟨X,0,none⟩=false
 f1:w.frozen? ⟨X,1,none⟩=false
 f2:w.frozen? ⟨X,2,none⟩=false
 nB:X≠B
 nT:X≠BT
 nC:X≠BC
 nP:X≠BP
 lt:X<w.heap.size
section
variable {w w':World} {X B BT BC BP:Nat} {c x y:Int} {s:ByteArray} {a d:Nat} {ts:List Key} {cs:List (Int×Nat)} {ps:List Key}
theorem PX.kp(h:PX w X B BT BC BP c x y)(k:Kp B BT BC BP w w'):PX w' X B BT BC BP c x y:=
 ⟨(k.cell h.lt h.nB h.nT h.nC h.nP).trans h.p0,(k.cell h.lt h.nB h.nT h.nC h.nP).trans h.p1,(k.cell h.lt h.nB h.nT h.nC h.nP).trans h.p2,
  (k.frozen h.lt h.nB h.nT h.nC h.nP).trans h.f0,(k.frozen h.lt h.nB h.nT h.nC h.nP).trans h.f1,(k.frozen h.lt h.nB h.nT h.nC h.nP).trans h.f2,h.nB,h.nT,h.nC,h.nP,af5 h.lt k.size⟩
theorem PX.new(hci:CI w B BT BC BP s a d ts cs ps)(c x y:Int):PX (w.alloc (.cells #[.int .u8 c,.int .i64 x,.int .i64 y] 82)) w.heap.size B BT BC BP c x y:=by
 have h1:=hci.lt;have h2:=hci.mt.lt;have h3:=hci.mc.lt;have h4:=hci.mp.lt;exact⟨World.cell?_alloc_at _ _ _ _ rfl,World.cell?_alloc_at _ _ _ _ rfl,World.cell?_alloc_at _ _ _ _ rfl,World.frozen?_alloc_at _ _ _ _ rfl,World.frozen?_alloc_at _ _ _ _ rfl,World.frozen?_alloc_at _ _ _ _ rfl,by omega,by omega,by omega,by omega,by simp⟩
theorem PX.set0(h:PX w X B BT BC BP c x y)(c':Int):PX (w.setCell ⟨X,0,none⟩ (.int .u8 c')) X B BT BC BP c' x y:=
 ⟨dB _ h.p0,(aY _ _ _ (by omega)).trans h.p1,(aY _ _ _ (by omega)).trans h.p2,by rw[World.frozen?_setCell];exact h.f0,by rw[World.frozen?_setCell];exact h.f1,by rw[World.frozen?_setCell];exact h.f2,
  h.nB,h.nT,h.nC,h.nP,by have:=h.lt;simpa[World.setCell]using this⟩
theorem PX.set1(h:PX w X B BT BC BP c x y)(x':Int):PX (w.setCell ⟨X,1,none⟩ (.int .i64 x')) X B BT BC BP c x' y:=
 ⟨(aY _ _ _ (by omega)).trans h.p0,dB _ h.p1,(aY _ _ _ (by omega)).trans h.p2,by rw[World.frozen?_setCell];exact h.f0,by rw[World.frozen?_setCell];exact h.f1,by rw[World.frozen?_setCell];exact h.f2,
  h.nB,h.nT,h.nC,h.nP,by have:=h.lt;simpa[World.setCell]using this⟩
theorem PX.set2(h:PX w X B BT BC BP c x y)(y':Int):PX (w.setCell ⟨X,2,none⟩ (.int .i64 y')) X B BT BC BP c x y':=
 ⟨(aY _ _ _ (by omega)).trans h.p0,(aY _ _ _ (by omega)).trans h.p1,dB _ h.p2,by rw[World.frozen?_setCell];exact h.f0,by rw[World.frozen?_setCell];exact h.f1,by rw[World.frozen?_setCell];exact h.f2,
  h.nB,h.nT,h.nC,h.nP,by have:=h.lt;simpa[World.setCell]using this⟩
theorem CI.px(h:CI w B BT BC BP s a d ts cs ps)(hx:PX w X B BT BC BP c x y)(i:Nat)(v:Value):CI (w.setCell ⟨X,i,none⟩ v) B BT BC BP s a d ts cs ps:=h.bg hx.nB hx.nT hx.nC hx.nP i v
end
section
variable (w:World) (B BT BC BP:Nat) (s:ByteArray) (a d:Nat) (ts:List Key) (cs:List (Int×Nat)) (ps:List Key) (n:Nat)
theorem qK(hs:s.size<=100)(ha:a<=s.size)(hd:d<=8)(ht:ts.length<=a)(hcs:cs.length<=a)(hn:s.size<a+1+n)(c:Int)(hbd:0<=c/\c<=255)(h:CI w B BT BC BP s a d ts cs ps) :
  Calls prog 48 #[.pointer (some ⟨B,0,none⟩),.int .u8 c] w (aam w B BT BC BP s d cs ps c (aB.arg1 (pk s) (aB.dR (pk s) n) a d ts)):=by
 have hok:=aB.iZ (pk:=pk s) (N:=s.size) (λa h=>bJ h) (rec:=aB.dR (pk s) n) (a:=a) (d:=d) (ts:=ts) (by omega) (λh40=>aB.dH (λa h=>bJ h) _ _ _ _ (by have:=bJ (s:=s) (a:=a) (by omega);omega));cases hR:aB.arg1 (pk s) (aB.dR (pk s) n) a d ts with
 |error Ep=>
  obtain⟨E,p⟩:=Ep;have HR:=aj hR;clear hR hok
  go_enter func48,ntmps48
  go_wp2_with fail
  refine(jQ _ B BT BC BP s a d ts cs ps n hs ha hd ht hn (sH B BT BC BP s cs ps hs n) h).mono ?_;rw[ah HR];rintro e w2 ⟨k2,⟨z,rfl⟩,h2⟩
  go_wp2_with fail
  go_ret2
  exact⟨k2,⟨_,rfl⟩,h2⟩
 |ok q=>
  obtain⟨a1,aF,m⟩:=q;rw[hR]at hok;obtain⟨p1,p2,p3,p4,p5⟩:=hok;have HR:=aj hR;clear hR
  go_enter func48,ntmps48
  go_wp2_with fail
  refine(jQ _ B BT BC BP s a d ts cs ps n hs ha hd ht hn (sH B BT BC BP s cs ps hs n) h).mono ?_;rw[ah HR];rintro e w2 ⟨k2,rfl,h2⟩;have c5:=h2.c5
  go_wp2_with fail
  refine(Pn BC cs c m m _ rfl hbd (by omega) (by omega) h2.mc).mono ?_;rintro e w3 ⟨rfl,hM,hg⟩
  go_wp2_with fail
  go_ret2
  exact⟨k2.trans (Kp.Xy hg),rfl,h2.aau hM hg⟩
end
theorem Kp.fG{w w':World}{B BT BC BP X:Nat}(hX:w.heap.size<=X)(h:Kp B BT BC BP w w')(i:Nat)(v:Value):Kp B BT BC BP w (w'.setCell ⟨X,i,none⟩ v):=h.bg hX i v
section
variable (w:World) (B BT BC BP:Nat) (s:ByteArray) (a d:Nat) (ts:List Key) (cs:List (Int×Nat)) (ps:List Key) (n:Nat)
theorem Du(hs:s.size<=100)(ha:a<=s.size)(hd:d<=8)(ht:ts.length<=a)(hn:s.size<a+n)(h:CI w B BT BC BP s a d ts cs ps) :
  Calls prog 49 #[.pointer (some ⟨B,0,none⟩)] w (lF w B BT BC BP s d (aB.AV (pk s) n a d ts cs ps)):=by
 have hT:=sH B BT BC BP s cs ps hs n;have hok:=aB.dH (pk:=pk s) (N:=s.size) (λa h=>bJ h) n a d ts ha;have hX0:=PX.new h 61 0 0;have hI0:=h.alloc (.cells #[.int .u8 61,.int .i64 0,.int .i64 0] 82);have kp0:Kp B BT BC BP w _:=Kp.alloc B BT BC BP w (.cells #[.int .u8 61,.int .i64 0,.int .i64 0] 82);cases hR:aB.dR (pk s) n a d ts with
 |error Ep=>
  obtain⟨E,p⟩:=Ep;have hr:aB.AV (pk s) n a d ts cs ps=.error (E,p):=by unfold aB.AV;rw[hR]
  rw[hr];have HR:=aj hR;clear hr hR hok
  go_enter func49,ntmps49
  go_wp2_with fail
  refine(hT _ a d ts ha hd ht hn hI0).mono ?_;rw[ah HR];rintro e w2 ⟨k2,⟨z,rfl⟩,h2⟩;have hX:=hX0.kp k2;have x0:=hX.p0;have x1:=hX.p1;have x2:=hX.p2;have y0:=hX.f0;have y1:=hX.f1;have y2:=hX.f2
  go_wp2_with fail
  refine bodyPost_ret (v:=.tuple #[.agg #[.int .u8 61,.int .i64 z,.int .i64 0],.bool false]) (by simp[results,results49,go_sem,x0,x1,x2]) rfl ⟨?_,⟨_,_,_,rfl⟩,?_⟩
  ·repeat refine Kp.fG (ad5 _) ?_ _ _
   exact kp0.trans k2
  ·repeat refine Bad.bg ?_ hX.nB _ _
   exact h2
 |ok q=>
  obtain⟨a1,aF,m⟩:=q;rw[hR]at hok;obtain⟨p1,p2,p3,p4,p5⟩:=hok;by_cases h61:pk s a1=61
  ·have hlt1:a1<s.size:=bJ (by omega);cases hR2:aB.dR (pk s) n (a1+1) d aF with
   |error Ep=>
    obtain⟨E,p⟩:=Ep;have hr:aB.AV (pk s) n a d ts cs ps=.error (E,p):=(by unfold aB.AV;rw[hR];simp only[h61,al0,hR2]);rw[hr];have HR:=aj hR;have HR2:=aj hR2;clear hr hR hR2
    go_enter func49,ntmps49
    go_wp2_with fail
    refine(hT _ a d ts ha hd ht hn hI0).mono ?_;rw[ah HR];rintro e w2 ⟨k2,rfl,h2⟩;have hX:=hX0.kp k2;have x0:=hX.p0;have x1:=hX.p1;have x2:=hX.p2;have y0:=hX.f0;have y1:=hX.f1;have y2:=hX.f2
    go_wp2_with fail
    refine(jZ _ B BT BC BP s a1 d aF cs ps 61 hs hlt1 h61 (h2.px hX 1 (.int .i64 m))).mono ?_;rintro e w3 ⟨rfl,h3,k3⟩;have hX3:=(hX.set1 m).kp k3;clear x0 x1 x2 y0 y1 y2
    go_wp2_with fail
    refine(hT w3 (a1+1) d aF (by omega) hd (by omega) (by omega) h3).mono ?_;rw[ah HR2];rintro e w4 ⟨k4,⟨z,rfl⟩,h4⟩;have hX4:=hX3.kp k4;have x0:=hX4.p0;have x1:=hX4.p1;have x2:=hX4.p2;have y0:=hX4.f0;have y1:=hX4.f1;have y2:=hX4.f2
    go_wp2_with fail
    refine bodyPost_ret (v:=.tuple #[.agg #[.int .u8 61,.int .i64 m,.int .i64 z],.bool false]) (by simp[results,results49,go_sem,x0,x1,x2]) rfl ⟨?_,⟨_,_,_,rfl⟩,?_⟩
    ·repeat refine Kp.fG (ad5 _) ?_ _ _
     exact((Kp.fG (ad5 _) (kp0.trans k2) 1 (.int .i64 m)).trans k3).trans k4
    ·repeat refine Bad.bg ?_ hX4.nB _ _
     exact h4
   |ok q=>
    obtain⟨a2,ts2,m2⟩:=q;have hr:aB.AV (pk s) n a d ts cs ps=.ok (a2,ts2,cs,ps,(61,m,m2)):=(by unfold aB.AV;rw[hR];simp only[h61,al0,hR2]);rw[hr];have HR:=aj hR;have HR2:=aj hR2;clear hr hR hR2
    go_enter func49,ntmps49
    go_wp2_with fail
    refine(hT _ a d ts ha hd ht hn hI0).mono ?_;rw[ah HR];rintro e w2 ⟨k2,rfl,h2⟩;have hX:=hX0.kp k2;have x0:=hX.p0;have x1:=hX.p1;have x2:=hX.p2;have y0:=hX.f0;have y1:=hX.f1;have y2:=hX.f2
    go_wp2_with fail
    refine(jZ _ B BT BC BP s a1 d aF cs ps 61 hs hlt1 h61 (h2.px hX 1 (.int .i64 m))).mono ?_;rintro e w3 ⟨rfl,h3,k3⟩;have hX3:=(hX.set1 m).kp k3;clear x0 x1 x2 y0 y1 y2
    go_wp2_with fail
    refine(hT w3 (a1+1) d aF (by omega) hd (by omega) (by omega) h3).mono ?_;rw[ah HR2];rintro e w4 ⟨k4,rfl,h4⟩;have hX4:=hX3.kp k4;have x0:=hX4.p0;have x1:=hX4.p1;have x2:=hX4.p2;have y0:=hX4.f0;have y1:=hX4.f1;have y2:=hX4.f2
    go_wp2_with fail
    refine bodyPost_ret (v:=.tuple #[.agg #[.int .u8 61,.int .i64 m,.int .i64 m2],.bool true]) (by simp[results,results49,go_sem,x0,x1,x2]) rfl ⟨?_,rfl,?_⟩
    ·repeat refine Kp.fG (ad5 _) ?_ _ _
     exact((Kp.fG (ad5 _) (kp0.trans k2) 1 (.int .i64 m)).trans k3).trans k4
    ·repeat refine CI.bg ?_ hX4.nB hX4.nT hX4.nC hX4.nP _ _
     exact h4
  ·have hr:aB.AV (pk s) n a d ts cs ps=.error (2,a1):=(by unfold aB.AV;rw[hR];simp only[h61,an6]);rw[hr];have HR:=aj hR;clear hr hR
   go_enter func49,ntmps49
   go_wp2_with fail
   refine(hT _ a d ts ha hd ht hn hI0).mono ?_;rw[ah HR];rintro e w2 ⟨k2,rfl,h2⟩;have hX:=hX0.kp k2;have x0:=hX.p0;have x1:=hX.p1;have x2:=hX.p2;have y0:=hX.f0;have y1:=hX.f1;have y2:=hX.f2
   go_wp2_with fail
   refine(xu _ B BT BC BP s a1 d aF cs ps 61 hs p2 h61 (h2.px hX 1 (.int .i64 m))).mono ?_;rintro e w3 ⟨rfl,h3,k3⟩;have hX3:=(hX.set1 m).kp k3;clear x0 x1 x2 y0 y1 y2;have x0:=hX3.p0;have x1:=hX3.p1;have x2:=hX3.p2;have y0:=hX3.f0;have y1:=hX3.f1;have y2:=hX3.f2
   go_wp2_with fail
   refine bodyPost_ret (v:=.tuple #[.agg #[.int .u8 61,.int .i64 m,.int .i64 0],.bool false]) (by simp[results,results49,go_sem,x0,x1,x2]) rfl ⟨?_,⟨_,_,_,rfl⟩,?_⟩
   ·repeat refine Kp.fG (ad5 _) ?_ _ _
    exact(Kp.fG (ad5 _) (kp0.trans k2) 1 (.int .i64 m)).trans k3
   ·repeat refine Bad.bg ?_ hX3.nB _ _
    exact h3
end
end Go.Proofs.YthcppbmkacbbiabGreat
