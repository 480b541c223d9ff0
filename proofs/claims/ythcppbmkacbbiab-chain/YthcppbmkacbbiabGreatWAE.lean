import Derived.Test.YthcppbmkacbbiabGreatWAD
import Derived.Deep.RegionWith
set_option linter.unusedSimpArgs false
set_option maxHeartbeats 1000000
namespace Go.Proofs.YthcppbmkacbbiabGreat
open Go.Proofs.Tryz
open Go.RowKit Go.Maps Go.WideMaps
open aB (Key put RT wZ RF)
def PostT(w:World)(B BT BC BP:Nat)(s:ByteArray)(d:Nat)(cs:List (Int×Nat))(ps:List Key)(r:RT)(e:Ending)(w':World):Prop:=
 Kp B BT BC BP w w'/\match r with
 |.ok (a1,aF,m)=>e=.returned (.tuple #[.int .i64 m,.bool true])/\CI w' B BT BC BP s a1 d aF cs ps
 |.error (E,p)=>(∃z:Int,e=.returned (.tuple #[.int .i64 z,.bool false]))/\Bad w' B p E
def XP(w:World)(B BT BC BP:Nat)(s:ByteArray)(d:Nat)(cs:List (Int×Nat))(ps:List Key)(r:wZ)(e:Ending)(w':World):Prop:=
 Kp B BT BC BP w w'/\match r with
 |.ok (a1,aF,m,m2)=>e=.returned (.tuple #[.int .i64 m,.int .i64 m2,.bool true])/\CI w' B BT BC BP s a1 d aF cs ps
 |.error (E,p)=>(∃z z2:Int,e=.returned (.tuple #[.int .i64 z,.int .i64 z2,.bool false]))/\Bad w' B p E
def uI(B BT BC BP:Nat)(s:ByteArray)(cs:List (Int×Nat))(ps:List Key)(n:Nat):Prop:=
 ∀(w:World) (a d:Nat) (ts:List Key),a<=s.size->d<=8->ts.length<=a->s.size<a+n->CI w B BT BC BP s a d ts cs ps->
  Calls prog 96 #[.pointer (some ⟨B,0,none⟩)] w (PostT w B BT BC BP s d cs ps (aB.dR (pk s) n a d ts))
section
variable (w:World) (B BT BC BP:Nat) (s:ByteArray) (a d:Nat) (ts:List Key) (cs:List (Int×Nat)) (ps:List Key) (n:Nat)
theorem jQ(hs:s.size<=100)(ha:a<=s.size)(hd:d<=8)(ht:ts.length<=a)(hn:s.size<a+1+n)(hT:uI B BT BC BP s cs ps n)(h:CI w B BT BC BP s a d ts cs ps) :
  Calls prog 94 #[.pointer (some ⟨B,0,none⟩)] w (PostT w B BT BC BP s d cs ps (aB.arg1 (pk s) (aB.dR (pk s) n) a d ts)):=by
 by_cases h40:pk s a=40
 ·have hlt:a<s.size:=bJ (by omega);by_cases h8:d=8
  ·have hr:aB.arg1 (pk s) (aB.dR (pk s) n) a d ts=.error (3,a):=(by unfold aB.arg1;rw[af6 h40,af6 h8]);rw[hr]
   go_enter func94,ntmps94
   go_wp2_with fail
   refine(iY w B BT BC BP s a d ts cs ps hs ha h8 h40 h).mono ?_;rintro e w1 ⟨rfl,h1,k1⟩
   go_wp2_with fail
   go_ret2
   exact⟨k1,⟨_,rfl⟩,h1⟩
  ·have hok:=aB.dH (pk:=pk s) (N:=s.size) (λa h=>bJ h) n (a+1) (d+1) ts (by omega);cases hR:aB.dR (pk s) n (a+1) (d+1) ts with
   |error Ep=>
    obtain⟨E,p⟩:=Ep;have hr:aB.arg1 (pk s) (aB.dR (pk s) n) a d ts=.error (E,p):=(by unfold aB.arg1;rw[af6 h40,af2 h8,hR]);rw[hr];have HR:=aj hR;clear hr hR hok
    go_enter func94,ntmps94
    go_wp2_with fail
    refine(dF w B BT BC BP s a d ts cs ps hs hlt (by omega) h40 h).mono ?_;rintro e w1 ⟨rfl,h1,k1⟩
    go_wp2_with fail
    refine(hT w1 (a+1) (d+1) ts (by omega) (by omega) (by omega) (by omega) h1).mono ?_;rw[ah HR];rintro e w2 ⟨k2,⟨z,rfl⟩,h2⟩
    go_wp2_with fail
    go_ret2
    exact⟨k1.trans k2,⟨_,rfl⟩,h2⟩
   |ok q=>
    obtain⟨a1,aF,m⟩:=q;rw[hR]at hok;obtain⟨p1,p2,p3,p4,p5⟩:=hok;by_cases h41:pk s a1=41
    ·have hlt1:a1<s.size:=bJ (by omega);have hr:aB.arg1 (pk s) (aB.dR (pk s) n) a d ts=.ok (a1+1,aF,m):=(by unfold aB.arg1;rw[af6 h40,af2 h8,hR];simp only[h41,al0]);rw[hr];have HR:=aj hR;clear hr hR
     go_enter func94,ntmps94
     go_wp2_with fail
     refine(dF w B BT BC BP s a d ts cs ps hs hlt (by omega) h40 h).mono ?_;rintro e w1 ⟨rfl,h1,k1⟩
     go_wp2_with fail
     refine(hT w1 (a+1) (d+1) ts (by omega) (by omega) (by omega) (by omega) h1).mono ?_;rw[ah HR];rintro e w2 ⟨k2,rfl,h2⟩
     go_wp2_with fail
     refine(ku w2 B BT BC BP s a1 d aF cs ps hs hlt1 hd h41 h2).mono ?_;rintro e w3 ⟨rfl,h3,k3⟩
     go_wp2_with fail
     go_ret2
     exact⟨(k1.trans k2).trans k3,rfl,h3⟩
    ·have hr:aB.arg1 (pk s) (aB.dR (pk s) n) a d ts=.error (2,a1):=(by unfold aB.arg1;rw[af6 h40,af2 h8,hR];simp only[h41,an6]);rw[hr];have HR:=aj hR;clear hr hR
     go_enter func94,ntmps94
     go_wp2_with fail
     refine(dF w B BT BC BP s a d ts cs ps hs hlt (by omega) h40 h).mono ?_;rintro e w1 ⟨rfl,h1,k1⟩
     go_wp2_with fail
     refine(hT w1 (a+1) (d+1) ts (by omega) (by omega) (by omega) (by omega) h1).mono ?_;rw[ah HR];rintro e w2 ⟨k2,rfl,h2⟩
     go_wp2_with fail
     refine(mY w2 B BT BC BP s a1 d aF cs ps hs p2 hd h41 h2).mono ?_;rintro e w3 ⟨rfl,h3,k3⟩
     go_wp2_with fail
     go_ret2
     exact⟨(k1.trans k2).trans k3,⟨_,rfl⟩,h3⟩
 ·have hr:aB.arg1 (pk s) (aB.dR (pk s) n) a d ts=.error (2,a):=by unfold aB.arg1;rw[af2 h40]
  rw[hr]
  go_enter func94,ntmps94
  go_wp2_with fail
  refine(lX w B BT BC BP s a d ts cs ps hs ha hd h40 h).mono ?_;rintro e w1 ⟨rfl,h1,k1⟩
  go_wp2_with fail
  go_ret2
  exact⟨k1,⟨_,rfl⟩,h1⟩
theorem qZ(hs:s.size<=100)(ha:a<=s.size)(hd:d<=8)(ht:ts.length<=a)(hn:s.size<a+1+n)(hT:uI B BT BC BP s cs ps n)(h:CI w B BT BC BP s a d ts cs ps) :
  Calls prog 140 #[.pointer (some ⟨B,0,none⟩)] w (XP w B BT BC BP s d cs ps (aB.arg2 (pk s) (aB.dR (pk s) n) a d ts)):=by
 by_cases h40:pk s a=40
 ·have hlt:a<s.size:=bJ (by omega);by_cases h8:d=8
  ·have hr:aB.arg2 (pk s) (aB.dR (pk s) n) a d ts=.error (3,a):=(by unfold aB.arg2;rw[af6 h40,af6 h8]);rw[hr]
   go_enter func140,ntmps140
   go_wp2_with fail
   refine(iY w B BT BC BP s a d ts cs ps hs ha h8 h40 h).mono ?_;rintro e w1 ⟨rfl,h1,k1⟩
   go_wp2_with fail
   go_ret3
   exact⟨k1,⟨_,_,rfl⟩,h1⟩
  ·have hok:=aB.dH (pk:=pk s) (N:=s.size) (λa h=>bJ h) n (a+1) (d+1) ts (by omega);cases hR:aB.dR (pk s) n (a+1) (d+1) ts with
   |error Ep=>
    obtain⟨E,p⟩:=Ep;have hr:aB.arg2 (pk s) (aB.dR (pk s) n) a d ts=.error (E,p):=(by unfold aB.arg2;rw[af6 h40,af2 h8,hR]);rw[hr];have HR:=aj hR;clear hr hR hok
    go_enter func140,ntmps140
    go_wp2_with fail
    refine(dF w B BT BC BP s a d ts cs ps hs hlt (by omega) h40 h).mono ?_;rintro e w1 ⟨rfl,h1,k1⟩
    go_wp2_with fail
    refine(hT w1 (a+1) (d+1) ts (by omega) (by omega) (by omega) (by omega) h1).mono ?_;rw[ah HR];rintro e w2 ⟨k2,⟨z,rfl⟩,h2⟩
    go_wp2_with fail
    go_ret3
    exact⟨k1.trans k2,⟨_,_,rfl⟩,h2⟩
   |ok q=>
    obtain⟨a1,aF,m⟩:=q;rw[hR]at hok;obtain⟨p1,p2,p3,p4,p5⟩:=hok;by_cases h44:pk s a1=44
    ·have hlt1:a1<s.size:=bJ (by omega);have hok2:=aB.dH (pk:=pk s) (N:=s.size) (λa h=>bJ h) n (a1+1) (d+1) aF (by omega);cases hR2:aB.dR (pk s) n (a1+1) (d+1) aF with
     |error Ep=>
      obtain⟨E,p⟩:=Ep;have hr:aB.arg2 (pk s) (aB.dR (pk s) n) a d ts=.error (E,p):=(by unfold aB.arg2;rw[af6 h40,af2 h8,hR];simp only[h44,al0,hR2]);rw[hr];have HR:=aj hR;have HR2:=aj hR2;clear hr hR hR2 hok2
      go_enter func140,ntmps140
      go_wp2_with fail
      refine(dF w B BT BC BP s a d ts cs ps hs hlt (by omega) h40 h).mono ?_;rintro e w1 ⟨rfl,h1,k1⟩
      go_wp2_with fail
      refine(hT w1 (a+1) (d+1) ts (by omega) (by omega) (by omega) (by omega) h1).mono ?_;rw[ah HR];rintro e w2 ⟨k2,rfl,h2⟩
      go_wp2_with fail
      refine(jZ w2 B BT BC BP s a1 (d+1) aF cs ps 44 hs hlt1 h44 h2).mono ?_;rintro e w3 ⟨rfl,h3,k3⟩
      go_wp2_with fail
      refine(hT w3 (a1+1) (d+1) aF (by omega) (by omega) (by omega) (by omega) h3).mono ?_;rw[ah HR2];rintro e w4 ⟨k4,⟨z,rfl⟩,h4⟩
      go_wp2_with fail
      go_ret3
      exact⟨((k1.trans k2).trans k3).trans k4,⟨_,_,rfl⟩,h4⟩
     |ok q=>
      obtain⟨a2,ts2,m2⟩:=q;rw[hR2]at hok2;obtain⟨q1,q2,q3,q4,q5⟩:=hok2;by_cases h41:pk s a2=41
      ·have hlt2:a2<s.size:=bJ (by omega);have hr:aB.arg2 (pk s) (aB.dR (pk s) n) a d ts=.ok (a2+1,ts2,m,m2):=(by unfold aB.arg2;rw[af6 h40,af2 h8,hR];simp only[h44,al0,hR2,h41]);rw[hr];have HR:=aj hR;have HR2:=aj hR2;clear hr hR hR2
       go_enter func140,ntmps140
       go_wp2_with fail
       refine(dF w B BT BC BP s a d ts cs ps hs hlt (by omega) h40 h).mono ?_;rintro e w1 ⟨rfl,h1,k1⟩
       go_wp2_with fail
       refine(hT w1 (a+1) (d+1) ts (by omega) (by omega) (by omega) (by omega) h1).mono ?_;rw[ah HR];rintro e w2 ⟨k2,rfl,h2⟩
       go_wp2_with fail
       refine(jZ w2 B BT BC BP s a1 (d+1) aF cs ps 44 hs hlt1 h44 h2).mono ?_;rintro e w3 ⟨rfl,h3,k3⟩
       go_wp2_with fail
       refine(hT w3 (a1+1) (d+1) aF (by omega) (by omega) (by omega) (by omega) h3).mono ?_;rw[ah HR2];rintro e w4 ⟨k4,rfl,h4⟩
       go_wp2_with fail
       refine(ku w4 B BT BC BP s a2 d ts2 cs ps hs hlt2 hd h41 h4).mono ?_;rintro e w5 ⟨rfl,h5,k5⟩
       go_wp2_with fail
       go_ret3
       exact⟨(((k1.trans k2).trans k3).trans k4).trans k5,rfl,h5⟩
      ·have hr:aB.arg2 (pk s) (aB.dR (pk s) n) a d ts=.error (2,a2):=(by unfold aB.arg2;rw[af6 h40,af2 h8,hR];simp only[h44,al0,hR2,h41,an6]);rw[hr];have HR:=aj hR;have HR2:=aj hR2;clear hr hR hR2
       go_enter func140,ntmps140
       go_wp2_with fail
       refine(dF w B BT BC BP s a d ts cs ps hs hlt (by omega) h40 h).mono ?_;rintro e w1 ⟨rfl,h1,k1⟩
       go_wp2_with fail
       refine(hT w1 (a+1) (d+1) ts (by omega) (by omega) (by omega) (by omega) h1).mono ?_;rw[ah HR];rintro e w2 ⟨k2,rfl,h2⟩
       go_wp2_with fail
       refine(jZ w2 B BT BC BP s a1 (d+1) aF cs ps 44 hs hlt1 h44 h2).mono ?_;rintro e w3 ⟨rfl,h3,k3⟩
       go_wp2_with fail
       refine(hT w3 (a1+1) (d+1) aF (by omega) (by omega) (by omega) (by omega) h3).mono ?_;rw[ah HR2];rintro e w4 ⟨k4,rfl,h4⟩
       go_wp2_with fail
       refine(mY w4 B BT BC BP s a2 d ts2 cs ps hs q2 hd h41 h4).mono ?_;rintro e w5 ⟨rfl,h5,k5⟩
       go_wp2_with fail
       go_ret3
       exact⟨(((k1.trans k2).trans k3).trans k4).trans k5,⟨_,_,rfl⟩,h5⟩
    ·have hr:aB.arg2 (pk s) (aB.dR (pk s) n) a d ts=.error (2,a1):=(by unfold aB.arg2;rw[af6 h40,af2 h8,hR];simp only[h44,an6]);rw[hr];have HR:=aj hR;clear hr hR
     go_enter func140,ntmps140
     go_wp2_with fail
     refine(dF w B BT BC BP s a d ts cs ps hs hlt (by omega) h40 h).mono ?_;rintro e w1 ⟨rfl,h1,k1⟩
     go_wp2_with fail
     refine(hT w1 (a+1) (d+1) ts (by omega) (by omega) (by omega) (by omega) h1).mono ?_;rw[ah HR];rintro e w2 ⟨k2,rfl,h2⟩
     go_wp2_with fail
     refine(xu w2 B BT BC BP s a1 (d+1) aF cs ps 44 hs p2 h44 h2).mono ?_;rintro e w3 ⟨rfl,h3,k3⟩
     go_wp2_with fail
     go_ret3
     exact⟨(k1.trans k2).trans k3,⟨_,_,rfl⟩,h3⟩
 ·have hr:aB.arg2 (pk s) (aB.dR (pk s) n) a d ts=.error (2,a):=by unfold aB.arg2;rw[af2 h40]
  rw[hr]
  go_enter func140,ntmps140
  go_wp2_with fail
  refine(lX w B BT BC BP s a d ts cs ps hs ha hd h40 h).mono ?_;rintro e w1 ⟨rfl,h1,k1⟩
  go_wp2_with fail
  go_ret3
  exact⟨k1,⟨_,_,rfl⟩,h1⟩
end
theorem kJ(BT:Nat)(ts:List Key)(c xi yi:Int)(x y:Nat)(w:World)(hx:xi=x)(hy:yi=y)(h1:0<=c/\c<=255)(h2:x<=1000)(h3:y<=1000)(hl:ts.length<=1000)(hM:aH w 76 BT aS ts) :
  Calls prog 141 #[.map (some BT),.agg #[.int .u8 c,.int .i64 xi,.int .i64 yi]] w λe w'=>
   e=.returned (.int .i64 (ts.idxOf (c,x,y)))/\aH w' 76 BT aS (put ts (c,x,y))/\w.grownBy w' (some BT):=by
 subst hx;subst hy;exact Pj BT ts c x y w h1 h2 h3 hl hM
theorem CI.bg{w:World}{B BT BC BP:Nat}{s:ByteArray}{a d:Nat}{ts:List Key}{cs:List (Int×Nat)}{ps:List Key}(h:CI w B BT BC BP s a d ts cs ps){X:Nat}(h1:X≠B)(h2:X≠BT)(h3:X≠BC)(h4:X≠BP)(i:Nat)(v:Value) :
  CI (w.setCell ⟨X,i,none⟩ v) B BT BC BP s a d ts cs ps:=by
 have hb:∀j,(w.setCell ⟨X,i,none⟩ v).cell? ⟨B,j,none⟩=w.cell? ⟨B,j,none⟩:=λj=>World.cell?_of_block (Below.heap_setCell _ _ _ _ (ap1 h1));have hf:∀j,(w.setCell ⟨X,i,none⟩ v).frozen? ⟨B,j,none⟩=w.frozen? ⟨B,j,none⟩:=λj=>World.frozen?_of_block (Below.heap_setCell _ _ _ _ (ap1 h1));exact⟨(hb _).trans h.c0,(hb _).trans h.c1,(hb _).trans h.c2,(hb _).trans h.c3,(hb _).trans h.c4,(hb _).trans h.c5,(hb _).trans h.c6,(hf _).trans h.f1,(hf _).trans h.f2,(hf _).trans h.f3,
  h.mt.kept (Below.heap_setCell _ _ _ _ (ap1 h2)),h.mc.kept (Below.heap_setCell _ _ _ _ (ap1 h3)),h.mp.kept (Below.heap_setCell _ _ _ _ (ap1 h4)),h.nT,h.nC,h.nn,h.nP,h.Py,h.Pz⟩
theorem Bad.bg{w:World}{B p:Nat}{E:Int}(h:Bad w B p E){X:Nat}(h1:X≠B)(i:Nat)(v:Value):Bad (w.setCell ⟨X,i,none⟩ v) B p E:=
 ⟨(World.cell?_of_block (Below.heap_setCell _ _ _ _ (ap1 h1))).trans h.c1,(World.cell?_of_block (Below.heap_setCell _ _ _ _ (ap1 h1))).trans h.c3⟩
theorem dK{w1 w2:World}{B BT BC BP T:Nat}{v:Value}{xs:Array Value}(k:Kp B BT BC BP ((w1.setCell ⟨B,1,none⟩ v).alloc (.cells xs T)) w2)(hB:B<w1.heap.size)(hT:BT<w1.heap.size)(hC:BC<w1.heap.size)(hP:BP<w1.heap.size)(i:Nat) :
  w2.cell? ⟨w1.heap.size,i,none⟩=xs[i]?:=by
 have hsz1:w1.heap.size=(w1.setCell ⟨B,1,none⟩ v).heap.size:=by simp[World.setCell]
 rw[k.cell (by simp[World.setCell]) (by omega) (by omega) (by omega) (by omega)];exact World.cell?_alloc_at _ _ _ _ hsz1
theorem dQ{w1 w2:World}{B BT BC BP T:Nat}{v:Value}{xs:Array Value}(k:Kp B BT BC BP ((w1.setCell ⟨B,1,none⟩ v).alloc (.cells xs T)) w2)(hB:B<w1.heap.size)(hT:BT<w1.heap.size)(hC:BC<w1.heap.size)(hP:BP<w1.heap.size)(i:Nat) :
  w2.frozen? ⟨w1.heap.size,i,none⟩=false:=by
 have hsz1:w1.heap.size=(w1.setCell ⟨B,1,none⟩ v).heap.size:=by simp[World.setCell]
 rw[k.frozen (by simp[World.setCell]) (by omega) (by omega) (by omega) (by omega)];exact World.frozen?_alloc_at _ _ _ _ hsz1
section
variable (w:World) (B BT BC BP:Nat) (s:ByteArray) (a d:Nat) (ts:List Key) (cs:List (Int×Nat)) (ps:List Key) (n:Nat)
theorem Tq(hs:s.size<=100)(ha:a<s.size)(ht:ts.length<=a)(hc:pk s a=97)(h:CI w B BT BC BP s a d ts cs ps) :
  Calls prog 96 #[.pointer (some ⟨B,0,none⟩)] w (PostT w B BT BC BP s d cs ps (.ok (a+1,put ts (97,0,0),ts.idxOf ((97,0,0):Key)))):=by
 have HC:=aj hc;clear hc
 go_enter func96,ntmps96
 go_wp2_with fail
 refine(aW w B BT BC BP s a d ts cs ps hs (by omega) h).mono ?_;rw[ah HC];rintro e w1 ⟨rfl,h1,k1⟩;have c1:=h1.c1;have f1:=h1.f1;have c4:=h1.c4;have hlt:=h1.lt;have HI:=aj ((h1.set1 (v:=(a:Int)+1) (a':=a+1) (by omega)).alloc (.cells #[.int .u8 97,.int .i64 0,.int .i64 0] 76));have HK:=aj ((k1.trans (Kp.setCell B BT BC BP w1 1 (.int .i64 ((a:Int)+1)))).trans (Kp.alloc B BT BC BP _ (.cells #[.int .u8 97,.int .i64 0,.int .i64 0] 76)))
 go_wp2_with fail
 go_region_with (go_at_call 141;refine(kJ BT ts 97 0 0 0 0 _ rfl rfl (by omega) (by omega) (by omega) (by omega) (by exact(ah HI).mt.kept rfl)).mono ?_;rintro e w3 ⟨rfl,hm,hg⟩)
 all_goals
  go_wp2_with fail
  go_ret2
  exact⟨(ah HK).trans ((Kp.drewN _ _ _ _ _ 1).trans (Kp.rQ hg)),rfl,((ah HI).drewN 1).Hz hm hg⟩
theorem Tn(hs:s.size<=100)(ha:a<s.size)(ht:ts.length<=a)(hc:pk s a=98)(h:CI w B BT BC BP s a d ts cs ps) :
  Calls prog 96 #[.pointer (some ⟨B,0,none⟩)] w (PostT w B BT BC BP s d cs ps (.ok (a+1,put ts (98,0,0),ts.idxOf ((98,0,0):Key)))):=by
 have HC:=aj hc;clear hc
 go_enter func96,ntmps96
 go_wp2_with fail
 refine(aW w B BT BC BP s a d ts cs ps hs (by omega) h).mono ?_;rw[ah HC];rintro e w1 ⟨rfl,h1,k1⟩;have c1:=h1.c1;have f1:=h1.f1;have c4:=h1.c4;have hlt:=h1.lt;have HI:=aj ((h1.set1 (v:=(a:Int)+1) (a':=a+1) (by omega)).alloc (.cells #[.int .u8 98,.int .i64 0,.int .i64 0] 76));have HK:=aj ((k1.trans (Kp.setCell B BT BC BP w1 1 (.int .i64 ((a:Int)+1)))).trans (Kp.alloc B BT BC BP _ (.cells #[.int .u8 98,.int .i64 0,.int .i64 0] 76)))
 go_wp2_with fail
 go_region_with (go_at_call 141;refine(kJ BT ts 98 0 0 0 0 _ rfl rfl (by omega) (by omega) (by omega) (by omega) (by exact(ah HI).mt.kept rfl)).mono ?_;rintro e w3 ⟨rfl,hm,hg⟩)
 all_goals
  go_wp2_with fail
  go_ret2
  exact⟨(ah HK).trans ((Kp.drewN _ _ _ _ _ 1).trans (Kp.rQ hg)),rfl,((ah HI).drewN 1).Hz hm hg⟩
theorem Tj(hs:s.size<=100)(ha:a<s.size)(ht:ts.length<=a)(hc:pk s a=99)(h:CI w B BT BC BP s a d ts cs ps) :
  Calls prog 96 #[.pointer (some ⟨B,0,none⟩)] w (PostT w B BT BC BP s d cs ps (.ok (a+1,put ts (99,0,0),ts.idxOf ((99,0,0):Key)))):=by
 have HC:=aj hc;clear hc
 go_enter func96,ntmps96
 go_wp2_with fail
 refine(aW w B BT BC BP s a d ts cs ps hs (by omega) h).mono ?_;rw[ah HC];rintro e w1 ⟨rfl,h1,k1⟩;have c1:=h1.c1;have f1:=h1.f1;have c4:=h1.c4;have hlt:=h1.lt;have HI:=aj ((h1.set1 (v:=(a:Int)+1) (a':=a+1) (by omega)).alloc (.cells #[.int .u8 99,.int .i64 0,.int .i64 0] 76));have HK:=aj ((k1.trans (Kp.setCell B BT BC BP w1 1 (.int .i64 ((a:Int)+1)))).trans (Kp.alloc B BT BC BP _ (.cells #[.int .u8 99,.int .i64 0,.int .i64 0] 76)))
 go_wp2_with fail
 go_region_with (go_at_call 141;refine(kJ BT ts 99 0 0 0 0 _ rfl rfl (by omega) (by omega) (by omega) (by omega) (by exact(ah HI).mt.kept rfl)).mono ?_;rintro e w3 ⟨rfl,hm,hg⟩)
 all_goals
  go_wp2_with fail
  go_ret2
  exact⟨(ah HK).trans ((Kp.drewN _ _ _ _ _ 1).trans (Kp.rQ hg)),rfl,((ah HI).drewN 1).Hz hm hg⟩
end
section
variable (w:World) (B BT BC BP:Nat) (s:ByteArray) (a d:Nat) (ts:List Key) (cs:List (Int×Nat)) (ps:List Key) (n:Nat)
theorem Oq(hs:s.size<=100)(ha:a<s.size)(ht:ts.length<=a)(hc:pk s a=100)(h:CI w B BT BC BP s a d ts cs ps) :
  Calls prog 96 #[.pointer (some ⟨B,0,none⟩)] w (PostT w B BT BC BP s d cs ps (.ok (a+1,put ts (100,0,0),ts.idxOf ((100,0,0):Key)))):=by
 have HC:=aj hc;clear hc
 go_enter func96,ntmps96
 go_wp2_with fail
 refine(aW w B BT BC BP s a d ts cs ps hs (by omega) h).mono ?_;rw[ah HC];rintro e w1 ⟨rfl,h1,k1⟩;have c1:=h1.c1;have f1:=h1.f1;have c4:=h1.c4;have hlt:=h1.lt;have HI:=aj ((h1.set1 (v:=(a:Int)+1) (a':=a+1) (by omega)).alloc (.cells #[.int .u8 100,.int .i64 0,.int .i64 0] 76));have HK:=aj ((k1.trans (Kp.setCell B BT BC BP w1 1 (.int .i64 ((a:Int)+1)))).trans (Kp.alloc B BT BC BP _ (.cells #[.int .u8 100,.int .i64 0,.int .i64 0] 76)))
 go_wp2_with fail
 go_region_with (go_at_call 141;refine(kJ BT ts 100 0 0 0 0 _ rfl rfl (by omega) (by omega) (by omega) (by omega) (by exact(ah HI).mt.kept rfl)).mono ?_;rintro e w3 ⟨rfl,hm,hg⟩)
 all_goals
  go_wp2_with fail
  go_ret2
  exact⟨(ah HK).trans ((Kp.drewN _ _ _ _ _ 1).trans (Kp.rQ hg)),rfl,((ah HI).drewN 1).Hz hm hg⟩
theorem Oo(hs:s.size<=100)(ha:a<s.size)(ht:ts.length<=a)(hc:pk s a=101)(h:CI w B BT BC BP s a d ts cs ps) :
  Calls prog 96 #[.pointer (some ⟨B,0,none⟩)] w (PostT w B BT BC BP s d cs ps (.ok (a+1,put ts (101,0,0),ts.idxOf ((101,0,0):Key)))):=by
 have HC:=aj hc;clear hc
 go_enter func96,ntmps96
 go_wp2_with fail
 refine(aW w B BT BC BP s a d ts cs ps hs (by omega) h).mono ?_;rw[ah HC];rintro e w1 ⟨rfl,h1,k1⟩;have c1:=h1.c1;have f1:=h1.f1;have c4:=h1.c4;have hlt:=h1.lt;have HI:=aj ((h1.set1 (v:=(a:Int)+1) (a':=a+1) (by omega)).alloc (.cells #[.int .u8 101,.int .i64 0,.int .i64 0] 76));have HK:=aj ((k1.trans (Kp.setCell B BT BC BP w1 1 (.int .i64 ((a:Int)+1)))).trans (Kp.alloc B BT BC BP _ (.cells #[.int .u8 101,.int .i64 0,.int .i64 0] 76)))
 go_wp2_with fail
 go_region_with (go_at_call 141;refine(kJ BT ts 101 0 0 0 0 _ rfl rfl (by omega) (by omega) (by omega) (by omega) (by exact(ah HI).mt.kept rfl)).mono ?_;rintro e w3 ⟨rfl,hm,hg⟩)
 all_goals
  go_wp2_with fail
  go_ret2
  exact⟨(ah HK).trans ((Kp.drewN _ _ _ _ _ 1).trans (Kp.rQ hg)),rfl,((ah HI).drewN 1).Hz hm hg⟩
end
end Go.Proofs.YthcppbmkacbbiabGreat
