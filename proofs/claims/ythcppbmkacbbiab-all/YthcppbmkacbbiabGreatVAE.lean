import Derived.Test.YthcppbmkacbbiabGreatVAA
import Derived.BigQuiet
import Derived.Deep.QuietTactic
set_option linter.unusedSimpArgs false
set_option maxHeartbeats 1000000
namespace Go.Proofs.YthcppbmkacbbiabGreat
open Go.Proofs.Tryz
section
open Go.RowKit Go.Maps Go.WideMaps
open au (Key put)
def pk(s:ByteArray)(a:Nat):Int:=if h:a<s.size then(s[a].toNat:Int)else 0
theorem dW{s:ByteArray}{a:Nat}(h:pk s a≠0):a<s.size:=by
 unfold pk at h;split at h
 ·assumption
 ·exact absurd rfl h
theorem afV(s:ByteArray)(a:Nat):0<=pk s a/\pk s a<=255:=by
 unfold pk;split
 ·have:=UInt8.toNat_lt s[a];omega
 ·omega
structure CI(w:World)(B BT BC BP:Nat)(s:ByteArray)(a d:Nat)(Y:Ai)(cs:Ah)(ps:Ai):Prop where
 c0:w.cell? (J B 0)=some (.string s)
 c1:w.cell? (J B 1)=some (A a)
 c2:w.cell? (J B 2)=some (A d)
 c3:w.cell? (J B 3)=some (A 0)
 c4:w.cell? (J B 4)=some (.map (some BT))
 c5:w.cell? (J B 5)=some (.map (some BC))
 c6:w.cell? (J B 6)=some (.map (some BP))
 f1:w.frozen? (J B 1)=false
 f2:w.frozen? (J B 2)=false
 f3:w.frozen? (J B 3)=false
 mt:aT w 76 BT bZ Y
 mc:aT w 79 BC mZ cs
 mp:aT w 82 BP bZ ps
 nT:B≠BT
 nC:B≠BC
 nn:BT≠BC
 nP:B≠BP
 nTP:BT≠BP
 nCP:BC≠BP
structure Kp(B BT BC BP:Nat)(w w':World):Prop where
 os:w'.os=w.os
 tape:w'.tape=w.tape
 output:w'.output=w.output
 size:w.heap.size<=w'.heap.size
 block:∀k,k<w.heap.size->k≠B->k≠BT->k≠BC->k≠BP->w'.heap[k]?=w.heap[k]?
theorem Kp.trans{B BT BC BP:Nat}{a b c:World}(h:Kp B BT BC BP a b)(k:Kp B BT BC BP b c):Kp B BT BC BP a c:=
 ⟨k.os.trans h.os,k.tape.trans h.tape,k.output.trans h.output,ap3 h.size k.size,λi hi I M h3 h4=>(k.block i (ap2 hi h.size) I M h3 h4).trans (h.block i hi I M h3 h4)⟩
theorem Kp.drewN(B BT BC BP:Nat)(w:World)(n:Nat):Kp B BT BC BP w (w.drewN n):=⟨rfl,rfl,rfl,an2 _,λ_ _ _ _ _ _=>rfl⟩
theorem Kp.setCell(B BT BC BP:Nat)(w:World)(i:Nat)(v:Value):Kp B BT BC BP w (w.setCell (J B i) v):=
 ⟨rfl,rfl,rfl,by simp[World.setCell],λk _ I _ _ _=>Below.heap_setCell _ _ _ _ I⟩
theorem Kp.alloc(B BT BC BP:Nat)(w:World)(o:Obj):Kp B BT BC BP w (w.alloc o):=⟨rfl,rfl,rfl,R,λk hk _ _ _ _=>Below.heap_alloc _ _ _ hk⟩
theorem Kp.BZ{B BT BC BP:Nat}{w w':World}(h:w.grownBy w' (some BT)):Kp B BT BC BP w w':=⟨h.os,h.tape,h.output,h.size,λk hk _ M _ _=>h.block k hk (by simp[M])⟩
theorem Kp.ahP{B BT BC BP:Nat}{w w':World}(h:w.grownBy w' (some BC)):Kp B BT BC BP w w':=⟨h.os,h.tape,h.output,h.size,λk hk _ _ h3 _=>h.block k hk (by simp[h3])⟩
theorem Kp.JY{B BT BC BP:Nat}{w w':World}(h:w.grownBy w' (some BP)):Kp B BT BC BP w w':=⟨h.os,h.tape,h.output,h.size,λk hk _ _ _ h4=>h.block k hk (by simp[h4])⟩
theorem Kp.dI{B BT BC BP:Nat}{w w':World}(h:Kp B BT BC BP w w'){X:Nat}(hX:w.heap.size<=X)(i:Nat)(v:Value):Kp B BT BC BP w (w'.setCell (J X i) v):=
 ⟨h.os,h.tape,h.output,by have:=h.size;simpa[World.setCell]using this,λk hk I M h3 h4=>(Below.heap_setCell _ _ _ _ (show k≠X by omega)).trans (h.block k hk I M h3 h4)⟩
theorem Kp.below{B BT BC BP base:Nat}{w w':World}(h:Kp B BT BC BP w w')(h0:base<=w.heap.size)(I:base<=B)(M:base<=BT)(h3:base<=BC)(h4:base<=BP):Below base w w':=
 ⟨h.os,h.tape,h.output,h.size,λk hk=>h.block k O O O O O⟩
theorem Kp.cell{B BT BC BP:Nat}{w w':World}(h:Kp B BT BC BP w w'){X i:Nat}(hX:X<w.heap.size)(I:X≠B)(M:X≠BT)(h3:X≠BC)(h4:X≠BP):w'.cell? (J X i)=w.cell? (J X i):=World.cell?_of_block (h.block X hX I M h3 h4)
theorem Kp.frozen{B BT BC BP:Nat}{w w':World}(h:Kp B BT BC BP w w'){X i:Nat}(hX:X<w.heap.size)(I:X≠B)(M:X≠BT)(h3:X≠BC)(h4:X≠BP):w'.frozen? (J X i)=w.frozen? (J X i):=World.frozen?_of_block (h.block X hX I M h3 h4)
structure Bad(w:World)(B p:Nat)(E:Int):Prop where
 c1:w.cell? (J B 1)=some (A p)
 c3:w.cell? (J B 3)=some (A E)
section
variable {w:World} {B BT BC BP:Nat} {s:ByteArray} {a d:Nat} {Y:List Key} {cs:List (Int×Nat)} {ps:List Key}
theorem CI.drewN(h:CI w B BT BC BP s a d Y cs ps)(n:Nat):CI (w.drewN n) B BT BC BP s a d Y cs ps:=
 ⟨h.c0,h.c1,h.c2,h.c3,h.c4,h.c5,h.c6,h.f1,h.f2,h.f3,h.mt.kept rfl,h.mc.kept rfl,h.mp.kept rfl,h.nT,h.nC,h.nn,h.nP,h.nTP,h.nCP⟩
theorem CI.lt(h:CI w B BT BC BP s a d Y cs ps):B<w.heap.size:=World.block_lt_of_cell? w _ h.c0
theorem aI(w:World)(B:Nat){i j:Nat}(v:Value)(h:i≠j):(w.setCell (J B i) v).cell? (J B j)=w.cell? (J B j):=by
 apply World.cell?_setCell_other;intro e;injection e with _ e _;exact h e
theorem bH{w:World}{B i:Nat}{u:Value}(v:Value)(h:w.cell? (J B i)=some u):(w.setCell (J B i) v).cell? (J B i)=some v:=by
 apply World.cell?_setCell_same;exact h
theorem CI.set1(h:CI w B BT BC BP s a d Y cs ps){v:Int}{a':Nat}(hv:v=a'):CI (w.setCell (J B 1) (A v)) B BT BC BP s a' d Y cs ps:=by
 subst hv;refine⟨?_,bH _ h.c1,?_,?_,?_,?_,?_,?_,?_,?_,h.mt.kept ?_,h.mc.kept ?_,h.mp.kept ?_,h.nT,h.nC,h.nn,h.nP,h.nTP,h.nCP⟩
 ·rw[aI _ _ _ O];exact h.c0
 ·rw[aI _ _ _ O];exact h.c2
 ·rw[aI _ _ _ O];exact h.c3
 ·rw[aI _ _ _ O];exact h.c4
 ·rw[aI _ _ _ O];exact h.c5
 ·rw[aI _ _ _ O];exact h.c6
 ·rw[World.frozen?_setCell];exact h.f1
 ·rw[World.frozen?_setCell];exact h.f2
 ·rw[World.frozen?_setCell];exact h.f3
 ·exact Below.heap_setCell _ _ _ _ (ax7 h.nT)
 ·exact Below.heap_setCell _ _ _ _ (ax7 h.nC)
 ·exact Below.heap_setCell _ _ _ _ (ax7 h.nP)
theorem CI.set2(h:CI w B BT BC BP s a d Y cs ps){v:Int}{d':Nat}(hv:v=d'):CI (w.setCell (J B 2) (A v)) B BT BC BP s a d' Y cs ps:=by
 subst hv;refine⟨?_,?_,bH _ h.c2,?_,?_,?_,?_,?_,?_,?_,h.mt.kept ?_,h.mc.kept ?_,h.mp.kept ?_,h.nT,h.nC,h.nn,h.nP,h.nTP,h.nCP⟩
 ·rw[aI _ _ _ O];exact h.c0
 ·rw[aI _ _ _ O];exact h.c1
 ·rw[aI _ _ _ O];exact h.c3
 ·rw[aI _ _ _ O];exact h.c4
 ·rw[aI _ _ _ O];exact h.c5
 ·rw[aI _ _ _ O];exact h.c6
 ·rw[World.frozen?_setCell];exact h.f1
 ·rw[World.frozen?_setCell];exact h.f2
 ·rw[World.frozen?_setCell];exact h.f3
 ·exact Below.heap_setCell _ _ _ _ (ax7 h.nT)
 ·exact Below.heap_setCell _ _ _ _ (ax7 h.nC)
 ·exact Below.heap_setCell _ _ _ _ (ax7 h.nP)
theorem CI.bad(h:CI w B BT BC BP s a d Y cs ps)(E:Int):Bad (w.setCell (J B 3) (A E)) B a E:=
 ⟨by rw[aI _ _ _ O];exact h.c1,bH _ h.c3⟩
theorem aT.grown{α:Type}[BEq α]{w w':World}{k b r:Nat}{kv:α->Value}{l:List α}(h:aT w k b kv l)(hg:w.grownBy w' (some r))(bg:b≠r):aT w' k b kv l:=
 h.kept (hg.block b h.lt (by simp[bg]))
theorem CI.Vx(h:CI w B BT BC BP s a d Y cs ps){w':World}{ts':Ai}(hm:aT w' 76 BT bZ ts')(hg:w.grownBy w' (some BT)):CI w' B BT BC BP s a d ts' cs ps:=by
 have hlt:=h.lt;have hb:∀i,w'.cell? (J B i)=w.cell? (J B i):=λi=>World.cell?_of_block (hg.block B hlt (by simp[h.nT]));have hf:∀i,w'.frozen? (J B i)=w.frozen? (J B i):=λi=>World.frozen?_of_block (hg.block B hlt (by simp[h.nT]));exact⟨(hb _).trans h.c0,(hb _).trans h.c1,(hb _).trans h.c2,(hb _).trans h.c3,(hb _).trans h.c4,(hb _).trans h.c5,(hb _).trans h.c6,(hf _).trans h.f1,(hf _).trans h.f2,(hf _).trans h.f3,hm,h.mc.grown hg (ax7 h.nn),h.mp.grown hg (ax7 h.nTP),
  h.nT,h.nC,h.nn,h.nP,h.nTP,h.nCP⟩
theorem CI.akU(h:CI w B BT BC BP s a d Y cs ps){w':World}{cs':Ah}(hm:aT w' 79 BC mZ cs')(hg:w.grownBy w' (some BC)):CI w' B BT BC BP s a d Y cs' ps:=by
 have hlt:=h.lt;have hb:∀i,w'.cell? (J B i)=w.cell? (J B i):=λi=>World.cell?_of_block (hg.block B hlt (by simp[h.nC]));have hf:∀i,w'.frozen? (J B i)=w.frozen? (J B i):=λi=>World.frozen?_of_block (hg.block B hlt (by simp[h.nC]));exact⟨(hb _).trans h.c0,(hb _).trans h.c1,(hb _).trans h.c2,(hb _).trans h.c3,(hb _).trans h.c4,(hb _).trans h.c5,(hb _).trans h.c6,(hf _).trans h.f1,(hf _).trans h.f2,(hf _).trans h.f3,h.mt.grown hg h.nn,hm,h.mp.grown hg (ax7 h.nCP),
  h.nT,h.nC,h.nn,h.nP,h.nTP,h.nCP⟩
theorem CI.acz(h:CI w B BT BC BP s a d Y cs ps){w':World}{ps':Ai}(hm:aT w' 82 BP bZ ps')(hg:w.grownBy w' (some BP)):CI w' B BT BC BP s a d Y cs ps':=by
 have hlt:=h.lt;have hb:∀i,w'.cell? (J B i)=w.cell? (J B i):=λi=>World.cell?_of_block (hg.block B hlt (by simp[h.nP]));have hf:∀i,w'.frozen? (J B i)=w.frozen? (J B i):=λi=>World.frozen?_of_block (hg.block B hlt (by simp[h.nP]));exact⟨(hb _).trans h.c0,(hb _).trans h.c1,(hb _).trans h.c2,(hb _).trans h.c3,(hb _).trans h.c4,(hb _).trans h.c5,(hb _).trans h.c6,(hf _).trans h.f1,(hf _).trans h.f2,(hf _).trans h.f3,h.mt.grown hg h.nTP,h.mc.grown hg h.nCP,hm,
  h.nT,h.nC,h.nn,h.nP,h.nTP,h.nCP⟩
theorem CI.alloc(h:CI w B BT BC BP s a d Y cs ps)(o:Obj):CI (w.alloc o) B BT BC BP s a d Y cs ps:=by
 have hlt:=h.lt;have hg:w.grownBy (w.alloc o) none:=World.grownBy_alloc _ _ _;have hb:∀i,(w.alloc o).cell? (J B i)=w.cell? (J B i):=λi=>World.cell?_of_block (hg.block B hlt R);have hf:∀i,(w.alloc o).frozen? (J B i)=w.frozen? (J B i):=λi=>World.frozen?_of_block (hg.block B hlt R);exact⟨(hb _).trans h.c0,(hb _).trans h.c1,(hb _).trans h.c2,(hb _).trans h.c3,(hb _).trans h.c4,(hb _).trans h.c5,(hb _).trans h.c6,(hf _).trans h.f1,(hf _).trans h.f2,(hf _).trans h.f3,
  h.mt.kept (hg.block BT h.mt.lt R),h.mc.kept (hg.block BC h.mc.lt R),h.mp.kept (hg.block BP h.mp.lt R),
  h.nT,h.nC,h.nn,h.nP,h.nTP,h.nCP⟩
end
theorem aci(B:Nat)(s:ByteArray)(a:Nat)(w:World)(_hs:s.size<=100)(ha:a<=s.size)
 (c0:w.cell? (J B 0)=some (.string s))(c1:w.cell? (J B 1)=some (A a)) :
  Calls prog 46 #[Aa B 0] w λe w'=>e=.returned (Ae (pk s a))/\∃n,w'=w.drewN n:=by
 by_cases hlt:a<s.size
 ·have hb:((a:Int)==(s.size:Int))=false:=ay1.2 O
  go_in
  go_wp2
  go_quiet (fail)
  go_wp2
  go_quiet (fail)
  go_wp2
  go_ret
  exact⟨jM (by unfold pk;rw[dif_pos hlt]),_,World.drewN_drewN _ _ _⟩
 ·have hb:((a:Int)==(s.size:Int))=true:=beq_iff_eq.2 O
  go_in
  go_wp2
  go_quiet (fail)
  go_wp2
  go_ret
  exact⟨jM (by unfold pk;rw[dif_neg hlt]),_,rfl⟩
section
variable (w:World) (B BT BC BP:Nat) (s:ByteArray) (a d:Nat) (Y:List Key) (cs:List (Int×Nat)) (ps:List Key)
theorem cO(hs:s.size<=100)(ha:a<=s.size)(h:CI w B BT BC BP s a d Y cs ps) :
  Calls prog 46 #[Aa B 0] w λe w'=>e=.returned (Ae (pk s a))/\CI w' B BT BC BP s a d Y cs ps/\Kp B BT BC BP w w':=by
 refine(aci B s a w hs ha h.c0 h.c1).mono ?_;rintro e w' ⟨rfl,n,rfl⟩;exact⟨rfl,h.drewN n,Kp.drewN _ _ _ _ _ _⟩
theorem Vh(E:Int)(c3:w.cell? (J B 3)=some (A 0))(f3:w.frozen? (J B 3)=false) :
  Calls prog 51 #[Aa B 0,A E] w λe w'=>e=.returned (.bool false)/\w'=w.setCell (J B 3) (A E):=by
 go_in
 go_wp2
 go_ret
 exact⟨rfl,rfl⟩
theorem um(E:Int)(h:CI w B BT BC BP s a d Y cs ps) :
  Calls prog 51 #[Aa B 0,A E] w λe w'=>e=.returned (.bool false)/\Bad w' B a E/\Kp B BT BC BP w w':=by
 refine(Vh w B E h.c3 h.f3).mono ?_;rintro e w' ⟨rfl,rfl⟩;exact⟨rfl,h.bad E,Kp.setCell _ _ _ _ _ _ _⟩
theorem qP(c:Int)(hs:s.size<=100)(ha:a<s.size)(hc:pk s a=c)(h:CI w B BT BC BP s a d Y cs ps) :
  Calls prog 97 #[Aa B 0,Ae c] w λe w'=>e=.returned (.bool true)/\CI w' B BT BC BP s (a+1) d Y cs ps/\Kp B BT BC BP w w':=by
 subst hc;generalize hp:pk s a=p;have HP:=F hp;have hb:(p != p)=false:=R
 go_in
 go_wp2_with fail
 refine(cO w B BT BC BP s a d Y cs ps hs O h).mono ?_;rw[Z HP];rintro e w1 ⟨rfl,I,k1⟩;have c1:=I.c1;have f1:=I.f1
 go_wp2_with fail
 go_ret
 exact⟨rfl,I.set1 O,k1.trans (Kp.setCell _ _ _ _ _ _ _)⟩
theorem Hr(c:Int)(hs:s.size<=100)(ha:a<=s.size)(hc:pk s a≠c)(h:CI w B BT BC BP s a d Y cs ps) :
  Calls prog 97 #[Aa B 0,Ae c] w λe w'=>e=.returned (.bool false)/\Bad w' B a 2/\Kp B BT BC BP w w':=by
 generalize hp:pk s a=p at hc;have HP:=F hp;have hb:(p != c)=true:=by simpa using hc
 go_in
 go_wp2_with fail
 refine(cO w B BT BC BP s a d Y cs ps hs ha h).mono ?_;rw[Z HP];rintro e w1 ⟨rfl,I,k1⟩
 go_wp2_with fail
 refine(um w1 B BT BC BP s a d Y cs ps 2 I).mono ?_;rintro e w2 ⟨rfl,M,k2⟩
 go_wp2_with fail
 go_ret
 exact⟨rfl,M,k1.trans k2⟩
theorem uq(hs:s.size<=100)(ha:a<=s.size)(hd:d<=8)(hc:pk s a≠40)(h:CI w B BT BC BP s a d Y cs ps) :
  Calls prog 91 #[Aa B 0] w λe w'=>e=.returned (.bool false)/\Bad w' B a 2/\Kp B BT BC BP w w':=by
 generalize hp:pk s a=p at hc;have HP:=F hp;have hb:(p==40)=false:=by simpa using hc
 go_in
 go_wp2_with fail
 refine(cO w B BT BC BP s a d Y cs ps hs ha h).mono ?_;rw[Z HP];rintro e w1 ⟨rfl,I,k1⟩;have c2:=I.c2;have f2:=I.f2
 go_wp2_with fail
 have M:=I.set2 (v:=(d:Int)+1) (d':=d+1) O;refine(Hr _ B BT BC BP s a (d+1) Y cs ps 40 hs ha (by rw[Z HP];exact hc) M).mono ?_;rintro e w2 ⟨rfl,h3,k3⟩
 go_wp2_with fail
 go_ret
 exact⟨rfl,h3,(k1.trans (Kp.setCell _ _ _ _ _ _ _)).trans k3⟩
theorem nI(hs:s.size<=100)(ha:a<=s.size)(hd:d=8)(hc:pk s a=40)(h:CI w B BT BC BP s a d Y cs ps) :
  Calls prog 91 #[Aa B 0] w λe w'=>e=.returned (.bool false)/\Bad w' B a 3/\Kp B BT BC BP w w':=by
 subst hd;have HP:=F hc
 go_in
 go_wp2_with fail
 refine(cO w B BT BC BP s a 8 Y cs ps hs ha h).mono ?_;rw[Z HP];rintro e w1 ⟨rfl,I,k1⟩;have c2:=I.c2
 go_wp2_with fail
 refine(um w1 B BT BC BP s a 8 Y cs ps 3 I).mono ?_;rintro e w2 ⟨rfl,M,k2⟩
 go_wp2_with fail
 go_ret
 exact⟨rfl,M,k1.trans k2⟩
theorem fE(hs:s.size<=100)(ha:a<s.size)(hd:d<8)(hc:pk s a=40)(h:CI w B BT BC BP s a d Y cs ps) :
  Calls prog 91 #[Aa B 0] w λe w'=>e=.returned (.bool true)/\CI w' B BT BC BP s (a+1) (d+1) Y cs ps/\Kp B BT BC BP w w':=by
 have HP:=F hc;have hb:((d:Int)==8)=false:=ay1.2 O
 go_in
 go_wp2_with fail
 refine(cO w B BT BC BP s a d Y cs ps hs O h).mono ?_;rw[Z HP];rintro e w1 ⟨rfl,I,k1⟩;have c2:=I.c2;have f2:=I.f2
 go_wp2_with fail
 have M:=I.set2 (v:=(d:Int)+1) (d':=d+1) O;refine(qP _ B BT BC BP s a (d+1) Y cs ps 40 hs ha (Z HP) M).mono ?_;rintro e w2 ⟨rfl,h3,k3⟩
 go_wp2_with fail
 go_ret
 exact⟨rfl,h3,(k1.trans (Kp.setCell _ _ _ _ _ _ _)).trans k3⟩
theorem qQ(hs:s.size<=100)(ha:a<s.size)(hd:d<=8)(hc:pk s a=41)(h:CI w B BT BC BP s a (d+1) Y cs ps) :
  Calls prog 93 #[Aa B 0] w λe w'=>e=.returned (.bool true)/\CI w' B BT BC BP s (a+1) d Y cs ps/\Kp B BT BC BP w w':=by
 have HP:=F hc;have c2:=h.c2;have f2:=h.f2
 go_in
 go_wp2_with fail
 refine(qP _ B BT BC BP s a d Y cs ps 41 hs ha (Z HP) (h.set2 O)).mono ?_;rintro e w2 ⟨rfl,h3,k3⟩
 go_wp2_with fail
 go_ret
 exact⟨rfl,h3,(Kp.setCell _ _ _ _ _ _ _).trans k3⟩
theorem vN(hs:s.size<=100)(ha:a<=s.size)(hd:d<=8)(hc:pk s a≠41)(h:CI w B BT BC BP s a (d+1) Y cs ps) :
  Calls prog 93 #[Aa B 0] w λe w'=>e=.returned (.bool false)/\Bad w' B a 2/\Kp B BT BC BP w w':=by
 have HP:=F hc;have c2:=h.c2;have f2:=h.f2
 go_in
 go_wp2_with fail
 refine(Hr _ B BT BC BP s a d Y cs ps 41 hs ha (Z HP) (h.set2 O)).mono ?_;rintro e w2 ⟨rfl,h3,k3⟩
 go_wp2_with fail
 go_ret
 exact⟨rfl,h3,(Kp.setCell _ _ _ _ _ _ _).trans k3⟩
theorem EX(hs:s.size<=100)(ha:a<s.size)(hc:au.aB (pk s a)=true)(h:CI w B BT BC BP s a d Y cs ps) :
  Calls prog 92 #[Aa B 0] w λe w'=>e=.returned (.bool true)/\CI w' B BT BC BP s (a+1) d Y cs ps/\Kp B BT BC BP w w':=by
 have Fj:pk s a=38\/pk s a=124\/pk s a=62\/pk s a=45:=by
  simp[au.aB]at hc;omega
 have HC:=F Fj
 go_in
 go_wp2_with fail
 refine(cO w B BT BC BP s a d Y cs ps hs O h).mono ?_;rintro e w1 ⟨rfl,I,k1⟩;have c1:=I.c1;have f1:=I.f1;obtain hp|hp|hp|hp:=Z HC
 all_goals
  rw[hp]
  go_wp2_with fail
  go_ret
  exact⟨rfl,I.set1 O,k1.trans (Kp.setCell _ _ _ _ _ _ _)⟩
theorem acT(hs:s.size<=100)(ha:a<=s.size)(hc:au.aB (pk s a)=false)(h:CI w B BT BC BP s a d Y cs ps) :
  Calls prog 92 #[Aa B 0] w λe w'=>e=.returned (.bool false)/\Bad w' B a 2/\Kp B BT BC BP w w':=by
 generalize hp:pk s a=p at hc;have HP:=F hp;have Fj:((p==38)=false/\(p==124)=false)/\(p==62)=false/\(p==45)=false:=by
  simp[au.aB]at hc;simp;omega
 obtain⟨⟨b1,b2⟩,b3,b4⟩:=Fj
 go_in
 go_wp2_with fail
 refine(cO w B BT BC BP s a d Y cs ps hs ha h).mono ?_;rw[Z HP];rintro e w1 ⟨rfl,I,k1⟩
 go_wp2_with fail
 refine(um w1 B BT BC BP s a d Y cs ps 2 I).mono ?_;rintro e w2 ⟨rfl,M,k2⟩
 go_wp2_with fail
 go_ret
 exact⟨rfl,M,k1.trans k2⟩
theorem YS(ha:a=s.size)(h:CI w B BT BC BP s a d Y cs ps) :
  Calls prog 25 #[Aa B 0] w λe w'=>e=.returned (.bool true)/\CI w' B BT BC BP s a d Y cs ps/\Kp B BT BC BP w w':=by
 have c0:=h.c0;have c1:=h.c1;have hb:decide ((a:Int)<(s.size:Int))=false:=anf
 have TF:¬(a:Int)<(s.size:Int):=O
 have HA:=F ha
 go_in
 go_wp2_with fail
 go_quiet (fail)
 go_wp2_with fail
 go_ret
 exact⟨rfl,h.drewN _,Kp.drewN _ _ _ _ _ _⟩
theorem ahU(ha:a<s.size)(h:CI w B BT BC BP s a d Y cs ps) :
  Calls prog 25 #[Aa B 0] w λe w'=>e=.returned (.bool false)/\Bad w' B a 2/\Kp B BT BC BP w w':=by
 have c0:=h.c0;have c1:=h.c1;have TF:(a:Int)<(s.size:Int):=O
 go_in
 go_wp2_with fail
 go_quiet (fail)
 go_wp2_with fail
 refine(um _ B BT BC BP s a d Y cs ps 2 (h.drewN _)).mono ?_;rintro e w2 ⟨rfl,M,k2⟩
 go_wp2_with fail
 go_ret
 exact⟨rfl,M,(Kp.drewN _ _ _ _ _ _).trans k2⟩
end
end
namespace au
structure St where
 a:Nat
 d:Nat
 E:Int
 T:List (List UInt8)
 C:List (List UInt8)
def aJ(pk:Nat->Int)(σ:St)(c:Int):Bool:=decide (σ.E=0)&&decide (pk σ.a=c)
def bF(pk:Nat->Int)(l:List Int)(σ:St):St×Int:=
 if σ.E=0 then
  if l.contains (pk σ.a)then({σ with a:=σ.a+1},pk σ.a)else({σ with E:=2},0)
 else(σ,0)
def gJ(pk:Nat->Int)(σ:St):St:=if aJ pk σ 40=true/\σ.d=8 then {σ with E:=3}else σ
def rUp(σ:St):St:={σ with d:=σ.d+1}
def ab9(σ:St):St:={σ with d:=σ.d-1}
def aG(pk:Nat->Int)(σ:St):St:=rUp (bF pk [40] (gJ pk σ)).1
def dA(pk:Nat->Int)(σ:St):St:=ab9 (bF pk [41] σ).1
def cut(l:List UInt8)(x y:Nat):List UInt8:=(l.drop x).take (y-x)
def letters:List Int:=[97,98,99,100,101,102,103]
def iJ(l:List UInt8)(x:Nat)(σ:St):St×Nat:=
 if σ.E=0 then({σ with T:=put σ.T (cut l x σ.a)},σ.T.idxOf (cut l x σ.a))else(σ,0)
def Hy(pk:Nat->Int)(rec:St->St)(c:Int)(σ:St):St:=
 if c=102 then dA pk (rec (aG pk σ))
 else if c=103 then dA pk (rec (bF pk [44] (rec (aG pk σ))).1)
 else σ
def aN(l:List UInt8)(pk:Nat->Int):Nat->St->St×Nat
 |0,σ=>(σ,0)
 |n+1,σ=>iJ l σ.a (Hy pk (λτ=>(aN l pk n τ).1) (bF pk letters σ).2 (bF pk letters σ).1)
def iK(l:List UInt8)(x:Nat)(σ:St):St:=
 if σ.E=0 then {σ with C:=put σ.C (cut l x σ.a)}else σ
def aK(l:List UInt8)(pk:Nat->Int):Nat->St->St
 |0,σ=>σ
 |n+1,σ=>
  if aJ pk σ 33=true then aK l pk n {σ with a:=σ.a+1}
  else if (aJ pk σ 80||aJ pk σ 81)=true then
   iK l σ.a (dA pk (aN l pk (n+1) (aG pk {σ with a:=σ.a+1})).1)
  else if aJ pk σ 40=true then
   dA pk (aK l pk n (bF pk [38,124,62,45] (aK l pk n (aG pk σ))).1)
  else(aN l pk (n+1) (bF pk [61] (aN l pk (n+1) σ).1).1).1
def need(N:Nat)(σ:St):Nat:=if σ.E=0 then N+1-σ.a else 1
end au
section
open Go.RowKit
open au (St put)
def str(l:List UInt8):Value:=.string ⟨l.toArray⟩
structure RI(w:World)(B:Nat)(s:ByteArray)(σ:St)(on:Bool)(k1 k2:Value):Prop where
 c0:w.cell? (J B 0)=some (.string s)
 c1:w.cell? (J B 1)=some (A σ.a)
 c2:w.cell? (J B 2)=some (A σ.d)
 c3:w.cell? (J B 3)=some (A σ.E)
 c6:w.cell? (J B 6)=some (.bool on)
 c7:w.cell? (J B 7)=some k1
 c8:w.cell? (J B 8)=some k2
 fz:∀i,w.frozen? (J B i)=false
 rows:∃v4 v5,w.cell? (J B 4)=some v4/\w.cell? (J B 5)=some v5/\w.ownsRow (B+1) 9 1 v4 σ.T.length (σ.T.map str)/\w.ownsRow (B+1) 9 1 v5 σ.C.length (σ.C.map str)/\
  (v4.ownBlock=none\/v5.ownBlock=none\/v4.ownBlock≠v5.ownBlock)
section
variable {w:World} {B:Nat} {s:ByteArray} {σ:St} {on:Bool} {k1 k2:Value}
theorem RI.lt(h:RI w B s σ on k1 k2):B<w.heap.size:=World.block_lt_of_cell? w _ h.c0
theorem RI.drewN(h:RI w B s σ on k1 k2)(n:Nat):RI (w.drewN n) B s σ on k1 k2:=
 ⟨h.c0,h.c1,h.c2,h.c3,h.c6,h.c7,h.c8,h.fz,h.rows⟩
theorem oq{w:World}{base:Nat}{v:Value}{n:Nat}{xs:List Value}(h:w.ownsRow base 9 1 v n xs){a:Addr}(ha:a.block<base)(u:Value):(w.setCell a u).ownsRow base 9 1 v n xs:=
 ownsRow_setCell_below h ha u
theorem RI.set1(h:RI w B s σ on k1 k2){v:Int}{a':Nat}(hv:v=a'):RI (w.setCell (J B 1) (A v)) B s {σ with a:=a'} on k1 k2:=by
 subst hv;obtain⟨v4,v5,r1,r2,r3,r4,r5⟩:=h.rows;refine⟨?_,bH _ h.c1,?_,?_,?_,?_,?_,λi=>by rw[World.frozen?_setCell];exact h.fz i,v4,v5,?_,?_,oq r3 (Nat.lt_succ_self _) _,oq r4 (Nat.lt_succ_self _) _,r5⟩
 ·rw[aI _ _ _ O];exact h.c0
 ·rw[aI _ _ _ O];exact h.c2
 ·rw[aI _ _ _ O];exact h.c3
 ·rw[aI _ _ _ O];exact h.c6
 ·rw[aI _ _ _ O];exact h.c7
 ·rw[aI _ _ _ O];exact h.c8
 ·rw[aI _ _ _ O];exact r1
 ·rw[aI _ _ _ O];exact r2
theorem RI.set2(h:RI w B s σ on k1 k2){v:Int}{a':Nat}(hv:v=a'):RI (w.setCell (J B 2) (A v)) B s {σ with d:=a'} on k1 k2:=by
 subst hv;obtain⟨v4,v5,r1,r2,r3,r4,r5⟩:=h.rows;refine⟨?_,?_,bH _ h.c2,?_,?_,?_,?_,λi=>by rw[World.frozen?_setCell];exact h.fz i,v4,v5,?_,?_,oq r3 (Nat.lt_succ_self _) _,oq r4 (Nat.lt_succ_self _) _,r5⟩
 ·rw[aI _ _ _ O];exact h.c0
 ·rw[aI _ _ _ O];exact h.c1
 ·rw[aI _ _ _ O];exact h.c3
 ·rw[aI _ _ _ O];exact h.c6
 ·rw[aI _ _ _ O];exact h.c7
 ·rw[aI _ _ _ O];exact h.c8
 ·rw[aI _ _ _ O];exact r1
 ·rw[aI _ _ _ O];exact r2
theorem RI.aiu(h:RI w B s σ on k1 k2)(E:Int):RI (w.setCell (J B 3) (A E)) B s {σ with E:=E} on k1 k2:=by
 obtain⟨v4,v5,r1,r2,r3,r4,r5⟩:=h.rows;refine⟨?_,?_,?_,bH _ h.c3,?_,?_,?_,λi=>by rw[World.frozen?_setCell];exact h.fz i,v4,v5,?_,?_,oq r3 (Nat.lt_succ_self _) _,oq r4 (Nat.lt_succ_self _) _,r5⟩
 ·rw[aI _ _ _ O];exact h.c0
 ·rw[aI _ _ _ O];exact h.c1
 ·rw[aI _ _ _ O];exact h.c2
 ·rw[aI _ _ _ O];exact h.c6
 ·rw[aI _ _ _ O];exact h.c7
 ·rw[aI _ _ _ O];exact h.c8
 ·rw[aI _ _ _ O];exact r1
 ·rw[aI _ _ _ O];exact r2
end
theorem oN{a b:Bool}(h:a=b):Ending.returned (.bool a)=.returned (.bool b):=by rw[h]
theorem below_drewN(B:Nat)(w:World)(n:Nat):Below B w (w.drewN n):=⟨rfl,rfl,rfl,an2 _,λ_ _=>rfl⟩
theorem bU(B:Nat)(w:World)(i:Nat)(v:Value):Below B w (w.setCell (J B i) v):=(Below.refl B w).setCell (p:=(J B i)) (an2 B) v
section
variable (w:World) (B:Nat) (s:ByteArray) (σ:St) (on:Bool) (k1 k2:Value)
theorem aQ(c:Int)(hc:c≠0)(h:RI w B s σ on k1 k2) :
  Calls prog 170 #[Aa B 0,Ae c] w λe w'=>e=.returned (.bool (au.aJ (pk s) σ c))/\RI w' B s σ on k1 k2/\Below B w w':=by
 have c0:=h.c0;have c1:=h.c1;have c3:=h.c3;by_cases hE:σ.E=0
 ·rw[hE]at c3;by_cases hlt:σ.a<s.size
  ·have hl:decide ((σ.a:Int)<(s.size:Int))=true:=anf;have Ij:(σ.a:Int)<(s.size:Int):=O;have HE:=F hE
   go_in
   go_wp2_with fail
   go_quiet (fail)
   go_wp2_with fail
   go_ret
   refine⟨?_,h.drewN _,below_drewN _ _ _⟩;unfold au.aJ;rw[ay5 (Z HE),Bool.true_and];refine oN ?_;have hp:pk s σ.a=(s[σ.a].toNat:Int):=(by unfold pk;rw[dif_pos hlt]);rw[hp,Bool.eq_iff_iff];simp
  ·have hl:decide ((σ.a:Int)<(s.size:Int))=false:=anf;have hp:pk s σ.a=0:=(by unfold pk;rw[dif_neg hlt]);have HE:=F hE;have HP:=F hp
   go_in
   go_wp2_with fail
   go_quiet (fail)
   go_wp2_with fail
   go_ret
   refine⟨?_,h.drewN _,below_drewN _ _ _⟩;unfold au.aJ;rw[Z HP,ax4 (ax7 hc),Bool.and_false];rfl
 ·have hb:(σ.E==0)=false:=by simpa using hE
  have HE:=F hE
  go_in
  go_wp2_with fail
  go_quiet (fail)
  go_wp2_with fail
  go_ret
  refine⟨?_,h.drewN _,below_drewN _ _ _⟩;unfold au.aJ;rw[ax4 (Z HE),Bool.false_and];rfl
def ints(l:ByteArray):List Int:=l.data.toList.map (λb=>(b.toNat:Int))
theorem acX{l:ByteArray}{c:Int}(k:Nat)(hk:k<l.size)(h:(l[k].toNat:Int)=c):(ints l).contains c=true:=by
 have:c∈ints l:=by
  unfold ints;rw[ap6];exact⟨l[k],by simp[ar4],h⟩
 simpa using this
theorem acW{l:ByteArray}{c:Int}(h:∀k (hk:k<l.size),(l[k].toNat:Int)≠c):(ints l).contains c=false:=by
 have:¬c∈ints l:=by
  unfold ints;rw[ap6];rintro⟨b,hb,e⟩;obtain⟨k,hk,rfl⟩:=ar6 hb;exact h k (by simpa using hk) (by simpa[ar4]using e)
 simpa using this
theorem aeW(s:ByteArray)(σ:St)(l:ByteArray)(k:Nat)(hk:k<l.size)(h:au.aJ (pk s) σ (l[k].toNat:Int)=true):au.bF (pk s) (ints l) σ=({σ with a:=σ.a+1},(l[k].toNat:Int)):=by
 unfold au.aJ at h;simp at h;unfold au.bF;rw[ao4 h.1,ao4 (acX k hk h.2.symm),h.2]
theorem acr(s:ByteArray)(σ:St)(l:ByteArray)(hE:σ.E=0)(h:∀j (hj:j<l.size),au.aJ (pk s) σ (l[j].toNat:Int)=false):au.bF (pk s) (ints l) σ=({σ with E:=2},0):=by
 unfold au.bF;rw[ao4 hE,acW (λk hk e=>by have:=h k hk;unfold au.aJ at this;rw[e,ay5 hE]at this;simp at this)];rfl
theorem one_any(l:ByteArray)(hl:l.size<=10)(h0:∀k (hk:k<l.size),(l[k].toNat:Int)≠0)(hs:s.size<=100)(ha:σ.a<=s.size)(h:RI w B s σ on k1 k2) :
  Calls prog 175 #[Aa B 0,.string l] w λe w'=>
   e=.returned (Ae (au.bF (pk s) (ints l) σ).2)/\RI w' B s (au.bF (pk s) (ints l) σ).1 on k1 k2/\Below B w w':=by
 go_in
 go_wp2_with fail
 go_loopw [5] (λi wr=>∃k:Nat,k<=l.size/\i=A k/\RI wr B s σ on k1 k2/\Below B w wr/\∀j (hj:j<l.size),j<k->au.aJ (pk s) σ (l[j].toNat:Int)=false)
  (λi _=>l.size-(intOf i).toNat)
 case atStart=>exact⟨0,ap7 _,rfl,h,Below.refl _ _,λj hj hk=>absurd hk O⟩
 case round=>
  obtain⟨k,hk,rfl,hI,hb,ny⟩:=hrel;have HNO:=F ny;by_cases hlt:k<l.size
  ·cases Sz:au.aJ (pk s) σ (l[k].toNat:Int)with
   |true=>
    have HS:=F Sz
    go_wp2_with fail
    refine(aQ wr B s σ on k1 k2 _ (h0 k hlt) hI).mono ?_;rw[Z HS];rintro e w1 ⟨rfl,I,b1⟩;have c1:=I.c1;have f1:=I.fz 1
    go_wp2_with fail
    go_ret
    have hr:=aeW s σ l k hlt (Z HS);rw[hr];exact⟨rfl,I.set1 O,(hb.trans b1).trans (bU _ _ _ _)⟩
   |false=>
    have HS:=F Sz
    go_wp2_with fail
    refine(aQ wr B s σ on k1 k2 _ (h0 k hlt) hI).mono ?_;rw[Z HS];rintro e w1 ⟨rfl,I,b1⟩
    go_wp2_with fail
    go_roundw
    case rel=>
     refine⟨k+1,O,by go_num,I,hb.trans b1,λj hj hjk=>?_⟩;by_cases e:j=k
     ·subst e;exact Z HS
     ·exact Z HNO j hj O
    case measure=>simp[intOf];omega
  ·have aX:∀j (hj:j<l.size),au.aJ (pk s) σ (l[j].toNat:Int)=false:=λj hj=>Z HNO j hj O;have c3:=hI.c3;by_cases hE:σ.E=0
   ·have hr:=acr s σ l hE aX;have HR:=F hr;have HA:=F aX;rw[hE]at c3;have f3:=hI.fz 3
    go_wp2_with fail
    go_ret
    rw[Z HR];exact⟨rfl,hI.aiu 2,hb.trans (bU _ _ _ _)⟩
   ·have hr:au.bF (pk s) (ints l) σ=(σ,0):=(by unfold au.bF;rw[an8 hE]);have hbe:(σ.E==0)=false:=(by simpa using hE);have HR:=F hr
    go_wp2_with fail
    go_ret
    rw[Z HR];exact⟨rfl,hI,hb⟩
end
theorem VI:ints ⟨#[40]⟩=[40]:=rfl
theorem agM:ints ⟨#[41]⟩=[41]:=rfl
theorem VH:ints ⟨#[44]⟩=[44]:=rfl
theorem acY:ints ⟨#[61]⟩=[61]:=rfl
theorem afY:ints ⟨#[38,124,62,45]⟩=[38,124,62,45]:=rfl
theorem DN:ints ⟨#[97,98,99,100,101,102,103]⟩=au.letters:=rfl
theorem aiB{l:ByteArray}(h:(l.data.toList.all (λb=>b != 0))=true):∀k (hk:k<l.size),(l[k].toNat:Int)≠0:=by
 intro k hk e;have I:=List.all_eq_true.1 h l[k] (by simp[ar4]);have M:l[k]≠0:=by simpa using I
 apply M;apply UInt8.toNat_inj.1;have:l[k].toNat=0:=O
 rw[this];rfl
theorem ab6(pk:Nat->Int)(l:List Int)(σ:St):(au.bF pk l σ).1.d=σ.d:=by
 unfold au.bF;split
 ·split<;>rfl
 ·rfl
theorem aeP(pk:Nat->Int)(σ:St):(au.gJ pk σ).d=σ.d:=by unfold au.gJ;split<;>rfl
section
variable (w:World) (B:Nat) (s:ByteArray) (σ:St) (on:Bool) (k1 k2:Value)
theorem eF(l:ByteArray)(L:List Int)(hL:ints l=L)(hl:l.size<=10)(h0:(l.data.toList.all (λb=>b != 0))=true)(hs:s.size<=100)(ha:σ.a<=s.size)(h:RI w B s σ on k1 k2) :
  Calls prog 175 #[Aa B 0,.string l] w λe w'=>
   e=.returned (Ae (au.bF (pk s) L σ).2)/\RI w' B s (au.bF (pk s) L σ).1 on k1 k2/\Below B w w':=by
 subst hL;exact one_any w B s σ on k1 k2 l hl (aiB h0) hs ha h
theorem dV(hs:s.size<=100)(ha:σ.a<=s.size)(hd:σ.d<=8)(h:RI w B s σ on k1 k2) :
  Calls prog 171 #[Aa B 0] w λe w'=>e=.returned (.tuple #[])/\RI w' B s (au.aG (pk s) σ) on k1 k2/\Below B w w':=by
 unfold au.aG;have hdd:=ab6 (pk s) [40] (au.gJ (pk s) σ);rw[aeP]at hdd;cases Sz:au.aJ (pk s) σ 40 with
 |true=>
  by_cases h8:σ.d=8
  ·have hr:au.gJ (pk s) σ={σ with E:=3}:=(by unfold au.gJ;rw[ao4 ⟨Sz,h8⟩]);rw[hr]at hdd ⊢;have HS:=F Sz;have HD:=F hdd;have H8:=F h8
   go_in
   go_wp2_with fail
   refine(aQ w B s σ on k1 k2 40 O h).mono ?_;rw[Z HS];rintro e w1 ⟨rfl,I,b1⟩;have c2:=I.c2;rw[Z H8]at c2;have c3:=I.c3;have f3:=I.fz 3
   go_wp2_with fail
   refine(eF _ B s _ on k1 k2 _ [40] VI ane ane hs (by exact ha) (I.aiu 3)).mono ?_;generalize hτ:au.bF (pk s) [40] {σ with E:=3}=τ at HD;obtain⟨τ,c⟩:=τ;rintro e w2 ⟨rfl,M,b2⟩;have c2':=M.c2;have f2:=M.fz 2;have hb8:τ.d<=8:=(by have:=Z HD;simp at this;omega);simp only at c2';have HT:=F hτ
   go_wp2_with fail
   go_end0
   refine⟨rfl,?_,(b1.trans (bU _ _ _ _)).trans (b2.trans (bU _ _ _ _))⟩;rw[Z HT];exact M.set2 (a':=τ.d+1) O
  ·have hr:au.gJ (pk s) σ=σ:=(by unfold au.gJ;rw[an8 (λe=>h8 e.2)]);rw[hr]at hdd ⊢;have am3:((σ.d:Int)==8)=false:=ay1.2 O;have HS:=F Sz;have HD:=F hdd
   go_in
   go_wp2_with fail
   refine(aQ w B s σ on k1 k2 40 O h).mono ?_;rw[Z HS];rintro e w1 ⟨rfl,I,b1⟩;have c2:=I.c2
   go_wp2_with fail
   refine(eF _ B s _ on k1 k2 _ [40] VI ane ane hs (by exact ha) I).mono ?_;generalize hτ:au.bF (pk s) [40] σ=τ at HD;obtain⟨τ,c⟩:=τ;rintro e w2 ⟨rfl,M,b2⟩;have c2':=M.c2;have f2:=M.fz 2;have hb8:τ.d<=8:=(by have:=Z HD;simp at this;omega);simp only at c2';have HT:=F hτ
   go_wp2_with fail
   go_end0
   refine⟨rfl,?_,b1.trans (b2.trans (bU _ _ _ _))⟩;rw[Z HT];exact M.set2 (a':=τ.d+1) O
 |false=>
  have hr:au.gJ (pk s) σ=σ:=by unfold au.gJ;rw[an8 (λe=>by rw[Sz]at e;exact absurd e.1 R)]
  rw[hr]at hdd ⊢;have HS:=F Sz;have HD:=F hdd
  go_in
  go_wp2_with fail
  refine(aQ w B s σ on k1 k2 40 O h).mono ?_;rw[Z HS];rintro e w1 ⟨rfl,I,b1⟩
  go_wp2_with fail
  refine(eF _ B s _ on k1 k2 _ [40] VI ane ane hs (by exact ha) I).mono ?_;generalize hτ:au.bF (pk s) [40] σ=τ at HD;obtain⟨τ,c⟩:=τ;rintro e w2 ⟨rfl,M,b2⟩;have c2':=M.c2;have f2:=M.fz 2;have hb8:τ.d<=8:=by have:=Z HD;simp at this;omega
  simp only at c2';have HT:=F hτ
  go_wp2_with fail
  go_end0
  refine⟨rfl,?_,b1.trans (b2.trans (bU _ _ _ _))⟩;rw[Z HT];exact M.set2 (a':=τ.d+1) O
theorem dU(hs:s.size<=100)(ha:σ.a<=s.size)(hd:σ.d<=9)(Wi:1<=σ.d)(h:RI w B s σ on k1 k2) :
  Calls prog 173 #[Aa B 0] w λe w'=>e=.returned (.tuple #[])/\RI w' B s (au.dA (pk s) σ) on k1 k2/\Below B w w':=by
 unfold au.dA;have hdd:=ab6 (pk s) [41] σ;have HD:=F hdd
 go_in
 go_wp2_with fail
 refine(eF _ B s _ on k1 k2 _ [41] agM ane ane hs ha h).mono ?_;generalize hτ:au.bF (pk s) [41] σ=τ at HD;obtain⟨τ,c⟩:=τ;rintro e w2 ⟨rfl,M,b2⟩;have c2':=M.c2;have f2:=M.fz 2;have hb8:τ.d<=9:=by have:=Z HD;simp at this;omega
 have iD:1<=τ.d:=by have:=Z HD;simp at this;omega
 simp only at c2';have HT:=F hτ
 go_wp2_with fail
 go_end0
 refine⟨rfl,?_,b2.trans (bU _ _ _ _)⟩;rw[Z HT];exact M.set2 (a':=τ.d-1) O
theorem ug{w:World}{base:Nat}{v:Value}{T:List (List UInt8)}(h:w.ownsRow base 9 1 v T.length (T.map str))(h0:0<T.length) :
  ∃g cap,v=Ac g 0 T.length cap/\∀j (hj:j<T.length),w.cell? (J g j)=some (str T[j]):=by
 have h':=h;obtain⟨_,M⟩:=h;obtain⟨_,e⟩|⟨g,cap,cur,hv,_⟩:=M
 ·omega
 ·subst hv;exact⟨g,cap,rfl,λj hj=>by rw[h'.cellAt j O];simp[hj]⟩
def atIdx(T:List (List UInt8))(t:List UInt8):Int:=if T.contains t then(T.idxOf t:Int)else -1
theorem abb{T:List (List UInt8)}{t:List UInt8}{k:Nat}(hk:k<T.length)(ny:∀j (hj:j<T.length),j<k->T[j]≠t)(h:T[k]=t):atIdx T t=k:=by
 have hm:t∈T:=by rw[<-h];exact an5 hk
 unfold atIdx;rw[ao4 (by simpa using hm)];have I:T.idxOf t<=k:=by
  by_cases hlt:T.idxOf t<=k
  ·exact hlt
  ·exfalso;have:=List.not_of_lt_findIdx (p:=(·==t)) (xs:=T) (i:=k) (by unfold List.idxOf at hlt;omega);simp[h]at this
 have M:¬T.idxOf t<k:=λhlt=>ny _ (ar0 hm) hlt (ar8 _);omega
theorem Xl{T:List (List UInt8)}{t:List UInt8}(ny:∀j (hj:j<T.length),T[j]≠t):atIdx T t = -1:=by
 have hm:¬t∈T:=λh=>by
  obtain⟨j,hj,e⟩:=ar6 h;exact ny j hj e
 unfold atIdx;rw[an8 (by simpa using hm)]
theorem kS(t:List UInt8)(T:List (List UInt8))(v:Value)(base:Nat)(hT:T.length<=1000)(ho:w.ownsRow base 9 1 v T.length (T.map str)) :
  Calls prog 174 #[v,str t] w λe w'=>e=.returned (A (atIdx T t))/\w'=w:=by
 by_cases h0:0<T.length
 ·obtain⟨g,cap,rfl,hc⟩:=ug ho h0;unfold str
  go_in
  go_wp2_with fail
  go_loop [5] (λi=>∃k:Nat,k<=T.length/\i=A k/\∀j (hj:j<T.length),j<k->T[j]≠t) (λi=>T.length-(intOf i).toNat)
  case atStart=>exact⟨0,ap7 _,rfl,λj hj hk=>absurd hk O⟩
  case round=>
   obtain⟨k,hk,rfl,ny⟩:=hrel;have HNO:=F ny;clear ny;by_cases hlt:k<T.length
   ·have hck:=hc k hlt;unfold str at hck;clear hc;by_cases hq:T[k]=t
    ·have hb:(T[k]==t)=true:=(by simpa using hq);have HQ:=F hq;clear hq
     go_wp2_with fail
     go_ret
     exact⟨jM (abb hlt (Z HNO) (Z HQ)).symm,rfl⟩
    ·have hb:(T[k]==t)=false:=(by simpa using hq);have HQ:=F hq;clear hq
     go_wp2_with fail
     go_round
     case rel=>
      refine⟨k+1,O,by go_num,λj hj hjk=>?_⟩;by_cases e:j=k
      ·subst e;exact Z HQ
      ·exact Z HNO j hj O
     case measure=>simp[intOf];omega
   ·clear hc
    go_wp2_with fail
    go_ret
    exact⟨jM (Xl (λj hj=>Z HNO j hj O)).symm,rfl⟩
 ·have fC:T=[]:=aq9 O;subst fC;have hv:∃ao cap,v=.slice ao 0 cap:=by
   obtain⟨_,M⟩:=ho;obtain⟨e,_⟩|⟨g,cap,cur,e,_⟩:=M
   ·exact⟨_,_,e⟩
   ·exact⟨_,_,e⟩
  obtain⟨ao,cap,rfl⟩:=hv;unfold str;have hm:atIdx [] t = -1:=rfl;rw[hm]
  go_in
  go_wp2_with fail
  refine wp_loop_rounds 1 ?_;rw[rounds_succ]
  go_wp2_with fail
  go_ret
  exact⟨rfl,rfl⟩
end
end
namespace au
structure Fw(N:Nat)(σ τ:St):Prop where
 le:σ.a<=τ.a
 top:τ.a<=N
 t:τ.T.length+σ.a<=σ.T.length+τ.a
 c:τ.C.length+σ.a<=σ.C.length+τ.a
 dead:σ.E≠0->τ.E≠0
theorem Fw.refl{N:Nat}{σ:St}(h:σ.a<=N):Fw N σ σ:=⟨an2 _,h,an2 _,an2 _,id⟩
theorem Fw.trans{N:Nat}{σ τ ρ:St}(h:Fw N σ τ)(k:Fw N τ ρ):Fw N σ ρ:=
 ⟨ap3 h.le k.le,k.top,by have:=h.t;have:=k.t;have:=h.le;have:=k.le;omega,by have:=h.c;have:=k.c;have:=h.le;have:=k.le;omega,λe=>k.dead (h.dead e)⟩
section
variable {pk:Nat->Int} {N:Nat}
theorem kZ(bY:∀a,pk a≠0->a<N){l:List Int}(hl:l.contains 0=false){σ:St}(h:σ.a<=N):Fw N σ (bF pk l σ).1:=by
 unfold bF;split
 ·split
  ·rename_i I;have:σ.a<N:=bY _ (λe=>by rw[e,hl]at I;cases I);exact⟨R,anf,R,R,λe=>by simpa using e⟩
  ·exact⟨R,by simpa using h,R,R,λe=>R⟩
 ·exact Fw.refl h
theorem acd{σ:St}(h:σ.a<=N):Fw N σ (gJ pk σ):=by
 unfold gJ;split
 ·exact⟨R,by simpa using h,R,R,λe=>R⟩
 ·exact Fw.refl h
theorem agG{σ:St}(h:σ.a<=N):Fw N σ (rUp σ):=⟨an2 _,h,an2 _,an2 _,id⟩
theorem ab8{σ:St}(h:σ.a<=N):Fw N σ (ab9 σ):=⟨an2 _,h,an2 _,an2 _,id⟩
theorem jV(bY:∀a,pk a≠0->a<N){σ:St}(h:σ.a<=N):Fw N σ (aG pk σ):=by
 have I:=acd (pk:=pk) h;have M:=kZ bY (l:=[40]) (by rfl) I.top;exact(I.trans M).trans (agG M.top)
theorem mF(bY:∀a,pk a≠0->a<N){σ:St}(h:σ.a<=N):Fw N σ (dA pk σ):=by
 have M:=kZ bY (l:=[41]) (by rfl) h;exact M.trans (ab8 M.top)
theorem wY(pk:Nat->Int)(l:List Int)(σ:St):(bF pk l σ).1.d=σ.d:=by
 unfold bF;split
 ·split<;>rfl
 ·rfl
theorem ahV(pk:Nat->Int)(σ:St):(gJ pk σ).d=σ.d:=by unfold gJ;split<;>rfl
theorem pF(pk:Nat->Int)(σ:St):(aG pk σ).d=σ.d+1:=by unfold aG;simp[rUp,wY,ahV]
theorem Ox(pk:Nat->Int)(σ:St):(dA pk σ).d=σ.d-1:=by unfold dA;simp[ab9,wY]
theorem nH(pk:Nat->Int)(σ:St)(h:(aG pk σ).E=0):σ.E=0/\σ.d≠8/\pk σ.a=40/\aG pk σ={σ with a:=σ.a+1,d:=σ.d+1}:=by
 unfold aG rUp at h ⊢;simp only at h;by_cases hE:σ.E=0
 ·by_cases iC:pk σ.a=40
  ·have hs:aJ pk σ 40=true:=(by simp[aJ,hE,iC]);by_cases h8:σ.d=8
   ·have hd:gJ pk σ={σ with E:=3}:=(by unfold gJ;rw[ao4 ⟨hs,h8⟩]);rw[hd]at h;simp[bF]at h
   ·have hd:gJ pk σ=σ:=(by unfold gJ;rw[an8 (λe=>h8 e.2)]);rw[hd];refine⟨hE,h8,iC,?_⟩;simp[bF,hE,iC]
  ·have hd:gJ pk σ=σ:=(by unfold gJ;rw[an8 (λe=>by simp[aJ,iC]at e)]);rw[hd]at h;simp[bF,hE,iC]at h
 ·have hd:gJ pk σ=σ:=by unfold gJ;rw[an8 (λe=>by simp[aJ,hE]at e)]
  rw[hd]at h;simp[bF,hE]at h
theorem Dp(pk:Nat->Int)(l:List Int)(σ:St)(h:(bF pk l σ).1.E=0):σ.E=0/\l.contains (pk σ.a)=true/\bF pk l σ=({σ with a:=σ.a+1},pk σ.a):=by
 unfold bF at h ⊢;by_cases hE:σ.E=0
 ·rw[ao4 hE]at h ⊢;by_cases hc:l.contains (pk σ.a)=true
  ·rw[ao4 hc];exact⟨hE,hc,rfl⟩
  ·rw[an8 hc]at h;simp at h
 ·rw[an8 hE]at h;exact absurd h hE
theorem afW(pk:Nat->Int)(l:List Int)(σ:St)(h:(bF pk l σ).2≠0):(bF pk l σ).1.E=0/\(bF pk l σ).2=pk σ.a:=by
 unfold bF at h ⊢;by_cases hE:σ.E=0
 ·rw[ao4 hE]at h ⊢;by_cases hc:l.contains (pk σ.a)=true
  ·rw[ao4 hc];exact⟨hE,rfl⟩
  ·rw[an8 hc]at h;simp at h
 ·rw[an8 hE]at h;simp at h
structure kV(N:Nat)(σ:St):Prop where
 top:σ.a<=N
 d9:σ.d<=9
 d8:σ.E=0->σ.d<=8
 t:σ.T.length<=σ.a
 c:σ.C.length<=σ.a
theorem kV.fw{σ τ:St}(h:kV N σ)(f:Fw N σ τ)(hd:τ.d=σ.d):kV N τ:=
 ⟨f.top,by rw[hd];exact h.d9,λe=>by rw[hd];exact h.d8 (Decidable.byContradiction λbg=>f.dead bg e),by have:=h.t;have:=f.t;have:=f.le;omega,by have:=h.c;have:=f.c;have:=f.le;omega⟩
theorem kV.open(bY:∀a,pk a≠0->a<N){σ:St}(h:kV N σ)(h8:σ.d<=8):kV N (aG pk σ):=by
 have f:=jV bY h.top;refine⟨f.top,by rw[pF];omega,λe=>?_,by have:=h.t;have:=f.t;have:=f.le;omega,by have:=h.c;have:=f.c;have:=f.le;omega⟩;have:=nH pk σ e;rw[pF];omega
theorem RJ:letters.contains 0=false:=ane
theorem jU(bY:∀a,pk a≠0->a<N)(l:List UInt8):∀(n:Nat) (σ:St),σ.a<=N->Fw N σ (aN l pk n σ).1/\(aN l pk n σ).1.d=σ.d:=by
 intro n
 induction n with
 |zero=>intro σ h;exact⟨Fw.refl h,rfl⟩
 |succ n ih=>
  intro σ h;have f1:=kZ bY RJ h;have key:Fw N (bF pk letters σ).1 (Hy pk (λτ=>(aN l pk n τ).1) (bF pk letters σ).2 (bF pk letters σ).1)/\(Hy pk (λτ=>(aN l pk n τ).1) (bF pk letters σ).2 (bF pk letters σ).1).d=(bF pk letters σ).1.d:=by
   unfold Hy;split
   ·have g1:=jV bY f1.top;have g2:=ih _ g1.top;have g3:=mF bY g2.1.top;refine⟨(g1.trans g2.1).trans g3,?_⟩;rw[Ox];simp only[g2.2,pF];omega
   ·split
    ·have g1:=jV bY f1.top;have g2:=ih _ g1.top;have g3:=kZ bY (l:=[44]) (by rfl) g2.1.top;have g4:=ih _ g3.top;have g5:=mF bY g4.1.top;refine⟨(((g1.trans g2.1).trans g3).trans g4.1).trans g5,?_⟩;rw[Ox];simp only[g4.2,wY,g2.2,pF];omega
    ·exact⟨Fw.refl f1.top,rfl⟩
  unfold aN;generalize hτ:Hy pk (λτ=>(aN l pk n τ).1) (bF pk letters σ).2 (bF pk letters σ).1=τ at key;obtain⟨k1,k2⟩:=key;unfold iJ;by_cases hE:τ.E=0
  ·rw[ao4 hE];have hl:(bF pk letters σ).1.E=0:=Decidable.byContradiction λbg=>k1.dead bg hE;obtain⟨q1,q2,q3⟩:=Dp pk letters σ hl;rw[q3]at k1 k2;have:=gu τ.T (cut l σ.a τ.a);refine⟨⟨?_,?_,?_,?_,λe=>absurd q1 e⟩,by simpa using k2⟩
   ·have:=k1.le;simp at this ⊢;omega
   ·exact k1.top
   ·have a1:=k1.t;have a2:=k1.le;simp at a1 a2 ⊢;omega
   ·have a1:=k1.c;have a2:=k1.le;simp at a1 a2 ⊢;omega
  ·rw[an8 hE];exact⟨f1.trans k1,by rw[k2,wY]⟩
end
end au
end Go.Proofs.YthcppbmkacbbiabGreat
