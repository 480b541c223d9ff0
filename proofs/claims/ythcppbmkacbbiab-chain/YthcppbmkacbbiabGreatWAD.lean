import Derived.Test.YthcppbmkacbbiabGreatWAB
import Derived.BigQuiet
import Derived.Deep.QuietTactic
set_option linter.unusedSimpArgs false
set_option maxHeartbeats 400000
namespace Go.Proofs.YthcppbmkacbbiabGreat
open Go.Proofs.Tryz
open Go.RowKit Go.Maps Go.WideMaps
open aB (Key put)
def pk(s:ByteArray)(a:Nat):Int:=if h:a<s.size then(s[a].toNat:Int)else 0
theorem bJ{s:ByteArray}{a:Nat}(h:pk s a≠0):a<s.size:=by
 unfold pk at h;split at h
 ·assumption
 ·exact absurd rfl h
theorem Vq(s:ByteArray)(a:Nat):0<=pk s a/\pk s a<=255:=by
 unfold pk;split
 ·have:=UInt8.toNat_lt s[a];omega
 ·omega
structure CI(w:World)(B BT BC BP:Nat)(s:ByteArray)(a d:Nat)(ts:List Key)(cs:List (Int×Nat))(ps:List Key):Prop where
 c0:w.cell? ⟨B,0,none⟩=some (.string s)
 c1:w.cell? ⟨B,1,none⟩=some (.int .i64 a)
 c2:w.cell? ⟨B,2,none⟩=some (.int .i64 d)
 c3:w.cell? ⟨B,3,none⟩=some (.int .i64 0)
 c4:w.cell? ⟨B,4,none⟩=some (.map (some BT))
 c5:w.cell? ⟨B,5,none⟩=some (.map (some BC))
 c6:w.cell? ⟨B,6,none⟩=some (.map (some BP))
 f1:w.frozen? ⟨B,1,none⟩=false
 f2:w.frozen? ⟨B,2,none⟩=false
 f3:w.frozen? ⟨B,3,none⟩=false
 mt:aH w 76 BT aS ts
 mc:aH w 79 BC iT cs
 mp:aH w 82 BP aS ps
 nT:B≠BT
 nC:B≠BC
 nn:BT≠BC
 nP:B≠BP
 Py:BT≠BP
 Pz:BC≠BP
structure Kp(B BT BC BP:Nat)(w w':World):Prop where
 os:w'.os=w.os
 tape:w'.tape=w.tape
 output:w'.output=w.output
 size:w.heap.size<=w'.heap.size
 block:∀k,k<w.heap.size->k≠B->k≠BT->k≠BC->k≠BP->w'.heap[k]?=w.heap[k]?
theorem Kp.trans{B BT BC BP:Nat}{a b c:World}(h:Kp B BT BC BP a b)(k:Kp B BT BC BP b c):Kp B BT BC BP a c:=
 ⟨k.os.trans h.os,k.tape.trans h.tape,k.output.trans h.output,af7 h.size k.size,λi hi h1 h2 h3 h4=>(k.block i (af5 hi h.size) h1 h2 h3 h4).trans (h.block i hi h1 h2 h3 h4)⟩
theorem Kp.drewN(B BT BC BP:Nat)(w:World)(n:Nat):Kp B BT BC BP w (w.drewN n):=⟨rfl,rfl,rfl,ad5 _,λ_ _ _ _ _ _=>rfl⟩
theorem Kp.setCell(B BT BC BP:Nat)(w:World)(i:Nat)(v:Value):Kp B BT BC BP w (w.setCell ⟨B,i,none⟩ v):=
 ⟨rfl,rfl,rfl,by simp[World.setCell],λk _ h1 _ _ _=>Below.heap_setCell _ _ _ _ h1⟩
theorem Kp.alloc(B BT BC BP:Nat)(w:World)(o:Obj):Kp B BT BC BP w (w.alloc o):=⟨rfl,rfl,rfl,by simp,λk hk _ _ _ _=>Below.heap_alloc _ _ _ hk⟩
theorem Kp.rQ{B BT BC BP:Nat}{w w':World}(h:w.grownBy w' (some BT)):Kp B BT BC BP w w':=⟨h.os,h.tape,h.output,h.size,λk hk _ h2 _ _=>h.block k hk (by simp[h2])⟩
theorem Kp.Xy{B BT BC BP:Nat}{w w':World}(h:w.grownBy w' (some BC)):Kp B BT BC BP w w':=⟨h.os,h.tape,h.output,h.size,λk hk _ _ h3 _=>h.block k hk (by simp[h3])⟩
theorem Kp.zf{B BT BC BP:Nat}{w w':World}(h:w.grownBy w' (some BP)):Kp B BT BC BP w w':=⟨h.os,h.tape,h.output,h.size,λk hk _ _ _ h4=>h.block k hk (by simp[h4])⟩
theorem Kp.bg{B BT BC BP:Nat}{w w':World}(h:Kp B BT BC BP w w'){X:Nat}(hX:w.heap.size<=X)(i:Nat)(v:Value):Kp B BT BC BP w (w'.setCell ⟨X,i,none⟩ v):=
 ⟨h.os,h.tape,h.output,by have:=h.size;simpa[World.setCell]using this,λk hk h1 h2 h3 h4=>(Below.heap_setCell _ _ _ _ (show k≠X by omega)).trans (h.block k hk h1 h2 h3 h4)⟩
theorem Kp.below{B BT BC BP base:Nat}{w w':World}(h:Kp B BT BC BP w w')(h0:base<=w.heap.size)(h1:base<=B)(h2:base<=BT)(h3:base<=BC)(h4:base<=BP):Below base w w':=
 ⟨h.os,h.tape,h.output,h.size,λk hk=>h.block k (by omega) (by omega) (by omega) (by omega) (by omega)⟩
theorem Kp.cell{B BT BC BP:Nat}{w w':World}(h:Kp B BT BC BP w w'){X i:Nat}(hX:X<w.heap.size)(h1:X≠B)(h2:X≠BT)(h3:X≠BC)(h4:X≠BP):w'.cell? ⟨X,i,none⟩=w.cell? ⟨X,i,none⟩:=World.cell?_of_block (h.block X hX h1 h2 h3 h4)
theorem Kp.frozen{B BT BC BP:Nat}{w w':World}(h:Kp B BT BC BP w w'){X i:Nat}(hX:X<w.heap.size)(h1:X≠B)(h2:X≠BT)(h3:X≠BC)(h4:X≠BP):w'.frozen? ⟨X,i,none⟩=w.frozen? ⟨X,i,none⟩:=World.frozen?_of_block (h.block X hX h1 h2 h3 h4)
structure Bad(w:World)(B p:Nat)(E:Int):Prop where
 c1:w.cell? ⟨B,1,none⟩=some (.int .i64 p)
 c3:w.cell? ⟨B,3,none⟩=some (.int .i64 E)
section
variable {w:World} {B BT BC BP:Nat} {s:ByteArray} {a d:Nat} {ts:List Key} {cs:List (Int×Nat)} {ps:List Key}
theorem CI.drewN(h:CI w B BT BC BP s a d ts cs ps)(n:Nat):CI (w.drewN n) B BT BC BP s a d ts cs ps:=
 ⟨h.c0,h.c1,h.c2,h.c3,h.c4,h.c5,h.c6,h.f1,h.f2,h.f3,h.mt.kept rfl,h.mc.kept rfl,h.mp.kept rfl,h.nT,h.nC,h.nn,h.nP,h.Py,h.Pz⟩
theorem CI.lt(h:CI w B BT BC BP s a d ts cs ps):B<w.heap.size:=World.block_lt_of_cell? w _ h.c0
theorem aY(w:World)(B:Nat){i j:Nat}(v:Value)(h:i≠j):(w.setCell ⟨B,i,none⟩ v).cell? ⟨B,j,none⟩=w.cell? ⟨B,j,none⟩:=by
 apply World.cell?_setCell_other;intro e;injection e with _ e _;exact h e
theorem dB{w:World}{B i:Nat}{u:Value}(v:Value)(h:w.cell? ⟨B,i,none⟩=some u):(w.setCell ⟨B,i,none⟩ v).cell? ⟨B,i,none⟩=some v:=by
 apply World.cell?_setCell_same;exact h
theorem CI.set1(h:CI w B BT BC BP s a d ts cs ps){v:Int}{a':Nat}(hv:v=a'):CI (w.setCell ⟨B,1,none⟩ (.int .i64 v)) B BT BC BP s a' d ts cs ps:=by
 subst hv;refine⟨?_,dB _ h.c1,?_,?_,?_,?_,?_,?_,?_,?_,h.mt.kept ?_,h.mc.kept ?_,h.mp.kept ?_,h.nT,h.nC,h.nn,h.nP,h.Py,h.Pz⟩
 ·rw[aY _ _ _ (by omega)];exact h.c0
 ·rw[aY _ _ _ (by omega)];exact h.c2
 ·rw[aY _ _ _ (by omega)];exact h.c3
 ·rw[aY _ _ _ (by omega)];exact h.c4
 ·rw[aY _ _ _ (by omega)];exact h.c5
 ·rw[aY _ _ _ (by omega)];exact h.c6
 ·rw[World.frozen?_setCell];exact h.f1
 ·rw[World.frozen?_setCell];exact h.f2
 ·rw[World.frozen?_setCell];exact h.f3
 ·exact Below.heap_setCell _ _ _ _ (ap1 h.nT)
 ·exact Below.heap_setCell _ _ _ _ (ap1 h.nC)
 ·exact Below.heap_setCell _ _ _ _ (ap1 h.nP)
theorem CI.set2(h:CI w B BT BC BP s a d ts cs ps){v:Int}{d':Nat}(hv:v=d'):CI (w.setCell ⟨B,2,none⟩ (.int .i64 v)) B BT BC BP s a d' ts cs ps:=by
 subst hv;refine⟨?_,?_,dB _ h.c2,?_,?_,?_,?_,?_,?_,?_,h.mt.kept ?_,h.mc.kept ?_,h.mp.kept ?_,h.nT,h.nC,h.nn,h.nP,h.Py,h.Pz⟩
 ·rw[aY _ _ _ (by omega)];exact h.c0
 ·rw[aY _ _ _ (by omega)];exact h.c1
 ·rw[aY _ _ _ (by omega)];exact h.c3
 ·rw[aY _ _ _ (by omega)];exact h.c4
 ·rw[aY _ _ _ (by omega)];exact h.c5
 ·rw[aY _ _ _ (by omega)];exact h.c6
 ·rw[World.frozen?_setCell];exact h.f1
 ·rw[World.frozen?_setCell];exact h.f2
 ·rw[World.frozen?_setCell];exact h.f3
 ·exact Below.heap_setCell _ _ _ _ (ap1 h.nT)
 ·exact Below.heap_setCell _ _ _ _ (ap1 h.nC)
 ·exact Below.heap_setCell _ _ _ _ (ap1 h.nP)
theorem CI.bad(h:CI w B BT BC BP s a d ts cs ps)(E:Int):Bad (w.setCell ⟨B,3,none⟩ (.int .i64 E)) B a E:=
 ⟨by rw[aY _ _ _ (by omega)];exact h.c1,dB _ h.c3⟩
theorem aH.grown{α:Type}[BEq α]{w w':World}{k b r:Nat}{kv:α->Value}{l:List α}(h:aH w k b kv l)(hg:w.grownBy w' (some r))(hne:b≠r):aH w' k b kv l:=
 h.kept (hg.block b h.lt (by simp[hne]))
theorem CI.Hz(h:CI w B BT BC BP s a d ts cs ps){w':World}{ts':List Key}(hm:aH w' 76 BT aS ts')(hg:w.grownBy w' (some BT)):CI w' B BT BC BP s a d ts' cs ps:=by
 have hlt:=h.lt;have hb:∀i,w'.cell? ⟨B,i,none⟩=w.cell? ⟨B,i,none⟩:=λi=>World.cell?_of_block (hg.block B hlt (by simp[h.nT]));have hf:∀i,w'.frozen? ⟨B,i,none⟩=w.frozen? ⟨B,i,none⟩:=λi=>World.frozen?_of_block (hg.block B hlt (by simp[h.nT]));exact⟨(hb _).trans h.c0,(hb _).trans h.c1,(hb _).trans h.c2,(hb _).trans h.c3,(hb _).trans h.c4,(hb _).trans h.c5,(hb _).trans h.c6,(hf _).trans h.f1,(hf _).trans h.f2,(hf _).trans h.f3,hm,h.mc.grown hg (ap1 h.nn),h.mp.grown hg (ap1 h.Py),
  h.nT,h.nC,h.nn,h.nP,h.Py,h.Pz⟩
theorem CI.aau(h:CI w B BT BC BP s a d ts cs ps){w':World}{cs':List (Int×Nat)}(hm:aH w' 79 BC iT cs')(hg:w.grownBy w' (some BC)):CI w' B BT BC BP s a d ts cs' ps:=by
 have hlt:=h.lt;have hb:∀i,w'.cell? ⟨B,i,none⟩=w.cell? ⟨B,i,none⟩:=λi=>World.cell?_of_block (hg.block B hlt (by simp[h.nC]));have hf:∀i,w'.frozen? ⟨B,i,none⟩=w.frozen? ⟨B,i,none⟩:=λi=>World.frozen?_of_block (hg.block B hlt (by simp[h.nC]));exact⟨(hb _).trans h.c0,(hb _).trans h.c1,(hb _).trans h.c2,(hb _).trans h.c3,(hb _).trans h.c4,(hb _).trans h.c5,(hb _).trans h.c6,(hf _).trans h.f1,(hf _).trans h.f2,(hf _).trans h.f3,h.mt.grown hg h.nn,hm,h.mp.grown hg (ap1 h.Pz),
  h.nT,h.nC,h.nn,h.nP,h.Py,h.Pz⟩
theorem CI.Pm(h:CI w B BT BC BP s a d ts cs ps){w':World}{ps':List Key}(hm:aH w' 82 BP aS ps')(hg:w.grownBy w' (some BP)):CI w' B BT BC BP s a d ts cs ps':=by
 have hlt:=h.lt;have hb:∀i,w'.cell? ⟨B,i,none⟩=w.cell? ⟨B,i,none⟩:=λi=>World.cell?_of_block (hg.block B hlt (by simp[h.nP]));have hf:∀i,w'.frozen? ⟨B,i,none⟩=w.frozen? ⟨B,i,none⟩:=λi=>World.frozen?_of_block (hg.block B hlt (by simp[h.nP]));exact⟨(hb _).trans h.c0,(hb _).trans h.c1,(hb _).trans h.c2,(hb _).trans h.c3,(hb _).trans h.c4,(hb _).trans h.c5,(hb _).trans h.c6,(hf _).trans h.f1,(hf _).trans h.f2,(hf _).trans h.f3,h.mt.grown hg h.Py,h.mc.grown hg h.Pz,hm,
  h.nT,h.nC,h.nn,h.nP,h.Py,h.Pz⟩
theorem CI.alloc(h:CI w B BT BC BP s a d ts cs ps)(o:Obj):CI (w.alloc o) B BT BC BP s a d ts cs ps:=by
 have hlt:=h.lt;have hg:w.grownBy (w.alloc o) none:=World.grownBy_alloc _ _ _;have hb:∀i,(w.alloc o).cell? ⟨B,i,none⟩=w.cell? ⟨B,i,none⟩:=λi=>World.cell?_of_block (hg.block B hlt (by simp));have hf:∀i,(w.alloc o).frozen? ⟨B,i,none⟩=w.frozen? ⟨B,i,none⟩:=λi=>World.frozen?_of_block (hg.block B hlt (by simp));exact⟨(hb _).trans h.c0,(hb _).trans h.c1,(hb _).trans h.c2,(hb _).trans h.c3,(hb _).trans h.c4,(hb _).trans h.c5,(hb _).trans h.c6,(hf _).trans h.f1,(hf _).trans h.f2,(hf _).trans h.f3,
  h.mt.kept (hg.block BT h.mt.lt (by simp)),h.mc.kept (hg.block BC h.mc.lt (by simp)),h.mp.kept (hg.block BP h.mp.lt (by simp)),
  h.nT,h.nC,h.nn,h.nP,h.Py,h.Pz⟩
end
theorem O1(B:Nat)(s:ByteArray)(a:Nat)(w:World)(_hs:s.size<=100)(ha:a<=s.size)
 (c0:w.cell? ⟨B,0,none⟩=some (.string s))(c1:w.cell? ⟨B,1,none⟩=some (.int .i64 a)) :
  Calls prog 46 #[.pointer (some ⟨B,0,none⟩)] w λe w'=>e=.returned (.int .u8 (pk s a))/\∃n,w'=w.drewN n:=by
 by_cases hlt:a<s.size
 ·have hb:((a:Int)==(s.size:Int))=false:=an9.2 (by omega)
  go_enter func46,ntmps46
  go_wp2
  go_quiet (fail)
  go_wp2
  go_quiet (fail)
  go_wp2
  go_ret
  exact⟨gQ (by unfold pk;rw[dif_pos hlt]),_,World.drewN_drewN _ _ _⟩
 ·have hb:((a:Int)==(s.size:Int))=true:=beq_iff_eq.2 (by omega)
  go_enter func46,ntmps46
  go_wp2
  go_quiet (fail)
  go_wp2
  go_ret
  exact⟨gQ (by unfold pk;rw[dif_neg hlt]),_,rfl⟩
section
variable (w:World) (B BT BC BP:Nat) (s:ByteArray) (a d:Nat) (ts:List Key) (cs:List (Int×Nat)) (ps:List Key)
theorem aW(hs:s.size<=100)(ha:a<=s.size)(h:CI w B BT BC BP s a d ts cs ps) :
  Calls prog 46 #[.pointer (some ⟨B,0,none⟩)] w λe w'=>e=.returned (.int .u8 (pk s a))/\CI w' B BT BC BP s a d ts cs ps/\Kp B BT BC BP w w':=by
 refine(O1 B s a w hs ha h.c0 h.c1).mono ?_;rintro e w' ⟨rfl,n,rfl⟩;exact⟨rfl,h.drewN n,Kp.drewN _ _ _ _ _ _⟩
theorem G8(E:Int)(c3:w.cell? ⟨B,3,none⟩=some (.int .i64 0))(f3:w.frozen? ⟨B,3,none⟩=false) :
  Calls prog 51 #[.pointer (some ⟨B,0,none⟩),.int .i64 E] w λe w'=>e=.returned (.bool false)/\w'=w.setCell ⟨B,3,none⟩ (.int .i64 E):=by
 go_enter func51,ntmps51
 go_wp2
 go_ret
 exact⟨rfl,rfl⟩
theorem lT(E:Int)(h:CI w B BT BC BP s a d ts cs ps) :
  Calls prog 51 #[.pointer (some ⟨B,0,none⟩),.int .i64 E] w λe w'=>e=.returned (.bool false)/\Bad w' B a E/\Kp B BT BC BP w w':=by
 refine(G8 w B E h.c3 h.f3).mono ?_;rintro e w' ⟨rfl,rfl⟩;exact⟨rfl,h.bad E,Kp.setCell _ _ _ _ _ _ _⟩
theorem jZ(c:Int)(hs:s.size<=100)(ha:a<s.size)(hc:pk s a=c)(h:CI w B BT BC BP s a d ts cs ps) :
  Calls prog 97 #[.pointer (some ⟨B,0,none⟩),.int .u8 c] w λe w'=>e=.returned (.bool true)/\CI w' B BT BC BP s (a+1) d ts cs ps/\Kp B BT BC BP w w':=by
 subst hc;generalize hp:pk s a=p;have HP:=aj hp;clear hp;have hb:(p != p)=false:=by simp
 go_enter func97,ntmps97
 go_wp2_with fail
 refine(aW w B BT BC BP s a d ts cs ps hs (by omega) h).mono ?_;rw[ah HP];rintro e w1 ⟨rfl,h1,k1⟩;have c1:=h1.c1;have f1:=h1.f1
 go_wp2_with fail
 go_ret
 exact⟨rfl,h1.set1 (by omega),k1.trans (Kp.setCell _ _ _ _ _ _ _)⟩
theorem xu(c:Int)(hs:s.size<=100)(ha:a<=s.size)(hc:pk s a≠c)(h:CI w B BT BC BP s a d ts cs ps) :
  Calls prog 97 #[.pointer (some ⟨B,0,none⟩),.int .u8 c] w λe w'=>e=.returned (.bool false)/\Bad w' B a 2/\Kp B BT BC BP w w':=by
 generalize hp:pk s a=p at hc;have HP:=aj hp;clear hp;have hb:(p != c)=true:=by simpa using hc
 go_enter func97,ntmps97
 go_wp2_with fail
 refine(aW w B BT BC BP s a d ts cs ps hs ha h).mono ?_;rw[ah HP];rintro e w1 ⟨rfl,h1,k1⟩
 go_wp2_with fail
 refine(lT w1 B BT BC BP s a d ts cs ps 2 h1).mono ?_;rintro e w2 ⟨rfl,h2,k2⟩
 go_wp2_with fail
 go_ret
 exact⟨rfl,h2,k1.trans k2⟩
theorem lX(hs:s.size<=100)(ha:a<=s.size)(hd:d<=8)(hc:pk s a≠40)(h:CI w B BT BC BP s a d ts cs ps) :
  Calls prog 91 #[.pointer (some ⟨B,0,none⟩)] w λe w'=>e=.returned (.bool false)/\Bad w' B a 2/\Kp B BT BC BP w w':=by
 generalize hp:pk s a=p at hc;have HP:=aj hp;clear hp;have hb:(p==40)=false:=by simpa using hc
 go_enter func91,ntmps91
 go_wp2_with fail
 refine(aW w B BT BC BP s a d ts cs ps hs ha h).mono ?_;rw[ah HP];rintro e w1 ⟨rfl,h1,k1⟩;have c2:=h1.c2;have f2:=h1.f2
 go_wp2_with fail
 have h2:=h1.set2 (v:=(d:Int)+1) (d':=d+1) (by omega);refine(xu _ B BT BC BP s a (d+1) ts cs ps 40 hs ha (by rw[ah HP];exact hc) h2).mono ?_;rintro e w2 ⟨rfl,h3,k3⟩
 go_wp2_with fail
 go_ret
 exact⟨rfl,h3,(k1.trans (Kp.setCell _ _ _ _ _ _ _)).trans k3⟩
theorem iY(hs:s.size<=100)(ha:a<=s.size)(hd:d=8)(hc:pk s a=40)(h:CI w B BT BC BP s a d ts cs ps) :
  Calls prog 91 #[.pointer (some ⟨B,0,none⟩)] w λe w'=>e=.returned (.bool false)/\Bad w' B a 3/\Kp B BT BC BP w w':=by
 subst hd;have HP:=aj hc;clear hc
 go_enter func91,ntmps91
 go_wp2_with fail
 refine(aW w B BT BC BP s a 8 ts cs ps hs ha h).mono ?_;rw[ah HP];rintro e w1 ⟨rfl,h1,k1⟩;have c2:=h1.c2
 go_wp2_with fail
 refine(lT w1 B BT BC BP s a 8 ts cs ps 3 h1).mono ?_;rintro e w2 ⟨rfl,h2,k2⟩
 go_wp2_with fail
 go_ret
 exact⟨rfl,h2,k1.trans k2⟩
theorem dF(hs:s.size<=100)(ha:a<s.size)(hd:d<8)(hc:pk s a=40)(h:CI w B BT BC BP s a d ts cs ps) :
  Calls prog 91 #[.pointer (some ⟨B,0,none⟩)] w λe w'=>e=.returned (.bool true)/\CI w' B BT BC BP s (a+1) (d+1) ts cs ps/\Kp B BT BC BP w w':=by
 have HP:=aj hc;clear hc;have hb:((d:Int)==8)=false:=an9.2 (by omega)
 go_enter func91,ntmps91
 go_wp2_with fail
 refine(aW w B BT BC BP s a d ts cs ps hs (by omega) h).mono ?_;rw[ah HP];rintro e w1 ⟨rfl,h1,k1⟩;have c2:=h1.c2;have f2:=h1.f2
 go_wp2_with fail
 have h2:=h1.set2 (v:=(d:Int)+1) (d':=d+1) (by omega);refine(jZ _ B BT BC BP s a (d+1) ts cs ps 40 hs ha (ah HP) h2).mono ?_;rintro e w2 ⟨rfl,h3,k3⟩
 go_wp2_with fail
 go_ret
 exact⟨rfl,h3,(k1.trans (Kp.setCell _ _ _ _ _ _ _)).trans k3⟩
theorem ku(hs:s.size<=100)(ha:a<s.size)(hd:d<=8)(hc:pk s a=41)(h:CI w B BT BC BP s a (d+1) ts cs ps) :
  Calls prog 93 #[.pointer (some ⟨B,0,none⟩)] w λe w'=>e=.returned (.bool true)/\CI w' B BT BC BP s (a+1) d ts cs ps/\Kp B BT BC BP w w':=by
 have HP:=aj hc;clear hc;have c2:=h.c2;have f2:=h.f2
 go_enter func93,ntmps93
 go_wp2_with fail
 refine(jZ _ B BT BC BP s a d ts cs ps 41 hs ha (ah HP) (h.set2 (by omega))).mono ?_;rintro e w2 ⟨rfl,h3,k3⟩
 go_wp2_with fail
 go_ret
 exact⟨rfl,h3,(Kp.setCell _ _ _ _ _ _ _).trans k3⟩
theorem mY(hs:s.size<=100)(ha:a<=s.size)(hd:d<=8)(hc:pk s a≠41)(h:CI w B BT BC BP s a (d+1) ts cs ps) :
  Calls prog 93 #[.pointer (some ⟨B,0,none⟩)] w λe w'=>e=.returned (.bool false)/\Bad w' B a 2/\Kp B BT BC BP w w':=by
 have HP:=aj hc;clear hc;have c2:=h.c2;have f2:=h.f2
 go_enter func93,ntmps93
 go_wp2_with fail
 refine(xu _ B BT BC BP s a d ts cs ps 41 hs ha (ah HP) (h.set2 (by omega))).mono ?_;rintro e w2 ⟨rfl,h3,k3⟩
 go_wp2_with fail
 go_ret
 exact⟨rfl,h3,(Kp.setCell _ _ _ _ _ _ _).trans k3⟩
theorem uZ(hs:s.size<=100)(ha:a<s.size)(hc:aB.au (pk s a)=true)(h:CI w B BT BC BP s a d ts cs ps) :
  Calls prog 92 #[.pointer (some ⟨B,0,none⟩)] w λe w'=>e=.returned (.bool true)/\CI w' B BT BC BP s (a+1) d ts cs ps/\Kp B BT BC BP w w':=by
 have hc':pk s a=38\/pk s a=124\/pk s a=62\/pk s a=45:=by
  simp[aB.au]at hc;omega
 clear hc;have HC:=aj hc';clear hc'
 go_enter func92,ntmps92
 go_wp2_with fail
 refine(aW w B BT BC BP s a d ts cs ps hs (by omega) h).mono ?_;rintro e w1 ⟨rfl,h1,k1⟩;have c1:=h1.c1;have f1:=h1.f1;rcases ah HC with hp|hp|hp|hp
 all_goals
  rw[hp];clear hp HC
  go_wp2_with fail
  go_ret
  exact⟨rfl,h1.set1 (by omega),k1.trans (Kp.setCell _ _ _ _ _ _ _)⟩
theorem P6(hs:s.size<=100)(ha:a<=s.size)(hc:aB.au (pk s a)=false)(h:CI w B BT BC BP s a d ts cs ps) :
  Calls prog 92 #[.pointer (some ⟨B,0,none⟩)] w λe w'=>e=.returned (.bool false)/\Bad w' B a 2/\Kp B BT BC BP w w':=by
 generalize hp:pk s a=p at hc;have HP:=aj hp;clear hp;have hc':((p==38)=false/\(p==124)=false)/\(p==62)=false/\(p==45)=false:=by
  simp[aB.au]at hc;simp;omega
 obtain⟨⟨b1,b2⟩,b3,b4⟩:=hc';clear hc
 go_enter func92,ntmps92
 go_wp2_with fail
 refine(aW w B BT BC BP s a d ts cs ps hs ha h).mono ?_;rw[ah HP];rintro e w1 ⟨rfl,h1,k1⟩
 go_wp2_with fail
 refine(lT w1 B BT BC BP s a d ts cs ps 2 h1).mono ?_;rintro e w2 ⟨rfl,h2,k2⟩
 go_wp2_with fail
 go_ret
 exact⟨rfl,h2,k1.trans k2⟩
theorem Ku(ha:a=s.size)(h:CI w B BT BC BP s a d ts cs ps) :
  Calls prog 25 #[.pointer (some ⟨B,0,none⟩)] w λe w'=>e=.returned (.bool true)/\CI w' B BT BC BP s a d ts cs ps/\Kp B BT BC BP w w':=by
 have c0:=h.c0;have c1:=h.c1;have hb:decide ((a:Int)<(s.size:Int))=false:=by simp;omega
 have hb':¬(a:Int)<(s.size:Int):=by omega
 have HA:=aj ha;clear ha
 go_enter func25,ntmps25
 go_wp2_with fail
 go_quiet (fail)
 go_wp2_with fail
 go_ret
 exact⟨rfl,h.drewN _,Kp.drewN _ _ _ _ _ _⟩
theorem XD(ha:a<s.size)(h:CI w B BT BC BP s a d ts cs ps) :
  Calls prog 25 #[.pointer (some ⟨B,0,none⟩)] w λe w'=>e=.returned (.bool false)/\Bad w' B a 2/\Kp B BT BC BP w w':=by
 have c0:=h.c0;have c1:=h.c1;have hb':(a:Int)<(s.size:Int):=by omega
 go_enter func25,ntmps25
 go_wp2_with fail
 go_quiet (fail)
 go_wp2_with fail
 refine(lT _ B BT BC BP s a d ts cs ps 2 (h.drewN _)).mono ?_;rintro e w2 ⟨rfl,h2,k2⟩
 go_wp2_with fail
 go_ret
 exact⟨rfl,h2,(Kp.drewN _ _ _ _ _ _).trans k2⟩
end
end Go.Proofs.YthcppbmkacbbiabGreat
