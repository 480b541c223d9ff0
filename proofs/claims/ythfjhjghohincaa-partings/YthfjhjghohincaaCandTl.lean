import Derived.Test.YthfjhjghohincaaCandT
import Derived.Deep.RegionWith
namespace Go.Proofs.Ythfjhjghohincaa
open Go.RowKit Go.Maps Go.WideMaps
open Rdg (Key put RT RT2 RF)

theorem numT_int (BT : Nat) (ts : List Key) (c xi yi : Int) (x y : Nat) (w : World) (hx : xi = x) (hy : yi = y) (h1 : 0 ≤ c ∧ c ≤ 255) (h2 : x ≤ 1000) (h3 : y ≤ 1000) (hl : ts.length ≤ 1000) (hM : MapIs w 97 BT kvT ts) :
    Calls Try.prog 61 #[.map (some BT), .agg #[.int .u8 c, .int .i64 xi, .int .i64 yi]] w fun e w' =>
      e = .returned (.int .i64 (ts.idxOf (c, x, y))) ∧ MapIs w' 97 BT kvT (put ts (c, x, y)) ∧ w.grownBy w' (some BT) := by
  subst hx
  subst hy
  exact numT_any BT ts c x y w h1 h2 h3 hl hM

theorem CI.setNew {w : World} {B BT BC : Nat} {s : ByteArray} {a d : Nat} {ts : List Key} {cs : List (Int × Nat)} (h : CI w B BT BC s a d ts cs) {X : Nat} (h1 : X ≠ B) (h2 : X ≠ BT) (h3 : X ≠ BC) (i : Nat) (v : Value) :
    CI (w.setCell ⟨X, i, none⟩ v) B BT BC s a d ts cs := by
  have hb : ∀ j, (w.setCell ⟨X, i, none⟩ v).cell? ⟨B, j, none⟩ = w.cell? ⟨B, j, none⟩ := fun j => World.cell?_of_block (Below.heap_setCell _ _ _ _ (Ne.symm h1))
  have hf : ∀ j, (w.setCell ⟨X, i, none⟩ v).frozen? ⟨B, j, none⟩ = w.frozen? ⟨B, j, none⟩ := fun j => World.frozen?_of_block (Below.heap_setCell _ _ _ _ (Ne.symm h1))
  exact ⟨(hb _).trans h.c0, (hb _).trans h.c1, (hb _).trans h.c2, (hb _).trans h.c3, (hb _).trans h.c4, (hb _).trans h.c5, (hf _).trans h.f1, (hf _).trans h.f2, (hf _).trans h.f3,
    h.mt.kept (Below.heap_setCell _ _ _ _ (Ne.symm h2)), h.mc.kept (Below.heap_setCell _ _ _ _ (Ne.symm h3)), h.nT, h.nC, h.nn⟩

theorem Bad.setNew {w : World} {B p : Nat} {E : Int} (h : Bad w B p E) {X : Nat} (h1 : X ≠ B) (i : Nat) (v : Value) : Bad (w.setCell ⟨X, i, none⟩ v) B p E :=
  ⟨(World.cell?_of_block (Below.heap_setCell _ _ _ _ (Ne.symm h1))).trans h.c1, (World.cell?_of_block (Below.heap_setCell _ _ _ _ (Ne.symm h1))).trans h.c3⟩

theorem fresh_cell {w1 w2 : World} {B BT BC T : Nat} {v : Value} {xs : Array Value} (k : Kp B BT BC ((w1.setCell ⟨B, 1, none⟩ v).alloc (.cells xs T)) w2) (hB : B < w1.heap.size) (hT : BT < w1.heap.size) (hC : BC < w1.heap.size) (i : Nat) :
    w2.cell? ⟨w1.heap.size, i, none⟩ = xs[i]? := by
  have hsz1 : w1.heap.size = (w1.setCell ⟨B, 1, none⟩ v).heap.size := by simp [World.setCell]
  rw [k.cell (by simp [World.setCell]) (by omega) (by omega) (by omega)]
  exact World.cell?_alloc_at _ _ _ _ hsz1
theorem fresh_frozen {w1 w2 : World} {B BT BC T : Nat} {v : Value} {xs : Array Value} (k : Kp B BT BC ((w1.setCell ⟨B, 1, none⟩ v).alloc (.cells xs T)) w2) (hB : B < w1.heap.size) (hT : BT < w1.heap.size) (hC : BC < w1.heap.size) (i : Nat) :
    w2.frozen? ⟨w1.heap.size, i, none⟩ = false := by
  have hsz1 : w1.heap.size = (w1.setCell ⟨B, 1, none⟩ v).heap.size := by simp [World.setCell]
  rw [k.frozen (by simp [World.setCell]) (by omega) (by omega) (by omega)]
  exact World.frozen?_alloc_at _ _ _ _ hsz1

end Go.Proofs.Ythfjhjghohincaa
