import Derived.Test.YthcppbmkacbbiaaGreatRows
import Derived.Test.YthcppbmkacbbiaaGreatLawU
import Derived.ProofKit
import Derived.OpenShut
import Derived.ShutString
import Derived.ChangeOld
import Derived.Below
import Derived.Lib.SmallJoins
import Derived.Deep.Slices
namespace Go.Proofs.YthcppbmkacbbiaaGreat
open Go.ChangeShapes Go.WideShapes Go.ChangeAt Go.RowKit
open Go.ChangeMaps (open_string shut_string)

theorem ownK : ownKnob Tryz.prog.godebug = none := by kernel_rfl
theorem laidOutL : laidOutB Tryz.prog = true := by kernel_rfl
theorem cellsOp : Tryz.prog.cellsOf 48 = 4 := by kernel_rfl
theorem cellsIntL : Tryz.prog.cellsOf 3 = 1 := by kernel_rfl
theorem cellsStrL : Tryz.prog.cellsOf 9 = 1 := by kernel_rfl

/-- What the walk is told of a script: no step; or a row of steps. -/
def IsScript (w : World) (v : Value) : Prop :=
  (∃ ao cap, v = .slice ao 0 cap) ∨
  ∃ (b off len cap : Nat) (K Nn : Nat → Int) (S Tt : Nat → ByteArray), v = .slice (some ⟨b, off, none⟩) len cap ∧ b < w.heap.size ∧ len ≤ maxLen ∧
    ∀ i, i < len → (S i).size ≤ maxLen ∧ (Tt i).size ≤ maxLen ∧ w.cell? ⟨b, off + i * 4, none⟩ = some (.int .i64 (K i)) ∧ w.cell? ⟨b, off + i * 4 + 1, none⟩ = some (.int .i64 (Nn i)) ∧
      w.cell? ⟨b, off + i * 4 + 2, none⟩ = some (.string (S i)) ∧ w.cell? ⟨b, off + i * 4 + 3, none⟩ = some (.string (Tt i))

theorem open_op {H : Type} {enc : TypeId × Value → H} {w : World} {spare : Nat → Bool} {held : Bool} {n : Nat} {cs : List Value} {x : DataW H × List MemPlace} {a : Addr}
    (hc : w.cells? 0 a 4 = some cs) (h : DataW.trod enc Tryz.prog w 0 spare held n 48 cs = some x) :
    ∃ (k m : Int) (s t : ByteArray), s.size ≤ maxLen ∧ t.size ≤ maxLen ∧ w.cell? (a.add 0) = some (.int .i64 k) ∧ w.cell? (a.add 1) = some (.int .i64 m) ∧ w.cell? (a.add 2) = some (.string s) ∧ w.cell? (a.add 3) = some (.string t) := by
  obtain ⟨y0, y1, y2, y3, n', _, hl, h0, h1, h2, h3⟩ := Go.Joins.trod_struct4 Tryz.underlying48 h
  rw [cellsOp] at hl
  simp only [cellsIntL, cellsStrL] at h0 h1 h2 h3
  match cs, hl with
  | [c0, c1, c2, c3], _ =>
    obtain ⟨k, e0, _, _⟩ := DataW.trod_int Tryz.underlying3 h0
    obtain ⟨m, e1, _, _⟩ := DataW.trod_int Tryz.underlying3 h1
    obtain ⟨s, e2, _, hs⟩ := DataW.trod_string Tryz.underlying9 h2
    obtain ⟨t, e3, _, ht⟩ := DataW.trod_string Tryz.underlying9 h3
    simp at e0 e1 e2 e3
    subst e0 e1 e2 e3
    have hh := (World.cells?_some hc).2.2
    exact ⟨k, m, s, t, hs, ht, by simpa using hh 0 (by omega), by simpa using hh 1 (by omega), by simpa using hh 2 (by omega), by simpa using hh 3 (by omega)⟩

theorem add_none (b off i : Nat) : (⟨b, off, none⟩ : Addr).add i = ⟨b, off + i, none⟩ := by
  unfold Addr.add
  split
  · rename_i h; subst h; rfl
  · rfl

/-- A script that came in, opened. -/
theorem open_script {H : Type} {enc : TypeId × Value → H} {w : World} {ao : Option Addr} {len cap : Nat} {d : DataW H} {ps : List MemPlace} (h : DataW.Trod enc Tryz.prog w 0 (fun _ => true) true 22 (.slice ao len cap) d ps) :
    IsScript w (.slice ao len cap) := by
  by_cases h0 : len = 0
  · subst h0; exact Or.inl ⟨_, _, rfl⟩
  · obtain ⟨fuel, hf⟩ := h
    rcases Go.Deep.open_slice Tryz.underlying22 hf with ⟨hcs, _⟩ | ⟨a, len', cap', m, n, D, Pl, hcs, _, hl, hm, hmm, _, hx⟩
    · simp [Value.cells] at hcs
      exact absurd hcs.2.1 h0
    · simp [Value.cells] at hcs
      obtain ⟨rfl, rfl, rfl⟩ := hcs
      have hmc : m = cap := by simpa using hmm
      subst hmc
      rw [cellsOp] at hx
      have hall : ∀ i, i < len → ∃ (k q : Int) (s t : ByteArray), s.size ≤ maxLen ∧ t.size ≤ maxLen ∧ w.cell? ((a.add (i * 4)).add 0) = some (.int .i64 k) ∧ w.cell? ((a.add (i * 4)).add 1) = some (.int .i64 q) ∧ w.cell? ((a.add (i * 4)).add 2) = some (.string s) ∧ w.cell? ((a.add (i * 4)).add 3) = some (.string t) := fun i hi => by
        obtain ⟨cs', h1, h2⟩ := hx i (by omega)
        exact open_op h1 h2
      obtain ⟨b, off, spot⟩ := a
      obtain ⟨k0, q0, s0, t0, _, _, hc0, _⟩ := hall 0 (by omega)
      have hspot : spot = none := by simpa [Addr.add] using World.cell?_spot hc0
      subst hspot
      have hb : b < w.heap.size := by simpa [Addr.add] using World.block_lt_of_cell? w _ hc0
      simp only [add_none] at hall
      have hall' : ∀ i, ∃ (y : Int × Int × ByteArray × ByteArray), i < len → y.2.2.1.size ≤ maxLen ∧ y.2.2.2.size ≤ maxLen ∧ w.cell? ⟨b, off + i * 4, none⟩ = some (.int .i64 y.1) ∧ w.cell? ⟨b, off + i * 4 + 1, none⟩ = some (.int .i64 y.2.1) ∧
          w.cell? ⟨b, off + i * 4 + 2, none⟩ = some (.string y.2.2.1) ∧ w.cell? ⟨b, off + i * 4 + 3, none⟩ = some (.string y.2.2.2) := fun i => by
        by_cases hi : i < len
        · obtain ⟨k, q, s, t, g1, g2, g3, g4, g5, g6⟩ := hall i hi
          exact ⟨(k, q, s, t), fun _ => ⟨g1, g2, by simpa using g3, by simpa using g4, by simpa using g5, by simpa using g6⟩⟩
        · exact ⟨(0, 0, ByteArray.empty, ByteArray.empty), fun h => absurd h hi⟩
      exact Or.inr ⟨b, off, len, _, fun i => (hall' i).choose.1, fun i => (hall' i).choose.2.1, fun i => (hall' i).choose.2.2.1, fun i => (hall' i).choose.2.2.2, rfl, hb, by omega, fun i hi => (hall' i).choose_spec hi⟩

theorem upTo_any (lo hi : Int) (hp : PlaysT lo hi) (w : World) (v : Value) (h : IsScript w v) :
    Calls Tryz.prog 15 #[v, .int .i64 lo, .int .i64 hi] w fun e w' => e = .returned (.int .i64 (-1)) ∧ Below w.heap.size w w' := by
  rcases h with ⟨ao, cap, rfl⟩ | ⟨b, off, len, cap, K, Nn, S, Tt, rfl, hb, hm, hx⟩
  · exact upTo_none lo hi w ao cap
  · exact upTo_some lo hi hp w b off len cap K Nn S Tt hb (by unfold maxLen at hm; omega) (fun i h => (hx i h).1) (fun i h => (hx i h).2.1) (fun i h => (hx i h).2.2.1) (fun i h => (hx i h).2.2.2.1) (fun i h => (hx i h).2.2.2.2.1) (fun i h => (hx i h).2.2.2.2.2)

end Go.Proofs.YthcppbmkacbbiaaGreat
