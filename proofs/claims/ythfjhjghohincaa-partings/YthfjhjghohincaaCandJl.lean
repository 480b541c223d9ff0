import Derived.Test.YthfjhjghohincaaCandI
namespace Go.Proofs.Ythfjhjghohincaa
open Go.RowKit Go.Maps Go.WideMaps
open Rdg (Key put)

/-- The cells of a row of keys. -/
def cellT (k : Key) (j : Nat) : Value := if j = 0 then .int .u8 k.1 else if j = 1 then .int .i64 k.2.1 else .int .i64 k.2.2
def cellC (k : Int × Nat) (j : Nat) : Value := if j = 0 then .int .u8 k.1 else .int .i64 k.2

section
variable {α : Type} {k sz : Nat} {kv : α → Value} {cl : α → Nat → Value}

/-- Each key that has come lies at its place. -/
def Filled (k sz : Nat) (kv : α → Value) (cl : α → Nat → Value) (ts : List α) (left : Lit → Bool) (cells : List Value) : Prop :=
  cells.length = ts.length * sz ∧ ∀ i (hi : i < ts.length) l, keyOf Try.prog k (kv ts[i]) = some l → left l = false → ∀ j, j < sz → cells[i * sz + j]? = some (cl ts[i] j)

theorem mul_lt {i n sz j : Nat} (hi : i < n) (hj : j < sz) : i * sz + j < n * sz := by
  have h1 : (i + 1) * sz ≤ n * sz := Nat.mul_le_mul_right sz hi
  rw [Nat.add_mul] at h1; omega

theorem mul_ne {i i' sz j j' : Nat} (hne : i ≠ i') (hj : j < sz) (hj' : j' < sz) : i * sz + j ≠ i' * sz + j' := by
  intro e
  rcases Nat.lt_or_gt_of_ne hne with h | h
  · have := mul_lt (sz := sz) h hj; omega
  · have := mul_lt (sz := sz) h hj'; omega

/-- A key has come and been laid at its place. -/
theorem Filled.step {ts : List α} {left : Lit → Bool} {cells cells' : List Value} (K : Keyed Try.prog k) (hinj : ∀ a b : α, kv a = kv b → a = b) (hnd : ts.Nodup) (h : Filled k sz kv cl ts left cells) {i : Nat} (hi : i < ts.length) {kl : Lit}
    (hkey : keyOf Try.prog k (kv ts[i]) = some kl) (hlen : cells'.length = cells.length) (hin : ∀ j, j < sz → cells'[i * sz + j]? = some (cl ts[i] j)) (hout : ∀ m, (∀ j, j < sz → m ≠ i * sz + j) → cells'[m]? = cells[m]?) :
    Filled k sz kv cl ts (fun z => left z && !z.sameKey kl) cells' := by
  refine ⟨hlen.trans h.1, fun i' hi' l hl hleft j hj => ?_⟩
  by_cases e : i' = i
  · subst e; exact hin j hj
  · rw [hout _ (fun j' hj' => mul_ne e hj hj')]
    refine h.2 i' hi' l hl ?_ j hj
    have hne : l ≠ kl := fun e' => e (by
      subst e'
      have h1 := hinj _ _ (K.inj hl hkey)
      rcases Nat.lt_trichotomy i' i with h2 | h2 | h2
      · exact absurd h1 (List.pairwise_iff_getElem.1 hnd i' i hi' hi h2)
      · exact h2
      · exact absurd h1.symm (List.pairwise_iff_getElem.1 hnd i i' hi hi' h2))
    have hleft' : (left l && !l.sameKey kl) = false := hleft
    rw [sameKey_ne hne] at hleft'
    simpa using hleft'

theorem grow_new {W A B : World} {q : Nat} (h : W.grownBy A none) (g : A.grownBy B (some q)) (hq : W.heap.size ≤ q) : W.grownBy B none :=
  ⟨g.os.trans h.os, g.tape.trans h.tape, g.output.trans h.output, Nat.le_trans h.size g.size, fun k hk _ => (g.block k (Nat.lt_of_lt_of_le hk h.size) (by simp; omega)).trans (h.block k hk (by simp))⟩

theorem row_obj {w : World} {base e size g m : Nat} {cells : List Value} (h : w.ownsRow base e size (.slice (some ⟨g, 0, none⟩) m m) m cells) : ∃ cur, w.heap[g]? = some (.cells cur e (0, 0)) ∧ cur.toList = cells := by
  rcases h.2 with ⟨e, _⟩ | ⟨g', cap, cur, e, _, hh, _, _, hcs, htk⟩
  · simp at e
  · simp at e
    obtain ⟨rfl, rfl⟩ := e
    refine ⟨cur, hh, ?_⟩
    rw [← htk, List.take_of_length_le (by simp; omega)]

theorem cell_of_obj {w : World} {g e i : Nat} {cur : Array Value} {v : Value} (h : w.heap[g]? = some (.cells cur e (0, 0))) (hv : cur.toList[i]? = some v) : w.cell? ⟨g, i, none⟩ = some v := by
  unfold World.cell?
  rw [h]
  simpa using hv
end

end Go.Proofs.Ythfjhjghohincaa
