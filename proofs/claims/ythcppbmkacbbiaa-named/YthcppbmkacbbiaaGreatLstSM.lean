import Derived.Test.YthcppbmkacbbiaaGreatLstGM
import Derived.Test.YthcppbmkacbbiaaGreatSrt
namespace Go.Proofs.YthcppbmkacbbiaaGreat
open Go.RowKit Go.Maps Go.WideMaps Go.Sort

/-- What a round must keep: the cells of blocks from m0 on, the map and the variable that holds it. -/
def KIt (m0 Mb BT : Nat) (W W' : World) : Prop := (∀ (k : Nat) (o : Obj), m0 ≤ k → W.heap[k]? = some o → o.isCells = true → W'.heap[k]? = some o) ∧ W'.heap[Mb]? = W.heap[Mb]? ∧ W'.heap[BT]? = W.heap[BT]?

theorem KIt.trans {m0 Mb BT : Nat} {A B C : World} (h : KIt m0 Mb BT A B) (g : KIt m0 Mb BT B C) : KIt m0 Mb BT A C := ⟨fun k o hk ho hc => g.1 k o hk (h.1 k o hk ho hc) hc, g.2.1.trans h.2.1, g.2.2.trans h.2.2⟩

theorem flat_get {α : Type} {f : α → List Value} {k : Nat} (hk : ∀ x, (f x).length = k) (k0 : 0 < k) : ∀ (ss : List α) (i : Nat) (hi : i < ss.length) (c : Nat), c < k → (ss.flatMap f)[i * k + c]? = (f ss[i])[c]?
  | [], i, hi, _, _ => absurd hi (by simp)
  | x :: r, 0, _, c, hc => by
    rw [List.flatMap_cons, Nat.zero_mul, Nat.zero_add, List.getElem?_append_left (by rw [hk]; exact hc)]
    rfl
  | x :: r, i + 1, hi, c, hc => by
    rw [List.flatMap_cons, List.getElem?_append_right (by rw [hk, Nat.add_mul]; omega), hk]
    have e : (i + 1) * k + c - k = i * k + c := by rw [Nat.add_mul]; omega
    rw [e, flat_get hk k0 r i (by simpa using hi) c hc]
    rfl

theorem cmpZ_neg (a b : Int) : cmpZ a b < 0 ↔ a < b := by
  unfold cmpZ
  by_cases h : a < b
  · simp [h]
  · by_cases h2 : b < a
    · simp [h, h2]
    · simp [h, h2]

theorem cmpZ_lt {n : Nat} (i j : Fin n) : (ltOf fun i j : Fin n => cmpZ i.val j.val) i j = decide (i.val < j.val) := by
  show decide (cmpZ i.val j.val < 0) = decide (i.val < j.val)
  rw [decide_eq_decide, cmpZ_neg]
  omega

theorem cmpZ_swo (n : Nat) : SWO (ltOf fun i j : Fin n => cmpZ i.val j.val) := by
  constructor
  · intro x; rw [cmpZ_lt]; simp
  · intro x y z; rw [cmpZ_lt, cmpZ_lt, cmpZ_lt]; simp only [decide_eq_true_eq]; omega
  · intro x y z; rw [cmpZ_lt, cmpZ_lt, cmpZ_lt]; simp only [decide_eq_false_iff_not]; omega

theorem cmpZ_tot {n : Nat} (i j : Fin n) (h1 : (ltOf fun i j : Fin n => cmpZ i.val j.val) i j = false) (h2 : (ltOf fun i j : Fin n => cmpZ i.val j.val) j i = false) : i = j := by
  rw [cmpZ_lt] at h1 h2
  simp at h1 h2
  exact Fin.ext (by omega)

theorem sort_fin {n : Nat} {ss : List (Fin n)} (hp : ss.Perm (List.finRange n)) : (ss.mergeSort fun x y => !(ltOf fun i j : Fin n => cmpZ i.val j.val) y x) = List.finRange n := by
  have hle : ∀ a b : Fin n, (!(ltOf fun i j : Fin n => cmpZ i.val j.val) b a) = decide (a.val ≤ b.val) := fun a b => by
    rw [cmpZ_lt]
    by_cases h : b.val < a.val
    · simp [h]
    · simp [h]; omega
  have e : (fun x y : Fin n => !(ltOf fun i j : Fin n => cmpZ i.val j.val) y x) = fun x y => decide (x.val ≤ y.val) := funext fun a => funext fun b => hle a b
  rw [e]
  refine List.Perm.eq_of_pairwise (le := fun a b : Fin n => a.val ≤ b.val) (fun a b _ _ h1 h2 => Fin.ext (by omega)) ?_ ?_ ((List.mergeSort_perm ss _).trans hp)
  · have h := List.pairwise_mergeSort (le := fun x y : Fin n => decide (x.val ≤ y.val)) (fun a b c h1 h2 => by simp at *; omega) (fun a b => by simp; omega) ss
    exact h.imp (fun hx => by simpa using hx)
  · refine List.pairwise_iff_getElem.2 fun i j hi hj hij => ?_
    simp only [List.getElem_finRange]
    simp; omega

theorem holdsK_of {α : Type} [Inhabited α] {f : α → List Value} {k : Nat} (hk : ∀ x, (f x).length = k) (k0 : 0 < k) {w : World} {g e : Nat} {cur : Array Value} {ss : List α} (hb : w.heap[g]? = some (.cells cur e (0, 0))) (ht : cur.toList.take (ss.length * k) = ss.flatMap f) : HoldsK f k w g 0 ss.toArray := by
  intro j hj
  have hj' : j < ss.length * k := by simpa using hj
  refine ⟨?_, by simp [World.frozen?, hb]⟩
  have hdiv : j / k < ss.length := Nat.div_lt_of_lt_mul (by rw [Nat.mul_comm]; exact hj')
  have hmod : j % k < k := Nat.mod_lt _ k0
  have hjj : j / k * k + j % k = j := by rw [Nat.mul_comm]; exact Nat.div_add_mod j k
  have h1 : (cur.toList.take (ss.length * k))[j]? = (ss.flatMap f)[j]? := by rw [ht]
  rw [List.getElem?_take_of_lt hj'] at h1
  have h2 := flat_get hk k0 ss (j / k) hdiv (j % k) hmod
  rw [hjj] at h2
  rw [h2] at h1
  simp only [World.cell?, hb, Nat.zero_add]
  simp only [Option.isSome_none, Bool.false_eq_true, if_false]
  rw [← Array.getElem?_toList, h1, get_flatK _ _ _ _ (by simpa using hj')]
  rw [getElem!_pos ss.toArray (j / k) (by simpa using hdiv), getElem!_pos (f _) (j % k) (by rw [hk]; exact hmod)]
  simp

theorem grownBy_sortK {α : Type} [Inhabited α] (f : α → List Value) (k : Nat) (w : World) (g n : Nat) (d : Array α) (os : Array Obj) : w.grownBy (sortWorldK f k w g 0 n d os) (some g) := by
  refine ⟨rfl, rfl, rfl, by simp [sortWorldK, putRowK], fun j hj hne => ?_⟩
  unfold sortWorldK putRowK
  rw [heap_grow_old _ _ (by simpa using hj)]
  have : g ≠ j := fun e => hne (by rw [e])
  simp [putRow, mapBlock, Sort.ahead, Array.getElem?_modify, this]

end Go.Proofs.YthcppbmkacbbiaaGreat

namespace Go.Proofs.YthcppbmkacbbiaaGreat
open Go.RowKit Go.Maps Go.WideMaps

/-- Between two rounds of a loop that lays the keys: the row G, and the variable X that holds it. -/
structure LI (w : World) (X G n e kn S : Nat) (T : List Value) (k : Nat) (W : World) : Prop where
  x : W.cell? ⟨X, 0, none⟩ = some (.slice (some ⟨G, 0, none⟩) k n)
  fx : W.frozen? ⟨X, 0, none⟩ = false
  row : W.ownsRow w.heap.size e kn (.slice (some ⟨G, 0, none⟩) k n) k (T.take (k * kn))
  below : Below w.heap.size w W
  sz : S ≤ W.heap.size

section
variable {w : World} {X G n e kn S : Nat} {T : List Value} {k : Nat} {W : World}

theorem LI.lt (h : LI w X G n e kn S T k W) : X < W.heap.size ∧ G < W.heap.size := ⟨World.block_lt_of_cell? W _ h.x, (h.row.lt G rfl).2⟩

theorem LI.own (B : Nat) (hw : w.heap.size ≤ B) : OwnFrom B (LI w X G n e kn S T) := by
  intro k W W' row h hg hr
  have hr' : ∀ r, row = some r → ∃ o : Obj, W.heap[r]? = some o ∧ o.isCells = false := fun r e => (hr r e).2
  exact ⟨cell_own h.x hg hr', (frozen_own h.x hg hr').trans h.fx, row_own h.row hg hr', ownFrom_below (β := Unit) (Nat.le_refl _) hw () W W' row h.below hg hr, Nat.le_trans h.sz hg.size⟩

/-- A round's end. -/
theorem LI.close {B Mb BT : Nat} {a : Act} {Wc w4 : World} {news : List Value} (hX : X < B) (hG : G < B) (hwX : w.heap.size ≤ X) (hwG : w.heap.size ≤ G) (hXG : X ≠ G) (hXM : X ≠ Mb) (hXT : X ≠ BT) (hGM : G ≠ Mb) (hGT : G ≠ BT) (hMb : Mb < W.heap.size) (hBT : BT < W.heap.size)
    (h : LI w X G n e kn S T k W) (hg : W.grownBy Wc none) (hn : T.take ((k + 1) * kn) = T.take (k * kn) ++ news)
    (r1 : w4.ownsRow w.heap.size e kn (.slice (some ⟨G, 0, none⟩) (k + 1) n) (k + 1) (T.take (k * kn) ++ news)) (r2 : Wc.grownBy w4 (some G)) :
    goesOn B (KIt B Mb BT) (LI w X G n e kn S T (k + 1)) W .normal a (w4.setCell ⟨X, 0, none⟩ (.slice (some ⟨G, 0, none⟩) (k + 1) n)) := by
  have hlX := h.lt.1
  have hs : ∀ j, j < W.heap.size → j ≠ X → j ≠ G → (w4.setCell ⟨X, 0, none⟩ (.slice (some ⟨G, 0, none⟩) (k + 1) n)).heap[j]? = W.heap[j]? := fun j hj h1 h2 =>
    (Below.heap_setCell w4 _ _ j h1).trans ((r2.block j (Nat.lt_of_lt_of_le hj hg.size) (by simpa using h2)).trans (hg.block j hj (by simp)))
  have hX4 : w4.heap[X]? = W.heap[X]? := (r2.block X (Nat.lt_of_lt_of_le hlX hg.size) (by simpa using hXG)).trans (hg.block X hlX (by simp))
  have c4 : w4.cell? ⟨X, 0, none⟩ = some (.slice (some ⟨G, 0, none⟩) k n) := (World.cell?_of_block hX4).trans h.x
  have f4 : w4.frozen? ⟨X, 0, none⟩ = false := (World.frozen?_of_block hX4).trans h.fx
  have hsz : W.heap.size ≤ (w4.setCell ⟨X, 0, none⟩ (.slice (some ⟨G, 0, none⟩) (k + 1) n)).heap.size := by
    have h1 := Nat.le_trans hg.size r2.size
    simpa [World.setCell] using h1
  have hb := h.below
  refine ⟨⟨hsz, fun j o hj ho _ => (hs j (Array.getElem?_eq_some_iff.1 ho).1 (by omega) (by omega)).trans ho⟩, ⟨fun j o hj ho _ => (hs j (Array.getElem?_eq_some_iff.1 ho).1 (by omega) (by omega)).trans ho, hs Mb hMb hXM.symm hGM.symm, hs BT hBT hXT.symm hGT.symm⟩,
    World.cell?_setCell_same' _ _ _ (by rw [c4]; rfl), by rw [World.frozen?_setCell]; exact f4, ?_, ?_, Nat.le_trans h.sz hsz⟩
  · rw [hn]
    exact r1.kept (grownBy_setCell' w4 X _) (Or.inr (by simp only [Value.ownBlock, ne_eq, Option.some.injEq]; exact fun e => hXG e.symm))
  · exact ⟨r2.os.trans (hg.os.trans hb.os), r2.tape.trans (hg.tape.trans hb.tape), r2.output.trans (hg.output.trans hb.output), Nat.le_trans hb.size hsz, fun j hj => (hs j (Nat.lt_of_lt_of_le hj hb.size) (by omega) (by omega)).trans (hb.block j hj)⟩
end

theorem take_flat {α : Type} {f : α → List Value} {k : Nat} (hk : ∀ x, (f x).length = k) : ∀ (ss : List α) (i : Nat) (hi : i < ss.length), (ss.flatMap f).take ((i + 1) * k) = (ss.flatMap f).take (i * k) ++ f ss[i]
  | [], i, hi => absurd hi (by simp)
  | x :: r, 0, _ => by
    rw [List.flatMap_cons, Nat.zero_add, Nat.one_mul, Nat.zero_mul, List.take_zero, List.nil_append, List.take_append_of_le_length (by rw [hk]; exact Nat.le_refl _), List.take_of_length_le (by rw [hk]; exact Nat.le_refl _)]
    rfl
  | x :: r, i + 1, hi => by
    rw [List.flatMap_cons]
    have e1 : (i + 1 + 1) * k = (f x).length + (i + 1) * k := by rw [hk, Nat.add_mul (i + 1) 1 k]; omega
    have e2 : (i + 1) * k = (f x).length + i * k := by rw [hk, Nat.add_mul i 1 k]; omega
    rw [e1, e2, List.take_length_add_append, List.take_length_add_append, List.append_assoc]
    have e3 : (f x).length + i * k = (i + 1) * k := by rw [hk, Nat.add_mul]; omega
    rw [e3, take_flat hk r i (by simpa using hi)]
    rfl

theorem flat_len {α : Type} {f : α → List Value} {k : Nat} (hk : ∀ x, (f x).length = k) : ∀ (ss : List α), (ss.flatMap f).length = ss.length * k
  | [] => by simp
  | x :: r => by rw [List.flatMap_cons, List.length_append, hk, flat_len hk r, List.length_cons, Nat.add_mul]; omega

end Go.Proofs.YthcppbmkacbbiaaGreat
