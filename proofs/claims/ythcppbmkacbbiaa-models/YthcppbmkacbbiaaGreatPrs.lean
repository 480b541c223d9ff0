import Derived.Test.YthcppbmkacbbiaaGreatCls
import Derived.Test.YthcppbmkacbbiaaGreatSeqx
import Derived.Test.YthcppbmkacbbiaaGreatSeqM
import Derived.Test.YthcppbmkacbbiaaGreatLstGM
namespace Go.Proofs.YthcppbmkacbbiaaGreat
open Go.RowKit Go.Maps Go.WideMaps

section
variable {α : Type} [BEq α]

/-- Of the first k places those whose key stands further left too, each behind the place where the key stands first. -/
def prs (keys : List α) : Nat → List (Nat × Nat)
  | 0 => []
  | k + 1 => match keys[k]? with
    | some x => if (keys.take k).contains x then prs keys k ++ [((keys.take k).idxOf x, k)] else prs keys k
    | none => prs keys k

theorem prs_step {keys : List α} {k : Nat} (hk : k < keys.length) : prs keys (k + 1) = if (keys.take k).contains keys[k] then prs keys k ++ [((keys.take k).idxOf keys[k], k)] else prs keys k := by
  rw [prs, List.getElem?_eq_getElem hk]

theorem prs_prefix {keys : List α} {k m : Nat} (h : k ≤ m) : prs keys k <+: prs keys m := by
  induction m with
  | zero => have : k = 0 := by omega
            subst this; exact List.prefix_refl _
  | succ m ih =>
    by_cases e : k = m + 1
    · subst e; exact List.prefix_refl _
    · have h1 := ih (by omega)
      refine h1.trans ?_
      rw [prs]
      split
      · split
        · exact List.prefix_append _ _
        · exact List.prefix_refl _
      · exact List.prefix_refl _

/-- The pair that comes at place k. -/
theorem prs_at {keys : List α} {k : Nat} (hk : k < keys.length) (hc : (keys.take k).contains keys[k] = true) :
    ∃ h : (prs keys k).length < (prs keys keys.length).length, (prs keys keys.length)[(prs keys k).length] = ((keys.take k).idxOf keys[k], k) := by
  have hp := prs_prefix (keys := keys) (k := k + 1) (m := keys.length) hk
  rw [prs_step hk, if_pos hc] at hp
  obtain ⟨r, hr⟩ := hp
  refine ⟨by rw [← hr]; simp, ?_⟩
  rw [List.getElem_of_eq hr.symm]
  simp

/-- Block b holds where each of the keys of l stands first. -/
def FMap (w : World) (k b : Nat) (kv : α → Value) (l : List α) : Prop :=
  ∃ (D : DataW Unit) (nn : Nat), nn ≤ l.length ∧ w.ownsMap Tryz.prog k (plainElem Tryz.prog 3) b nn D ∧
    ∀ x lt, keyOf Tryz.prog k (kv x) = some lt → Maps.has D lt = l.contains x ∧ (l.contains x = true → D.atKey lt (.lit (.int .i64 0)) = .lit (.int .i64 (l.idxOf x)))

theorem FMap.kept {w w' : World} {k b : Nat} {kv : α → Value} {l : List α} (h : FMap w k b kv l) (hb : w'.heap[b]? = w.heap[b]?) : FMap w' k b kv l := by
  obtain ⟨D, nn, h0, ⟨es, clock, h1, h2⟩, h3⟩ := h
  exact ⟨D, nn, h0, ⟨es, clock, hb.trans h1, h2⟩, h3⟩

theorem FMap.lt {w : World} {k b : Nat} {kv : α → Value} {l : List α} (h : FMap w k b kv l) : b < w.heap.size := by
  obtain ⟨D, nn, _, h1, _⟩ := h; exact h1.lt

theorem FMap.walk {w : World} {k b : Nat} {kv : α → Value} {l : List α} (h : FMap w k b kv l) : ∃ o : Obj, w.heap[b]? = some o ∧ o.isWalk = true := by
  obtain ⟨D, nn, _, ⟨es, clock, h1, _⟩, _⟩ := h
  exact ⟨_, h1, rfl⟩

theorem fmap_made (w : World) (k : Nat) (kv : α → Value) : FMap (w.alloc (.map #[] 0)) k w.heap.size kv ([] : List α) :=
  ⟨.map [], 0, Nat.le_refl _, World.ownsMap_made w _ _ _, fun x l _ => ⟨rfl, fun h => by simp at h⟩⟩

/-- A key that stands further left already. -/
theorem FMap.again [LawfulBEq α] {w : World} {k b : Nat} {kv : α → Value} {l : List α} (h : FMap w k b kv l) {x : α} (hx : l.contains x = true) : FMap w k b kv (l ++ [x]) := by
  obtain ⟨D, nn, h0, h1, h2⟩ := h
  have hx' : x ∈ l := by simpa using hx
  refine ⟨D, nn, by simp; omega, h1, fun y lt hy => ?_⟩
  have h3 := h2 y lt hy
  by_cases e : y ∈ l
  · have e1 : (l ++ [x]).contains y = true := by simp [e]
    have e2 : l.contains y = true := by simpa using e
    rw [e1]
    refine ⟨by rw [h3.1]; exact e2, fun _ => ?_⟩
    rw [h3.2 e2]
    simp [List.idxOf_append, e]
  · have hne : y ≠ x := fun e' => e (by rw [e']; exact hx')
    have e1 : (l ++ [x]).contains y = false := by simp [e, hne]
    have e2 : l.contains y = false := by simpa using e
    rw [e1]
    exact ⟨by rw [h3.1]; exact e2, fun h => by cases h⟩

theorem fmap_put [LawfulBEq α] {w' : World} {k b nn : Nat} {kv : α → Value} {l : List α} {D : DataW Unit} (hinj : ∀ a b : α, kv a = kv b → a = b) (K : Keyed Tryz.prog k) (h0 : nn ≤ l.length)
    (h2 : ∀ x lt, keyOf Tryz.prog k (kv x) = some lt → Maps.has D lt = l.contains x ∧ (l.contains x = true → D.atKey lt (.lit (.int .i64 0)) = .lit (.int .i64 (l.idxOf x))))
    (h4 : Tidy D) {x : α} {lx : Lit} (hl : keyOf Tryz.prog k (kv x) = some lx) (hx : l.contains x = false)
    (h5 : w'.ownsMap Tryz.prog k (plainElem Tryz.prog 3) b (nn + 1) (D.put lx (.lit (.int .i64 l.length)))) : FMap w' k b kv (l ++ [x]) := by
  have hx' : ¬ x ∈ l := by simpa using hx
  refine ⟨_, nn + 1, by simp; omega, h5, fun y m hm => ?_⟩
  by_cases e : m = lx
  · subst e
    have : y = x := hinj _ _ (K.inj hm hl)
    subst this
    refine ⟨by rw [has_put_same h4.isMap (K.key hl)]; simp, fun _ => ?_⟩
    rw [atKey_put_same h4.isMap (K.key hl)]
    simp [List.idxOf_append, hx']
  · have hne : y ≠ x := fun e' => e (by subst e'; rw [hm] at hl; exact Option.some.inj hl)
    rw [has_put_other e, atKey_put_other e, (h2 y m hm).1]
    refine ⟨by simp [hne], fun hy => ?_⟩
    have hy' : y ∈ l := by simpa [hne] using hy
    rw [(h2 y m hm).2 (by simpa using hy')]
    simp [List.idxOf_append, hy']
end

/-- What a round must keep: cells, maps and walks from m0 on, and the blocks X and G. -/
def KA (m0 X G : Nat) (W W' : World) : Prop := (∀ (k : Nat) (o : Obj), m0 ≤ k → W.heap[k]? = some o → (o.isCells = true ∨ o.isWalk = true) → W'.heap[k]? = some o) ∧ W'.heap[X]? = W.heap[X]? ∧ W'.heap[G]? = W.heap[G]?

theorem KA.trans {m0 X G : Nat} {A B C : World} (h : KA m0 X G A B) (g : KA m0 X G B C) : KA m0 X G A C := ⟨fun k o hk ho hc => g.1 k o hk (h.1 k o hk ho hc) hc, g.2.1.trans h.2.1, g.2.2.trans h.2.2⟩

end Go.Proofs.YthcppbmkacbbiaaGreat
