import Derived.Test.YthfjhjghohincaaEqc
namespace Go.Proofs.Ythfjhjghohincaa.Rdg

/-- The document's terms and claims are pieces of the text, the claims each once. -/
def Gd (l : List UInt8) (σ : St) : Prop := (∀ t ∈ σ.T, t.length ≤ l.length) ∧ (∀ t ∈ σ.C, t.length ≤ l.length) ∧ σ.C.Nodup

theorem cut_le (l : List UInt8) (x y : Nat) : (cut l x y).length ≤ l.length := by unfold cut; simp; omega

theorem put_mem {α : Type} [BEq α] [LawfulBEq α] {L : List α} {k t : α} (h : t ∈ put L k) : t ∈ L ∨ t = k := by
  unfold put at h
  split at h
  · exact Or.inl h
  · rcases List.mem_append.1 h with h | h
    · exact Or.inl h
    · exact Or.inr (by simpa using h)

theorem put_nodup {α : Type} [BEq α] [LawfulBEq α] {L : List α} (k : α) (h : L.Nodup) : (put L k).Nodup := by
  unfold put
  split
  · exact h
  · rename_i hc
    refine List.nodup_append.2 ⟨h, by simp, fun a ha b hb e => ?_⟩
    simp at hb
    subst hb
    subst e
    exact hc (by simpa using ha)

section
variable {l : List UInt8} {pk : Nat → Int}

theorem gd_one {σ : St} (L : List Int) (h : Gd l σ) : Gd l (rOne pk L σ).1 := by
  unfold rOne
  split
  · split
    · exact h
    · exact h
  · exact h
theorem gd_open {σ : St} (h : Gd l σ) : Gd l (rOpen pk σ) := by
  have h1 : Gd l (rDeep pk σ) := by unfold rDeep; split; exact h; exact h
  have h2 := gd_one (pk := pk) [40] h1
  exact h2
theorem gd_shut {σ : St} (h : Gd l σ) : Gd l (rShut pk σ) := gd_one (pk := pk) [41] h
theorem gd_keepT {σ : St} (x : Nat) (h : Gd l σ) : Gd l (rKeepT l x σ).1 := by
  unfold rKeepT
  split
  · refine ⟨fun t ht => ?_, h.2.1, h.2.2⟩
    rcases put_mem ht with ht | ht
    · exact h.1 t ht
    · subst ht; exact cut_le _ _ _
  · exact h
theorem gd_keepC {σ : St} (x : Nat) (h : Gd l σ) : Gd l (rKeepC l x σ) := by
  unfold rKeepC
  split
  · refine ⟨h.1, fun t ht => ?_, put_nodup _ h.2.2⟩
    rcases put_mem ht with ht | ht
    · exact h.2.1 t ht
    · subst ht; exact cut_le _ _ _
  · exact h

theorem gd_term : ∀ (n : Nat) (σ : St), Gd l σ → Gd l (rTerm l pk n σ).1 := by
  intro n
  induction n with
  | zero => intro σ h; exact h
  | succ n ih =>
    intro σ h
    unfold rTerm
    refine gd_keepT _ ?_
    have h1 := gd_one (pk := pk) letters h
    unfold rIn
    split
    · exact gd_shut (ih _ (gd_open h1))
    · split
      · exact gd_shut (ih _ (gd_one _ (ih _ (gd_open h1))))
      · exact h1

theorem gd_formula : ∀ (n : Nat) (σ : St), Gd l σ → Gd l (rFormula l pk n σ) := by
  intro n
  induction n with
  | zero => intro σ h; exact h
  | succ n ih =>
    intro σ h
    unfold rFormula
    split
    · exact ih _ h
    · split
      · exact gd_keepC _ (gd_shut (gd_term _ _ (gd_open (σ := { σ with a := σ.a + 1 }) h)))
      · split
        · exact gd_shut (ih _ (gd_one _ (ih _ (gd_open h))))
        · exact gd_term _ _ (gd_one _ (gd_term _ _ h))
end

theorem Inv.nodup {ts : List Key} (h : Inv ts) : ts.Nodup := by
  refine List.pairwise_iff_getElem.2 fun i j hi hj hlt e => ?_
  have g1 := h.get i hi
  have g2 := h.get j hj
  rw [e, ← g2] at g1
  have := nodup_getD h.nd (by rw [texts_length]; exact hi) (by rw [texts_length]; exact hj) g1
  omega

end Go.Proofs.Ythfjhjghohincaa.Rdg
