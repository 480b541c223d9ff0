import Derived.Test.YthfjhjghohincaaRefP
namespace Go.Proofs.Ythfjhjghohincaa.Rdg

/-- What a reading step keeps: it goes forward, within the text; each term and claim that is put costs a byte; the depth. -/
structure Fw (N : Nat) (σ τ : St) : Prop where
  le : σ.a ≤ τ.a
  top : τ.a ≤ N
  t : τ.T.length + σ.a ≤ σ.T.length + τ.a
  c : τ.C.length + σ.a ≤ σ.C.length + τ.a
  dead : σ.E ≠ 0 → τ.E ≠ 0

theorem Fw.refl {N : Nat} {σ : St} (h : σ.a ≤ N) : Fw N σ σ := ⟨Nat.le_refl _, h, Nat.le_refl _, Nat.le_refl _, id⟩
theorem Fw.trans {N : Nat} {σ τ ρ : St} (h : Fw N σ τ) (k : Fw N τ ρ) : Fw N σ ρ :=
  ⟨Nat.le_trans h.le k.le, k.top, by have := h.t; have := k.t; have := h.le; have := k.le; omega, by have := h.c; have := k.c; have := h.le; have := k.le; omega, fun e => k.dead (h.dead e)⟩

section
variable {pk : Nat → Int} {N : Nat}

theorem rOne_fw (hpk : ∀ a, pk a ≠ 0 → a < N) {l : List Int} (hl : l.contains 0 = false) {σ : St} (h : σ.a ≤ N) : Fw N σ (rOne pk l σ).1 := by
  unfold rOne
  split
  · split
    · rename_i h1
      have : σ.a < N := hpk _ (fun e => by rw [e, hl] at h1; cases h1)
      exact ⟨by simp, by simp; omega, by simp, by simp, fun e => by simpa using e⟩
    · exact ⟨by simp, by simpa using h, by simp, by simp, fun e => by simp⟩
  · exact Fw.refl h

theorem rDeep_fw {σ : St} (h : σ.a ≤ N) : Fw N σ (rDeep pk σ) := by
  unfold rDeep
  split
  · exact ⟨by simp, by simpa using h, by simp, by simp, fun e => by simp⟩
  · exact Fw.refl h
theorem rUp_fw {σ : St} (h : σ.a ≤ N) : Fw N σ (rUp σ) := ⟨Nat.le_refl _, h, Nat.le_refl _, Nat.le_refl _, id⟩
theorem rDown_fw {σ : St} (h : σ.a ≤ N) : Fw N σ (rDown σ) := ⟨Nat.le_refl _, h, Nat.le_refl _, Nat.le_refl _, id⟩

theorem rOpen_fw (hpk : ∀ a, pk a ≠ 0 → a < N) {σ : St} (h : σ.a ≤ N) : Fw N σ (rOpen pk σ) := by
  have h1 := rDeep_fw (pk := pk) h
  have h2 := rOne_fw hpk (l := [40]) (by rfl) h1.top
  exact (h1.trans h2).trans (rUp_fw h2.top)
theorem rShut_fw (hpk : ∀ a, pk a ≠ 0 → a < N) {σ : St} (h : σ.a ≤ N) : Fw N σ (rShut pk σ) := by
  have h2 := rOne_fw hpk (l := [41]) (by rfl) h
  exact h2.trans (rDown_fw h2.top)

theorem one_d (pk : Nat → Int) (l : List Int) (σ : St) : (rOne pk l σ).1.d = σ.d := by
  unfold rOne; split
  · split <;> rfl
  · rfl
theorem deep_d (pk : Nat → Int) (σ : St) : (rDeep pk σ).d = σ.d := by unfold rDeep; split <;> rfl
theorem open_d (pk : Nat → Int) (σ : St) : (rOpen pk σ).d = σ.d + 1 := by unfold rOpen; simp [rUp, one_d, deep_d]
theorem shut_d (pk : Nat → Int) (σ : St) : (rShut pk σ).d = σ.d - 1 := by unfold rShut; simp [rDown, one_d]

/-- A live reader that has opened a bracket is not too deep. -/
theorem open_live (pk : Nat → Int) (σ : St) (h : (rOpen pk σ).E = 0) : σ.E = 0 ∧ σ.d ≠ 8 ∧ pk σ.a = 40 ∧ rOpen pk σ = { σ with a := σ.a + 1, d := σ.d + 1 } := by
  unfold rOpen rUp at h ⊢
  simp only at h
  by_cases hE : σ.E = 0
  · by_cases h40 : pk σ.a = 40
    · have hs : seesB pk σ 40 = true := by simp [seesB, hE, h40]
      by_cases h8 : σ.d = 8
      · have hd : rDeep pk σ = { σ with E := 3 } := by unfold rDeep; rw [if_pos ⟨hs, h8⟩]
        rw [hd] at h
        simp [rOne] at h
      · have hd : rDeep pk σ = σ := by unfold rDeep; rw [if_neg (fun e => h8 e.2)]
        rw [hd]
        refine ⟨hE, h8, h40, ?_⟩
        simp [rOne, hE, h40]
    · have hd : rDeep pk σ = σ := by unfold rDeep; rw [if_neg (fun e => by simp [seesB, h40] at e)]
      rw [hd] at h
      simp [rOne, hE, h40] at h
  · have hd : rDeep pk σ = σ := by unfold rDeep; rw [if_neg (fun e => by simp [seesB, hE] at e)]
    rw [hd] at h
    simp [rOne, hE] at h

theorem one_live (pk : Nat → Int) (l : List Int) (σ : St) (h : (rOne pk l σ).1.E = 0) : σ.E = 0 ∧ l.contains (pk σ.a) = true ∧ rOne pk l σ = ({ σ with a := σ.a + 1 }, pk σ.a) := by
  unfold rOne at h ⊢
  by_cases hE : σ.E = 0
  · rw [if_pos hE] at h ⊢
    by_cases hc : l.contains (pk σ.a) = true
    · rw [if_pos hc]; exact ⟨hE, hc, rfl⟩
    · rw [if_neg hc] at h; simp at h
  · rw [if_neg hE] at h; exact absurd h hE

theorem one_c (pk : Nat → Int) (l : List Int) (σ : St) (h : (rOne pk l σ).2 ≠ 0) : (rOne pk l σ).1.E = 0 ∧ (rOne pk l σ).2 = pk σ.a := by
  unfold rOne at h ⊢
  by_cases hE : σ.E = 0
  · rw [if_pos hE] at h ⊢
    by_cases hc : l.contains (pk σ.a) = true
    · rw [if_pos hc]; exact ⟨hE, rfl⟩
    · rw [if_neg hc] at h; simp at h
  · rw [if_neg hE] at h; simp at h

/-- What a reader must be so that it may be called. -/
structure Rdy (N : Nat) (σ : St) : Prop where
  top : σ.a ≤ N
  d9 : σ.d ≤ 9
  d8 : σ.E = 0 → σ.d ≤ 8
  t : σ.T.length ≤ σ.a
  c : σ.C.length ≤ σ.a

theorem Rdy.fw {σ τ : St} (h : Rdy N σ) (f : Fw N σ τ) (hd : τ.d = σ.d) : Rdy N τ :=
  ⟨f.top, by rw [hd]; exact h.d9, fun e => by rw [hd]; exact h.d8 (Decidable.byContradiction fun hne => f.dead hne e), by have := h.t; have := f.t; have := f.le; omega, by have := h.c; have := f.c; have := f.le; omega⟩

theorem Rdy.open (hpk : ∀ a, pk a ≠ 0 → a < N) {σ : St} (h : Rdy N σ) (h8 : σ.d ≤ 8) : Rdy N (rOpen pk σ) := by
  have f := rOpen_fw hpk h.top
  refine ⟨f.top, by rw [open_d]; omega, fun e => ?_, by have := h.t; have := f.t; have := f.le; omega, by have := h.c; have := f.c; have := f.le; omega⟩
  have := open_live pk σ e
  rw [open_d]; omega

theorem letters0 : letters.contains 0 = false := by decide

/-- A term costs a byte, if it goes well. -/
theorem rTerm_fw (hpk : ∀ a, pk a ≠ 0 → a < N) (l : List UInt8) : ∀ (n : Nat) (σ : St), σ.a ≤ N → Fw N σ (rTerm l pk n σ).1 ∧ (rTerm l pk n σ).1.d = σ.d := by
  intro n
  induction n with
  | zero => intro σ h; exact ⟨Fw.refl h, rfl⟩
  | succ n ih =>
    intro σ h
    have f1 := rOne_fw hpk letters0 h
    have key : Fw N (rOne pk letters σ).1 (rIn pk (fun τ => (rTerm l pk n τ).1) (rOne pk letters σ).2 (rOne pk letters σ).1) ∧ (rIn pk (fun τ => (rTerm l pk n τ).1) (rOne pk letters σ).2 (rOne pk letters σ).1).d = (rOne pk letters σ).1.d := by
      unfold rIn
      split
      · have g1 := rOpen_fw hpk f1.top
        have g2 := ih _ g1.top
        have g3 := rShut_fw hpk g2.1.top
        refine ⟨(g1.trans g2.1).trans g3, ?_⟩
        rw [shut_d]
        simp only [g2.2, open_d]
        omega
      · split
        · have g1 := rOpen_fw hpk f1.top
          have g2 := ih _ g1.top
          have g3 := rOne_fw hpk (l := [44]) (by rfl) g2.1.top
          have g4 := ih _ g3.top
          have g5 := rShut_fw hpk g4.1.top
          refine ⟨(((g1.trans g2.1).trans g3).trans g4.1).trans g5, ?_⟩
          rw [shut_d]
          simp only [g4.2, one_d, g2.2, open_d]
          omega
        · exact ⟨Fw.refl f1.top, rfl⟩
    unfold rTerm
    generalize hτ : rIn pk (fun τ => (rTerm l pk n τ).1) (rOne pk letters σ).2 (rOne pk letters σ).1 = τ at key
    obtain ⟨k1, k2⟩ := key
    unfold rKeepT
    by_cases hE : τ.E = 0
    · rw [if_pos hE]
      have hl : (rOne pk letters σ).1.E = 0 := Decidable.byContradiction fun hne => k1.dead hne hE
      obtain ⟨q1, q2, q3⟩ := one_live pk letters σ hl
      rw [q3] at k1 k2
      have := put_length τ.T (cut l σ.a τ.a)
      refine ⟨⟨?_, ?_, ?_, ?_, fun e => absurd q1 e⟩, by simpa using k2⟩
      · have := k1.le; simp at this ⊢; omega
      · exact k1.top
      · have a1 := k1.t; have a2 := k1.le; simp at a1 a2 ⊢; omega
      · have a1 := k1.c; have a2 := k1.le; simp at a1 a2 ⊢; omega
    · rw [if_neg hE]
      exact ⟨f1.trans k1, by rw [k2, one_d]⟩
end

end Go.Proofs.Ythfjhjghohincaa.Rdg
