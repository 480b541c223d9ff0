import Derived.Test.YthfjhjghohincaaRefB
namespace Go.Proofs.Ythfjhjghohincaa.Rdg

section
variable {pk : Nat → Int} {N : Nat}

theorem sees_live {pk : Nat → Int} {σ : St} {c : Int} (h : seesB pk σ c = true) : σ.E = 0 ∧ pk σ.a = c := by simpa [seesB] using h

theorem at1_fw (hpk : ∀ a, pk a ≠ 0 → a < N) {σ : St} {c : Int} (hc : c ≠ 0) (h : seesB pk σ c = true) : Fw N σ { σ with a := σ.a + 1 } := by
  obtain ⟨h1, h2⟩ := sees_live h
  have := hpk σ.a (by omega)
  exact ⟨by simp, by simp; omega, by simp, by simp, fun e => by simpa using e⟩

/-- A claim is put: the byte of its letter pays. -/
theorem keepC_fw {l : List UInt8} {σ τ : St} {x : Nat} (f : Fw N { σ with a := σ.a + 1 } τ) : Fw N σ (rKeepC l x τ) ∧ (rKeepC l x τ).d = τ.d := by
  have h1 := f.le; have h2 := f.t; have h3 := f.c; have h4 := f.dead
  simp at h1 h2 h3 h4
  unfold rKeepC
  split
  · have := put_length τ.C (cut l x τ.a)
    exact ⟨⟨by simp; omega, f.top, by simp; omega, by simp; omega, fun e => by simpa using h4 e⟩, rfl⟩
  · exact ⟨⟨by omega, f.top, by omega, by omega, h4⟩, rfl⟩

theorem rFormula_fw (hpk : ∀ a, pk a ≠ 0 → a < N) (l : List UInt8) : ∀ (n : Nat) (σ : St), σ.a ≤ N → Fw N σ (rFormula l pk n σ) ∧ (rFormula l pk n σ).d = σ.d := by
  intro n
  induction n with
  | zero => intro σ h; exact ⟨Fw.refl h, rfl⟩
  | succ n ih =>
    intro σ h
    unfold rFormula
    split
    · rename_i h33
      have f1 := at1_fw hpk (by omega) h33
      have g := ih _ f1.top
      exact ⟨f1.trans g.1, g.2⟩
    · split
      · rename_i h8
        have f1 : Fw N σ { σ with a := σ.a + 1 } := by
          simp at h8
          rcases h8 with h8 | h8
          · exact at1_fw hpk (by omega) h8
          · exact at1_fw hpk (by omega) h8
        have f2 := rOpen_fw hpk f1.top
        have f3 := rTerm_fw hpk l (n + 1) _ f2.top
        have f4 := rShut_fw hpk f3.1.top
        have k := keepC_fw (l := l) (x := σ.a) ((f2.trans f3.1).trans f4)
        refine ⟨k.1, ?_⟩
        rw [k.2, shut_d, f3.2, open_d]
        simp
      · split
        · have f2 := rOpen_fw hpk h
          have f3 := ih _ f2.top
          have f4 := rOne_fw hpk (l := [38, 124, 62, 45]) (by rfl) f3.1.top
          have f5 := ih _ f4.top
          have f6 := rShut_fw hpk f5.1.top
          refine ⟨(((f2.trans f3.1).trans f4).trans f5.1).trans f6, ?_⟩
          rw [shut_d, f5.2, one_d, f3.2, open_d]
          omega
        · have f3 := rTerm_fw hpk l (n + 1) _ h
          have f4 := rOne_fw hpk (l := [61]) (by rfl) f3.1.top
          have f5 := rTerm_fw hpk l (n + 1) _ f4.top
          refine ⟨(f3.1.trans f4).trans f5.1, ?_⟩
          rw [f5.2, one_d, f3.2]
end

end Go.Proofs.Ythfjhjghohincaa.Rdg
