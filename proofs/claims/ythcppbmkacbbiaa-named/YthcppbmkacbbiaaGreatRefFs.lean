import Derived.Test.YthcppbmkacbbiaaGreatRefFM
import Derived.Test.YthcppbmkacbbiaaGreatRefFp
import Derived.Test.YthcppbmkacbbiaaGreatRefFq
namespace Go.Proofs.YthcppbmkacbbiaaGreat
open Go.RowKit
open Rdg (St put)

theorem keepC_bad {l : List UInt8} {x : Nat} {τ : St} (h : τ.E ≠ 0) : Rdg.rKeepC l x τ = τ := by unfold Rdg.rKeepC; rw [if_neg h]
theorem keepC_old {l : List UInt8} {x : Nat} {τ : St} (h : τ.E = 0) (hc : τ.C.contains (Rdg.cut l x τ.a) = true) : Rdg.rKeepC l x τ = τ := by
  unfold Rdg.rKeepC; rw [if_pos h]; unfold put; rw [if_pos hc]
theorem keepC_new {l : List UInt8} {x : Nat} {τ : St} (h : τ.E = 0) (hc : τ.C.contains (Rdg.cut l x τ.a) = false) : Rdg.rKeepC l x τ = { τ with C := τ.C ++ [Rdg.cut l x τ.a] } := by
  unfold Rdg.rKeepC; rw [if_pos h]; unfold put; rw [hc]; rfl

theorem RF_step (B : Nat) (s : ByteArray) (k1 k2 : Value) (n : Nat) (hs : s.size ≤ 100) (hF : SaidRF B s k1 k2 n) : SaidRF B s k1 k2 (n + 1) := by
  intro w σ hr hn h
  have hpk := pk_hpk s
  unfold Rdg.rFormula
  split
  · rename_i h33
    obtain ⟨hE, hp⟩ := Rdg.sees_live h33
    have f1 := Rdg.at1_fw hpk (by omega) h33
    have hlt := hpk σ.a (by omega)
    have hn' : s.size + 1 - σ.a ≤ n + 1 := by unfold Rdg.need at hn; rw [if_pos hE] at hn; exact hn
    exact RF_not w B s σ k1 k2 hs hr n (hide h33) hlt (hr.fw f1 rfl) (need_le (by omega) (fun _ => by simp; omega)) hF h
  · rename_i h33
    have h33' : Rdg.seesB (pk s) σ 33 = false := by simpa using h33
    split
    · rename_i h8
      have h8' : Rdg.seesB (pk s) σ 80 = true ∨ Rdg.seesB (pk s) σ 81 = true := by simpa using h8
      have hlive : σ.E = 0 ∧ pk s σ.a ≠ 0 := by
        rcases h8' with e | e
        · obtain ⟨a1, a2⟩ := Rdg.sees_live e; exact ⟨a1, by omega⟩
        · obtain ⟨a1, a2⟩ := Rdg.sees_live e; exact ⟨a1, by omega⟩
      obtain ⟨hE, hp⟩ := hlive
      have f1 : Rdg.Fw s.size σ { σ with a := σ.a + 1 } := by
        rcases h8' with e | e
        · exact Rdg.at1_fw hpk (by omega) e
        · exact Rdg.at1_fw hpk (by omega) e
      have hlt := hpk σ.a hp
      have hd8 := hr.d8 hE
      have hn' : s.size + 1 - σ.a ≤ n + 1 := by unfold Rdg.need at hn; rw [if_pos hE] at hn; exact hn
      have hr1 : Rdg.Rdy s.size { σ with a := σ.a + 1 } := hr.fw f1 rfl
      have hr4 := hr1.open hpk hd8
      have f2 := Rdg.rOpen_fw hpk hr1.top
      have hn4 : Rdg.need s.size (Rdg.rOpen (pk s) { σ with a := σ.a + 1 }) ≤ n + 1 := need_le (by omega) (fun _ => by have := f2.le; simp at this; omega)
      obtain ⟨f3, d3⟩ := Rdg.rTerm_fw hpk s.data.toList (n + 1) (Rdg.rOpen (pk s) { σ with a := σ.a + 1 }) f2.top
      rw [Rdg.open_d] at d3
      generalize h5 : (Rdg.rTerm s.data.toList (pk s) (n + 1) (Rdg.rOpen (pk s) { σ with a := σ.a + 1 })).1 = σ5 at f3 d3
      have f4 := Rdg.rShut_fw hpk f3.top
      have ff := ((f1.trans f2).trans f3).trans f4
      generalize ht : Rdg.rShut (pk s) σ5 = τ at f4 ff
      have hfit : τ.C.length ≤ 500 := by have := ff.c; have := ff.top; have := hr.c; have := ff.le; omega
      have hd5 : 1 ≤ σ5.d ∧ σ5.d ≤ 9 := by simp at d3; omega
      cases h80 : Rdg.seesB (pk s) σ 80 with
      | true =>
        by_cases hE2 : τ.E = 0
        · cases hc : τ.C.contains (Rdg.cut s.data.toList σ.a τ.a) with
          | true =>
            rw [keepC_old hE2 hc]
            exact RF_cp_old w B s σ k1 k2 hs hr n (hide h33') (hide h80) (by omega) hd8 hr4 hn4 σ5 (hide h5) f3.top hd5 τ (hide ht) (hide hE2) ff.le ff.top hfit _ (hide rfl) (hide hc) h
          | false =>
            rw [keepC_new hE2 hc]
            exact RF_cp_new w B s σ k1 k2 hs hr n (hide h33') (hide h80) (by omega) hd8 hr4 hn4 σ5 (hide h5) f3.top hd5 τ (hide ht) (hide hE2) ff.le ff.top hfit _ (hide rfl) (hide hc) h
        · rw [keepC_bad hE2]
          exact RF_cp_bad w B s σ k1 k2 hs hr n (hide h33') (hide h80) (by omega) hd8 hr4 hn4 σ5 (hide h5) f3.top hd5 τ (hide ht) (hide hE2) h
      | false =>
        have h81 : Rdg.seesB (pk s) σ 81 = true := by rw [h80] at h8'; simpa using h8'
        by_cases hE2 : τ.E = 0
        · cases hc : τ.C.contains (Rdg.cut s.data.toList σ.a τ.a) with
          | true =>
            rw [keepC_old hE2 hc]
            exact RF_cq_old w B s σ k1 k2 hs hr n (hide h33') (hide h80) (hide h81) (by omega) hd8 hr4 hn4 σ5 (hide h5) f3.top hd5 τ (hide ht) (hide hE2) ff.le ff.top hfit _ (hide rfl) (hide hc) h
          | false =>
            rw [keepC_new hE2 hc]
            exact RF_cq_new w B s σ k1 k2 hs hr n (hide h33') (hide h80) (hide h81) (by omega) hd8 hr4 hn4 σ5 (hide h5) f3.top hd5 τ (hide ht) (hide hE2) ff.le ff.top hfit _ (hide rfl) (hide hc) h
        · rw [keepC_bad hE2]
          exact RF_cq_bad w B s σ k1 k2 hs hr n (hide h33') (hide h80) (hide h81) (by omega) hd8 hr4 hn4 σ5 (hide h5) f3.top hd5 τ (hide ht) (hide hE2) h
    · rename_i h8
      have h8' : Rdg.seesB (pk s) σ 80 = false ∧ Rdg.seesB (pk s) σ 81 = false := by simpa using h8
      split
      · rename_i h40
        obtain ⟨hE, hp⟩ := Rdg.sees_live h40
        have hlt := hpk σ.a (by omega)
        have hd8 := hr.d8 hE
        have hn' : s.size + 1 - σ.a ≤ n + 1 := by unfold Rdg.need at hn; rw [if_pos hE] at hn; exact hn
        have hr5 := hr.open hpk hd8
        have f2 := Rdg.rOpen_fw hpk hr.top
        have hn5 : Rdg.need s.size (Rdg.rOpen (pk s) σ) ≤ n := need_le (by omega) (fun e => by
          have := Rdg.open_live (pk s) σ e
          rw [this.2.2.2]; simp; omega)
        obtain ⟨f3, d3⟩ := Rdg.rFormula_fw hpk s.data.toList n (Rdg.rOpen (pk s) σ) f2.top
        have hr6 := hr5.fw f3 d3
        rw [Rdg.open_d] at d3
        have hn6 : 1 ≤ n := by omega
        have hlive6 : (Rdg.rFormula s.data.toList (pk s) n (Rdg.rOpen (pk s) σ)).E = 0 → σ.a + 1 ≤ (Rdg.rFormula s.data.toList (pk s) n (Rdg.rOpen (pk s) σ)).a := fun e => by
          have ho : (Rdg.rOpen (pk s) σ).E = 0 := Decidable.byContradiction fun hne => f3.dead hne e
          have := Rdg.open_live (pk s) σ ho
          have h1 := f3.le
          rw [this.2.2.2] at h1 ⊢
          simpa using h1
        generalize h6 : Rdg.rFormula s.data.toList (pk s) n (Rdg.rOpen (pk s) σ) = σ6 at f3 d3 hr6 hlive6
        have f4 := Rdg.rOne_fw hpk (l := [38, 124, 62, 45]) (by rfl) f3.top
        have d4 := Rdg.one_d (pk s) [38, 124, 62, 45] σ6
        have hr7 := hr6.fw f4 d4
        cases h7 : Rdg.rOne (pk s) [38, 124, 62, 45] σ6 with
        | mk σ7 c7 =>
          rw [h7] at f4 d4 hr7
          simp only at f4 d4 hr7
          have hn7 : Rdg.need s.size σ7 ≤ n := need_le hn6 (fun e => by
            have ho : σ6.E = 0 := Decidable.byContradiction fun hne => f4.dead hne e
            have h1 := hlive6 ho
            have h2 := f4.le
            omega)
          obtain ⟨f5, d5⟩ := Rdg.rFormula_fw hpk s.data.toList n σ7 f4.top
          simp only
          generalize h8e : Rdg.rFormula s.data.toList (pk s) n σ7 = σ8 at f5 d5
          exact RF_br w B s σ k1 k2 hs hr n (hide h33') (hide h8'.1) (hide h8'.2) (hide h40) hd8 hr5 hn5 hF σ6 (hide h6) f3.top σ7 c7 (hide h7) hr7 hn7 σ8 (hide h8e) f5.top (by omega) h
      · rename_i h40
        have h40' : Rdg.seesB (pk s) σ 40 = false := by simpa using h40
        obtain ⟨f3, d3⟩ := Rdg.rTerm_fw hpk s.data.toList (n + 1) σ hr.top
        have hr5 := hr.fw f3 d3
        have hdead : (Rdg.rTerm s.data.toList (pk s) (n + 1) σ).1.E = 0 → σ.E = 0 := fun e => Decidable.byContradiction fun hne => f3.dead hne e
        generalize h5 : (Rdg.rTerm s.data.toList (pk s) (n + 1) σ).1 = σ5 at f3 d3 hr5 hdead
        have f4 := Rdg.rOne_fw hpk (l := [61]) (by rfl) f3.top
        have d4 := Rdg.one_d (pk s) [61] σ5
        have hr6 := hr5.fw f4 d4
        cases h6 : Rdg.rOne (pk s) [61] σ5 with
        | mk σ6 c6 =>
          rw [h6] at f4 d4 hr6
          simp only at f4 d4 hr6
          have hn6 : Rdg.need s.size σ6 ≤ n + 1 := need_le (by omega) (fun e => by
            have ho : σ5.E = 0 := Decidable.byContradiction fun hne => f4.dead hne e
            have hE := hdead ho
            unfold Rdg.need at hn; rw [if_pos hE] at hn
            have := f4.le; have := f3.le; omega)
          exact RF_eq w B s σ k1 k2 hs hr n (hide h33') (hide h8'.1) (hide h8'.2) (hide h40') hn σ5 (hide h5) f3.top σ6 c6 (hide h6) hr6 hn6 h

theorem RF_any (B : Nat) (s : ByteArray) (k1 k2 : Value) (hs : s.size ≤ 100) : ∀ n, SaidRF B s k1 k2 n
  | 0 => fun w σ hr hn h => absurd hn (by have := need_pos hr.top; omega)
  | n + 1 => RF_step B s k1 k2 n hs (RF_any B s k1 k2 hs n)

end Go.Proofs.YthcppbmkacbbiaaGreat
