import Derived.Test.YthfjhjghohincaaRefA
namespace Go.Proofs.Ythfjhjghohincaa
open Go.RowKit
open Rdg (St put)

/-- The contract of the document's term at one fuel. -/
def SaidRT (B : Nat) (s : ByteArray) (on : Bool) (k1 k2 : Value) (n : Nat) : Prop :=
  ∀ (w : World) (σ : St), Rdg.Rdy s.size σ → Rdg.need s.size σ ≤ n → RI w B s σ on k1 k2 →
    Calls Try.prog 44 #[.pointer (some ⟨B, 0, none⟩)] w fun e w' => e = .returned (.int .i64 (Rdg.rTerm s.data.toList (pk s) n σ).2) ∧ RI w' B s (Rdg.rTerm s.data.toList (pk s) n σ).1 on k1 k2 ∧ Below B w w'

theorem keep_bad {l : List UInt8} {x : Nat} {τ : St} (h : τ.E ≠ 0) : Rdg.rKeepT l x τ = (τ, 0) := by unfold Rdg.rKeepT; rw [if_neg h]
theorem keep_old {l : List UInt8} {x : Nat} {τ : St} (h : τ.E = 0) (hc : τ.T.contains (Rdg.cut l x τ.a) = true) : Rdg.rKeepT l x τ = (τ, τ.T.idxOf (Rdg.cut l x τ.a)) := by
  unfold Rdg.rKeepT; rw [if_pos h]; unfold put; rw [if_pos hc]
theorem keep_new {l : List UInt8} {x : Nat} {τ : St} (h : τ.E = 0) (hc : τ.T.contains (Rdg.cut l x τ.a) = false) : Rdg.rKeepT l x τ = ({ τ with T := τ.T ++ [Rdg.cut l x τ.a] }, τ.T.length) := by
  have hn : ¬ Rdg.cut l x τ.a ∈ τ.T := by simpa using hc
  unfold Rdg.rKeepT; rw [if_pos h]; unfold put; rw [hc, List.idxOf_eq_length hn]; rfl
theorem atIdx_old {T : List (List UInt8)} {t : List UInt8} (h : T.contains t = true) : atIdx T t = (T.idxOf t : Int) := by unfold atIdx; rw [if_pos h]
theorem atIdx_new {T : List (List UInt8)} {t : List UInt8} (h : T.contains t = false) : atIdx T t = -1 := by unfold atIdx; rw [h]; rfl

theorem app_cell {W w3 : World} {o : Obj} {v : Value} {B n : Nat} {xs : List Value} (hg : (W.alloc o).grownBy w3 v.ownBlock) (hlt : B < W.heap.size) (r : W.ownsRow (B + 1) 9 1 v n xs) (i : Nat) : w3.cell? ⟨B, i, none⟩ = W.cell? ⟨B, i, none⟩ :=
  World.cell?_of_block (((World.grownBy_alloc W o v.ownBlock).trans hg).block B hlt (fun e => by have := (r.lt B e.symm).1; omega))
theorem app_frozen {W w3 : World} {o : Obj} {v : Value} {B n : Nat} {xs : List Value} (hg : (W.alloc o).grownBy w3 v.ownBlock) (hlt : B < W.heap.size) (r : W.ownsRow (B + 1) 9 1 v n xs) (i : Nat) : w3.frozen? ⟨B, i, none⟩ = W.frozen? ⟨B, i, none⟩ :=
  World.frozen?_of_block (((World.grownBy_alloc W o v.ownBlock).trans hg).block B hlt (fun e => by have := (r.lt B e.symm).1; omega))
theorem own_slice {w : World} {base n : Nat} {v : Value} {xs : List Value} (h : w.ownsRow base 9 1 v n xs) : ∃ ao cap, v = .slice ao n cap := by
  obtain ⟨_, h2⟩ := h
  rcases h2 with ⟨e, e2⟩ | ⟨g, cap, cur, e, _⟩
  · exact ⟨none, 0, by rw [e2]; exact e⟩
  · exact ⟨_, _, e⟩

section
variable (w : World) (B : Nat) (s : ByteArray) (σ : St) (on : Bool) (k1 k2 : Value)

set_option maxHeartbeats 1000000 in
theorem Rterm_else_bad (hs : s.size ≤ 100) (hr : Rdg.Rdy s.size σ) (τ : St) (c : Int) (HO : Hid (Rdg.rOne (pk s) Rdg.letters σ = (τ, c))) (h102 : (c == 102) = false) (h103 : (c == 103) = false) (HE : Hid (τ.E ≠ 0)) (h : RI w B s σ on k1 k2) :
    Calls Try.prog 44 #[.pointer (some ⟨B, 0, none⟩)] w fun e w' => e = .returned (.int .i64 (((τ, 0) : St × Nat)).2) ∧ RI w' B s (((τ, 0) : St × Nat)).1 on k1 k2 ∧ Below B w w' := by
  go_enter Try.func44, Try.ntmps44
  have c1' := h.c1
  go_wp2_with fail
  refine (one_list w B s σ on k1 k2 _ Rdg.letters intsL (by decide) (by decide) hs hr.top h).mono ?_
  rw [unhide HO]
  rintro e w1 ⟨rfl, hI, hB⟩
  simp only at hI
  clear c1'
  have c3 := hI.c3
  have hne : (τ.E != 0) = true := by simpa using unhide HE
  go_wp2_with fail
  go_ret
  exact ⟨rfl, hI, hB⟩

set_option maxHeartbeats 1000000 in
theorem Rterm_else_old (hs : s.size ≤ 100) (hr : Rdg.Rdy s.size σ) (τ : St) (c : Int) (HO : Hid (Rdg.rOne (pk s) Rdg.letters σ = (τ, c))) (h102 : (c == 102) = false) (h103 : (c == 103) = false) (HE : Hid (τ.E = 0)) (hle : σ.a ≤ τ.a) (hle2 : τ.a ≤ s.size) (hT : τ.T.length ≤ 500) (tx : List UInt8) (HX : Hid (Rdg.cut s.data.toList σ.a τ.a = tx)) (HC : Hid (τ.T.contains tx = true)) (h : RI w B s σ on k1 k2) :
    Calls Try.prog 44 #[.pointer (some ⟨B, 0, none⟩)] w fun e w' => e = .returned (.int .i64 (((τ, τ.T.idxOf tx) : St × Nat)).2) ∧ RI w' B s (((τ, τ.T.idxOf tx) : St × Nat)).1 on k1 k2 ∧ Below B w w' := by
  go_enter Try.func44, Try.ntmps44
  have c1' := h.c1
  go_wp2_with fail
  refine (one_list w B s σ on k1 k2 _ Rdg.letters intsL (by decide) (by decide) hs hr.top h).mono ?_
  rw [unhide HO]
  rintro e w1 ⟨rfl, hI, hB⟩
  simp only at hI
  clear c1'
  have c0 := hI.c0
  have c1 := hI.c1
  have c3 := hI.c3
  rw [unhide HE] at c3
  obtain ⟨v4, v5, r1, r2, r3, r4, r5⟩ := hI.rows
  have hx1 : (σ.a : Int) ≤ (τ.a : Int) := by omega
  have hx2 : (τ.a : Int) ≤ (s.size : Int) := by omega
  go_wp2_with fail
  go_quiet (fail)
  go_wp2_with fail
  rw [ext_str, unhide HX]
  refine (at_any _ tx τ.T v4 (B + 1) (by omega) (by exact r3)).mono ?_
  rw [atIdx_old (unhide HC)]
  rintro e w2 ⟨rfl, hw2⟩
  subst hw2
  have hnn : decide (((τ.T.idxOf tx : Nat) : Int) < 0) = false := by simp
  go_wp2_with fail
  go_ret
  exact ⟨rfl, hI.drewN _, hB.trans (below_drewN _ _ _)⟩

set_option maxRecDepth 100000 in
set_option maxHeartbeats 1000000 in
theorem Rterm_else_new (hs : s.size ≤ 100) (hr : Rdg.Rdy s.size σ) (τ : St) (c : Int) (HO : Hid (Rdg.rOne (pk s) Rdg.letters σ = (τ, c))) (h102 : (c == 102) = false) (h103 : (c == 103) = false) (HE : Hid (τ.E = 0)) (hle : σ.a ≤ τ.a) (hle2 : τ.a ≤ s.size) (hT : τ.T.length ≤ 500) (tx : List UInt8) (HX : Hid (Rdg.cut s.data.toList σ.a τ.a = tx)) (HC : Hid (τ.T.contains tx = false)) (h : RI w B s σ on k1 k2) :
    Calls Try.prog 44 #[.pointer (some ⟨B, 0, none⟩)] w fun e w' => e = .returned (.int .i64 ((({ τ with T := τ.T ++ [tx] }, τ.T.length) : St × Nat)).2) ∧ RI w' B s ((({ τ with T := τ.T ++ [tx] }, τ.T.length) : St × Nat)).1 on k1 k2 ∧ Below B w w' := by
  go_enter Try.func44, Try.ntmps44
  have c1' := h.c1
  go_wp2_with fail
  refine (one_list w B s σ on k1 k2 _ Rdg.letters intsL (by decide) (by decide) hs hr.top h).mono ?_
  rw [unhide HO]
  rintro e w1 ⟨rfl, hI, hB⟩
  simp only at hI
  clear c1'
  have c0 := hI.c0
  have c1 := hI.c1
  have c3 := hI.c3
  rw [unhide HE] at c3
  obtain ⟨v4, v5, r1, r2, r3, r4, r5⟩ := hI.rows
  have hx1 : (σ.a : Int) ≤ (τ.a : Int) := by omega
  have hx2 : (τ.a : Int) ≤ (s.size : Int) := by omega
  go_wp2_with fail
  go_quiet (fail)
  go_wp2_with fail
  rw [ext_str, unhide HX]
  refine (at_any _ tx τ.T v4 (B + 1) (by omega) (by exact r3)).mono ?_
  rw [atIdx_new (unhide HC)]
  rintro e w2 ⟨rfl, hw2⟩
  subst hw2
  obtain ⟨i0, hi, hz0, hz1, hz2⟩ := info_parts infoS
  obtain ⟨ao, cap, hv4⟩ := own_slice r3
  subst hv4
  have hlt := hI.lt
  have f4 := hI.fz 4
  have hstr : str tx = .string ⟨tx.toArray⟩ := rfl
  rw [hstr]
  clear hstr
  go_wp2_with (at_builtin; refine wpList_append_own_at _ rfl _ _ 60 rfl (B + 1) 9 i0 (.string ⟨#[]⟩) 1 16 Try.underlying60 hi hz0 hz1 hz2 rfl (by decide) (.slice ao τ.T.length cap) τ.T.length (τ.T.map str) rfl (by exact World.ownsRow.alloc (by exact r3) _) ⟨w1.heap.size, 0, none⟩ 1 1 [str tx] rfl rfl (cell_one_new _ _ _) (str_one tx) (by unfold maxLen; omega) (by omega) (by simp; omega) ?_; intro v' w3 hown hgrow hnil hloc; obtain ⟨ao2, cap2, hv2⟩ := own_slice hown; subst hv2; have c4' := (app_cell hgrow (by exact hlt) (by exact r3) 4).trans (by exact r1); have f4' := (app_frozen hgrow (by exact hlt) (by exact r3) 4).trans (by exact f4); clear hnil)
  have P := RI.app4 (hI.drewN _) (by exact r1) (by exact r2) (by exact r3) (by exact r4) r5 hown hgrow hloc
  go_ret
  exact ⟨rfl, P.1, hB.trans ((below_drewN _ _ _).trans P.2)⟩

end

end Go.Proofs.Ythfjhjghohincaa
