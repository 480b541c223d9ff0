import Derived.Test.YthcppbmkacbbiaaGreatRefAM
namespace Go.Proofs.YthcppbmkacbbiaaGreat
open Go.RowKit
open Rdg (St put)

section
variable (w : World) (B : Nat) (s : ByteArray) (σ : St) (on : Bool) (k1 k2 : Value)

set_option maxHeartbeats 1000000 in
theorem Rterm_g_bad (hs : s.size ≤ 100) (hr : Rdg.Rdy s.size σ) (n : Nat) (σ1 : St) (HO : Hid (Rdg.rOne (pk s) Rdg.letters σ = (σ1, 103))) (h1a : σ1.a ≤ s.size) (h1d : σ1.d ≤ 8) (hr2 : Rdg.Rdy s.size (Rdg.rOpen (pk s) σ1)) (hn2 : Rdg.need s.size (Rdg.rOpen (pk s) σ1) ≤ n) (hT : SaidRT B s on k1 k2 n) (σ3 : St) (H3 : Hid ((Rdg.rTerm s.data.toList (pk s) n (Rdg.rOpen (pk s) σ1)).1 = σ3)) (h3a : σ3.a ≤ s.size) (σ4 : St) (c4 : Int) (H4 : Hid (Rdg.rOne (pk s) [44] σ3 = (σ4, c4))) (hr4 : Rdg.Rdy s.size σ4) (hn4 : Rdg.need s.size σ4 ≤ n) (σ5 : St) (H5 : Hid ((Rdg.rTerm s.data.toList (pk s) n σ4).1 = σ5)) (h5a : σ5.a ≤ s.size) (h5d : 1 ≤ σ5.d ∧ σ5.d ≤ 9) (τ : St) (HT : Hid (Rdg.rShut (pk s) σ5 = τ)) (HE : Hid (τ.E ≠ 0)) (h : RI w B s σ on k1 k2) :
    Calls Tryz.prog 152 #[.pointer (some ⟨B, 0, none⟩)] w fun e w' => e = .returned (.int .i64 (((τ, 0) : St × Nat)).2) ∧ RI w' B s (((τ, 0) : St × Nat)).1 on k1 k2 ∧ Below B w w' := by
  go_enter Tryz.func152, Tryz.ntmps152
  have c1' := h.c1
  go_wp2_with fail
  refine (one_list w B s σ on k1 k2 _ Rdg.letters intsL (by decide) (by decide) hs hr.top h).mono ?_
  rw [unhide HO]
  rintro e w1 ⟨rfl, hI1, hB1⟩
  simp only at hI1
  clear c1'
  go_wp2_with fail
  refine (Ropen_any w1 B s σ1 on k1 k2 hs h1a h1d hI1).mono ?_
  rintro e w2 ⟨rfl, hI2, hB2⟩
  go_wp2_with fail
  refine (hT w2 _ hr2 hn2 hI2).mono ?_
  rw [unhide H3]
  generalize (Rdg.rTerm s.data.toList (pk s) n (Rdg.rOpen (pk s) σ1)).2 = z3
  rintro e w3 ⟨rfl, hI3, hB3⟩
  go_wp2_with fail
  refine (one_list w3 B s σ3 on k1 k2 _ [44] ints44 (by decide) (by decide) hs h3a hI3).mono ?_
  rw [unhide H4]
  rintro e w4 ⟨rfl, hI4, hB4⟩
  simp only at hI4
  go_wp2_with fail
  refine (hT w4 _ hr4 hn4 hI4).mono ?_
  rw [unhide H5]
  generalize (Rdg.rTerm s.data.toList (pk s) n σ4).2 = z5
  rintro e w5 ⟨rfl, hI5, hB5⟩
  go_wp2_with fail
  refine (Rshut_any w5 B s σ5 on k1 k2 hs h5a h5d.2 h5d.1 hI5).mono ?_
  rw [unhide HT]
  rintro e w6 ⟨rfl, hI, hB6⟩
  have hB := ((((hB1.trans hB2).trans hB3).trans hB4).trans hB5).trans hB6
  clear hB1 hB2 hB3 hB4 hB5 hB6 hI1 hI2 hI3 hI4 hI5
  have c3 := hI.c3
  have hne : (τ.E != 0) = true := by simpa using unhide HE
  go_wp2_with fail
  go_ret
  exact ⟨rfl, hI, hB⟩

set_option maxHeartbeats 1000000 in
theorem Rterm_g_old (hs : s.size ≤ 100) (hr : Rdg.Rdy s.size σ) (n : Nat) (σ1 : St) (HO : Hid (Rdg.rOne (pk s) Rdg.letters σ = (σ1, 103))) (h1a : σ1.a ≤ s.size) (h1d : σ1.d ≤ 8) (hr2 : Rdg.Rdy s.size (Rdg.rOpen (pk s) σ1)) (hn2 : Rdg.need s.size (Rdg.rOpen (pk s) σ1) ≤ n) (hT : SaidRT B s on k1 k2 n) (σ3 : St) (H3 : Hid ((Rdg.rTerm s.data.toList (pk s) n (Rdg.rOpen (pk s) σ1)).1 = σ3)) (h3a : σ3.a ≤ s.size) (σ4 : St) (c4 : Int) (H4 : Hid (Rdg.rOne (pk s) [44] σ3 = (σ4, c4))) (hr4 : Rdg.Rdy s.size σ4) (hn4 : Rdg.need s.size σ4 ≤ n) (σ5 : St) (H5 : Hid ((Rdg.rTerm s.data.toList (pk s) n σ4).1 = σ5)) (h5a : σ5.a ≤ s.size) (h5d : 1 ≤ σ5.d ∧ σ5.d ≤ 9) (τ : St) (HT : Hid (Rdg.rShut (pk s) σ5 = τ)) (HE : Hid (τ.E = 0)) (hle : σ.a ≤ τ.a) (hle2 : τ.a ≤ s.size) (hTl : τ.T.length ≤ 500) (tx : List UInt8) (HX : Hid (Rdg.cut s.data.toList σ.a τ.a = tx)) (HC : Hid (τ.T.contains tx = true)) (h : RI w B s σ on k1 k2) :
    Calls Tryz.prog 152 #[.pointer (some ⟨B, 0, none⟩)] w fun e w' => e = .returned (.int .i64 (((τ, τ.T.idxOf tx) : St × Nat)).2) ∧ RI w' B s (((τ, τ.T.idxOf tx) : St × Nat)).1 on k1 k2 ∧ Below B w w' := by
  go_enter Tryz.func152, Tryz.ntmps152
  have c1' := h.c1
  go_wp2_with fail
  refine (one_list w B s σ on k1 k2 _ Rdg.letters intsL (by decide) (by decide) hs hr.top h).mono ?_
  rw [unhide HO]
  rintro e w1 ⟨rfl, hI1, hB1⟩
  simp only at hI1
  clear c1'
  go_wp2_with fail
  refine (Ropen_any w1 B s σ1 on k1 k2 hs h1a h1d hI1).mono ?_
  rintro e w2 ⟨rfl, hI2, hB2⟩
  go_wp2_with fail
  refine (hT w2 _ hr2 hn2 hI2).mono ?_
  rw [unhide H3]
  generalize (Rdg.rTerm s.data.toList (pk s) n (Rdg.rOpen (pk s) σ1)).2 = z3
  rintro e w3 ⟨rfl, hI3, hB3⟩
  go_wp2_with fail
  refine (one_list w3 B s σ3 on k1 k2 _ [44] ints44 (by decide) (by decide) hs h3a hI3).mono ?_
  rw [unhide H4]
  rintro e w4 ⟨rfl, hI4, hB4⟩
  simp only at hI4
  go_wp2_with fail
  refine (hT w4 _ hr4 hn4 hI4).mono ?_
  rw [unhide H5]
  generalize (Rdg.rTerm s.data.toList (pk s) n σ4).2 = z5
  rintro e w5 ⟨rfl, hI5, hB5⟩
  go_wp2_with fail
  refine (Rshut_any w5 B s σ5 on k1 k2 hs h5a h5d.2 h5d.1 hI5).mono ?_
  rw [unhide HT]
  rintro e w6 ⟨rfl, hI, hB6⟩
  have hB := ((((hB1.trans hB2).trans hB3).trans hB4).trans hB5).trans hB6
  clear hB1 hB2 hB3 hB4 hB5 hB6 hI1 hI2 hI3 hI4 hI5
  have c0 := hI.c0
  have c1 := hI.c1
  have c3 := hI.c3
  rw [unhide HE] at c3
  obtain ⟨v4, v5, r1, r2, r3, r4, r5⟩ := hI.rows
  have hx1 : (σ.a : Int) ≤ (τ.a : Int) := by omega
  have hx2 : (τ.a : Int) ≤ (s.size : Int) := by omega
  go_wp2_with fail
  go_quiet (fail)
  go_wp2_with fail
  rw [ext_str, unhide HX]
  refine (at_any _ tx τ.T v4 (B + 1) (by omega) (by exact r3)).mono ?_
  rw [atIdx_old (unhide HC)]
  rintro e w2 ⟨rfl, hw2⟩
  subst hw2
  have hnn : decide (((τ.T.idxOf tx : Nat) : Int) < 0) = false := by simp
  go_wp2_with fail
  go_ret
  exact ⟨rfl, hI.drewN _, hB.trans (below_drewN _ _ _)⟩

set_option maxRecDepth 100000 in
set_option maxHeartbeats 1000000 in
theorem Rterm_g_new (hs : s.size ≤ 100) (hr : Rdg.Rdy s.size σ) (n : Nat) (σ1 : St) (HO : Hid (Rdg.rOne (pk s) Rdg.letters σ = (σ1, 103))) (h1a : σ1.a ≤ s.size) (h1d : σ1.d ≤ 8) (hr2 : Rdg.Rdy s.size (Rdg.rOpen (pk s) σ1)) (hn2 : Rdg.need s.size (Rdg.rOpen (pk s) σ1) ≤ n) (hT : SaidRT B s on k1 k2 n) (σ3 : St) (H3 : Hid ((Rdg.rTerm s.data.toList (pk s) n (Rdg.rOpen (pk s) σ1)).1 = σ3)) (h3a : σ3.a ≤ s.size) (σ4 : St) (c4 : Int) (H4 : Hid (Rdg.rOne (pk s) [44] σ3 = (σ4, c4))) (hr4 : Rdg.Rdy s.size σ4) (hn4 : Rdg.need s.size σ4 ≤ n) (σ5 : St) (H5 : Hid ((Rdg.rTerm s.data.toList (pk s) n σ4).1 = σ5)) (h5a : σ5.a ≤ s.size) (h5d : 1 ≤ σ5.d ∧ σ5.d ≤ 9) (τ : St) (HT : Hid (Rdg.rShut (pk s) σ5 = τ)) (HE : Hid (τ.E = 0)) (hle : σ.a ≤ τ.a) (hle2 : τ.a ≤ s.size) (hTl : τ.T.length ≤ 500) (tx : List UInt8) (HX : Hid (Rdg.cut s.data.toList σ.a τ.a = tx)) (HC : Hid (τ.T.contains tx = false)) (h : RI w B s σ on k1 k2) :
    Calls Tryz.prog 152 #[.pointer (some ⟨B, 0, none⟩)] w fun e w' => e = .returned (.int .i64 ((({ τ with T := τ.T ++ [tx] }, τ.T.length) : St × Nat)).2) ∧ RI w' B s ((({ τ with T := τ.T ++ [tx] }, τ.T.length) : St × Nat)).1 on k1 k2 ∧ Below B w w' := by
  go_enter Tryz.func152, Tryz.ntmps152
  have c1' := h.c1
  go_wp2_with fail
  refine (one_list w B s σ on k1 k2 _ Rdg.letters intsL (by decide) (by decide) hs hr.top h).mono ?_
  rw [unhide HO]
  rintro e w1 ⟨rfl, hI1, hB1⟩
  simp only at hI1
  clear c1'
  go_wp2_with fail
  refine (Ropen_any w1 B s σ1 on k1 k2 hs h1a h1d hI1).mono ?_
  rintro e w2 ⟨rfl, hI2, hB2⟩
  go_wp2_with fail
  refine (hT w2 _ hr2 hn2 hI2).mono ?_
  rw [unhide H3]
  generalize (Rdg.rTerm s.data.toList (pk s) n (Rdg.rOpen (pk s) σ1)).2 = z3
  rintro e w3 ⟨rfl, hI3, hB3⟩
  go_wp2_with fail
  refine (one_list w3 B s σ3 on k1 k2 _ [44] ints44 (by decide) (by decide) hs h3a hI3).mono ?_
  rw [unhide H4]
  rintro e w4 ⟨rfl, hI4, hB4⟩
  simp only at hI4
  go_wp2_with fail
  refine (hT w4 _ hr4 hn4 hI4).mono ?_
  rw [unhide H5]
  generalize (Rdg.rTerm s.data.toList (pk s) n σ4).2 = z5
  rintro e w5 ⟨rfl, hI5, hB5⟩
  go_wp2_with fail
  refine (Rshut_any w5 B s σ5 on k1 k2 hs h5a h5d.2 h5d.1 hI5).mono ?_
  rw [unhide HT]
  rintro e w6 ⟨rfl, hI, hB6⟩
  have hB := ((((hB1.trans hB2).trans hB3).trans hB4).trans hB5).trans hB6
  clear hB1 hB2 hB3 hB4 hB5 hB6 hI1 hI2 hI3 hI4 hI5
  have c0 := hI.c0
  have c1 := hI.c1
  have c3 := hI.c3
  rw [unhide HE] at c3
  obtain ⟨v4, v5, r1, r2, r3, r4, r5⟩ := hI.rows
  have hx1 : (σ.a : Int) ≤ (τ.a : Int) := by omega
  have hx2 : (τ.a : Int) ≤ (s.size : Int) := by omega
  go_wp2_with fail
  go_quiet (fail)
  go_wp2_with fail
  rw [ext_str, unhide HX]
  refine (at_any _ tx τ.T v4 (B + 1) (by omega) (by exact r3)).mono ?_
  rw [atIdx_new (unhide HC)]
  rintro e w2 ⟨rfl, hw2⟩
  subst hw2
  obtain ⟨i0, hi, hz0, hz1, hz2⟩ := info_parts infoS
  obtain ⟨ao, cap, hv4⟩ := own_slice r3
  subst hv4
  have hlt := hI.lt
  have f4 := hI.fz 4
  have hstr : str tx = .string ⟨tx.toArray⟩ := rfl
  rw [hstr]
  clear hstr
  go_wp2_with (at_builtin; refine wpList_append_own_at _ rfl _ _ 116 rfl (B + 1) 9 i0 (.string ⟨#[]⟩) 1 16 Tryz.underlying116 hi hz0 hz1 hz2 rfl (by decide) (.slice ao τ.T.length cap) τ.T.length (τ.T.map str) rfl (by exact World.ownsRow.alloc (by exact r3) _) ⟨w6.heap.size, 0, none⟩ 1 1 [str tx] rfl rfl (cell_one_new _ _ _) (str_one tx) (by unfold maxLen; omega) (by omega) (by simp; omega) ?_; intro v' w3 hown hgrow hnil hloc; obtain ⟨ao2, cap2, hv2⟩ := own_slice hown; subst hv2; have c4' := (app_cell hgrow (by exact hlt) (by exact r3) 4).trans (by exact r1); have f4' := (app_frozen hgrow (by exact hlt) (by exact r3) 4).trans (by exact f4); clear hnil)
  have P := RI.app4 (hI.drewN _) (by exact r1) (by exact r2) (by exact r3) (by exact r4) r5 hown hgrow hloc
  go_ret
  exact ⟨rfl, P.1, hB.trans ((below_drewN _ _ _).trans P.2)⟩

end

end Go.Proofs.YthcppbmkacbbiaaGreat
