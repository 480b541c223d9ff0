import Derived.Test.YthcppbmkacbbiaaGreatRefFM
namespace Go.Proofs.YthcppbmkacbbiaaGreat
open Go.RowKit
open Rdg (St put)

section
variable (w : World) (B : Nat) (s : ByteArray) (σ : St) (k1 k2 : Value)

set_option maxRecDepth 100000 in
set_option maxHeartbeats 1000000 in
theorem RF_cp_bad (hs : s.size ≤ 100) (_hr : Rdg.Rdy s.size σ) (n : Nat) (H33 : Hid (Rdg.seesB (pk s) σ 33 = false)) (H80 : Hid (Rdg.seesB (pk s) σ 80 = true)) (h1a : σ.a + 1 ≤ s.size) (hd8 : σ.d ≤ 8) (hr4 : Rdg.Rdy s.size (Rdg.rOpen (pk s) { σ with a := σ.a + 1 })) (hn4 : Rdg.need s.size (Rdg.rOpen (pk s) { σ with a := σ.a + 1 }) ≤ n + 1) (σ5 : St) (H5 : Hid ((Rdg.rTerm s.data.toList (pk s) (n + 1) (Rdg.rOpen (pk s) { σ with a := σ.a + 1 })).1 = σ5)) (h5a : σ5.a ≤ s.size) (h5d : 1 ≤ σ5.d ∧ σ5.d ≤ 9) (τ : St) (HT : Hid (Rdg.rShut (pk s) σ5 = τ)) (HE : Hid (τ.E ≠ 0)) (h : RI w B s σ false k1 k2) :
    Calls Tryz.prog 98 #[.pointer (some ⟨B, 0, none⟩)] w fun e w' => (∃ b : Bool, e = .returned (.bool b)) ∧ RI w' B s (τ) false k1 k2 ∧ Below B w w' := by
  have c1' := h.c1
  go_enter Tryz.func98, Tryz.ntmps98
  go_wp2_with fail
  refine (sees_any w B s σ false k1 k2 33 (by omega) h).mono ?_
  rw [unhide H33]
  rintro e w1 ⟨rfl, h1, b1⟩
  go_wp2_with fail
  refine (sees_any w1 B s σ false k1 k2 80 (by omega) h1).mono ?_
  rw [unhide H80]
  rintro e w2 ⟨rfl, h2, b2⟩
  have c1 := h2.c1
  have f1 := h2.fz 1
  go_wp2_with fail
  refine (Ropen_any _ B s { σ with a := σ.a + 1 } false k1 k2 hs h1a hd8 (h2.set1 (by omega))).mono ?_
  rintro e w4 ⟨rfl, h4, b4⟩
  go_wp2_with fail
  refine (Rterm_any B s false k1 k2 hs (n + 1) w4 _ hr4 hn4 h4).mono ?_
  rw [unhide H5]
  generalize (Rdg.rTerm s.data.toList (pk s) (n + 1) (Rdg.rOpen (pk s) { σ with a := σ.a + 1 })).2 = z5
  rintro e w5 ⟨rfl, h5, b5⟩
  go_wp2_with fail
  refine (Rshut_any w5 B s σ5 false k1 k2 hs h5a h5d.2 h5d.1 h5).mono ?_
  rw [unhide HT]
  rintro e w6 ⟨rfl, hI, b6⟩
  have hB := (((b1.trans b2).trans (below_set _ _ _ _)).trans b4).trans (b5.trans b6)
  clear b1 b2 b4 b5 b6 h1 h2 h4 h5 c1 f1
  have c3 := hI.c3
  have hne : (τ.E != 0) = true := by simpa using unhide HE
  go_wp2_with fail
  go_ret
  exact ⟨⟨_, rfl⟩, hI, hB⟩

set_option maxRecDepth 100000 in
set_option maxHeartbeats 1000000 in
theorem RF_cp_old (hs : s.size ≤ 100) (_hr : Rdg.Rdy s.size σ) (n : Nat) (H33 : Hid (Rdg.seesB (pk s) σ 33 = false)) (H80 : Hid (Rdg.seesB (pk s) σ 80 = true)) (h1a : σ.a + 1 ≤ s.size) (hd8 : σ.d ≤ 8) (hr4 : Rdg.Rdy s.size (Rdg.rOpen (pk s) { σ with a := σ.a + 1 })) (hn4 : Rdg.need s.size (Rdg.rOpen (pk s) { σ with a := σ.a + 1 }) ≤ n + 1) (σ5 : St) (H5 : Hid ((Rdg.rTerm s.data.toList (pk s) (n + 1) (Rdg.rOpen (pk s) { σ with a := σ.a + 1 })).1 = σ5)) (h5a : σ5.a ≤ s.size) (h5d : 1 ≤ σ5.d ∧ σ5.d ≤ 9) (τ : St) (HT : Hid (Rdg.rShut (pk s) σ5 = τ)) (HE : Hid (τ.E = 0)) (hle : σ.a ≤ τ.a) (hle2 : τ.a ≤ s.size) (hTl : τ.C.length ≤ 500) (tx : List UInt8) (HX : Hid (Rdg.cut s.data.toList σ.a τ.a = tx)) (HC : Hid (τ.C.contains tx = true)) (h : RI w B s σ false k1 k2) :
    Calls Tryz.prog 98 #[.pointer (some ⟨B, 0, none⟩)] w fun e w' => (∃ b : Bool, e = .returned (.bool b)) ∧ RI w' B s (τ) false k1 k2 ∧ Below B w w' := by
  have c1' := h.c1
  go_enter Tryz.func98, Tryz.ntmps98
  go_wp2_with fail
  refine (sees_any w B s σ false k1 k2 33 (by omega) h).mono ?_
  rw [unhide H33]
  rintro e w1 ⟨rfl, h1, b1⟩
  go_wp2_with fail
  refine (sees_any w1 B s σ false k1 k2 80 (by omega) h1).mono ?_
  rw [unhide H80]
  rintro e w2 ⟨rfl, h2, b2⟩
  have c1 := h2.c1
  have f1 := h2.fz 1
  go_wp2_with fail
  refine (Ropen_any _ B s { σ with a := σ.a + 1 } false k1 k2 hs h1a hd8 (h2.set1 (by omega))).mono ?_
  rintro e w4 ⟨rfl, h4, b4⟩
  go_wp2_with fail
  refine (Rterm_any B s false k1 k2 hs (n + 1) w4 _ hr4 hn4 h4).mono ?_
  rw [unhide H5]
  generalize (Rdg.rTerm s.data.toList (pk s) (n + 1) (Rdg.rOpen (pk s) { σ with a := σ.a + 1 })).2 = z5
  rintro e w5 ⟨rfl, h5, b5⟩
  go_wp2_with fail
  refine (Rshut_any w5 B s σ5 false k1 k2 hs h5a h5d.2 h5d.1 h5).mono ?_
  rw [unhide HT]
  rintro e w6 ⟨rfl, hI, b6⟩
  have hB := (((b1.trans b2).trans (below_set _ _ _ _)).trans b4).trans (b5.trans b6)
  clear b1 b2 b4 b5 b6 h1 h2 h4 h5 c1 f1
  have c0 := hI.c0
  have c1 := hI.c1
  have c3 := hI.c3
  rw [unhide HE] at c3
  have c6 := hI.c6
  obtain ⟨v4, v5, r1, r2, r3, r4, r5⟩ := hI.rows
  have hx1 : (σ.a : Int) ≤ (τ.a : Int) := by omega
  have hx2 : (τ.a : Int) ≤ (s.size : Int) := by omega
  go_wp2_with fail
  go_quiet (fail)
  go_wp2_with fail
  rw [ext_str, unhide HX]
  refine (at_any _ tx τ.C v5 (B + 1) (by omega) (by exact r4)).mono ?_
  rw [atIdx_old (unhide HC)]
  rintro e w2 ⟨rfl, hw2⟩
  subst hw2
  have hnn : decide (((τ.C.idxOf tx : Nat) : Int) < 0) = false := by simp
  go_wp2_with fail
  go_ret
  exact ⟨⟨_, rfl⟩, hI.drewN _, hB.trans (below_drewN _ _ _)⟩

set_option maxRecDepth 100000 in
set_option maxHeartbeats 1000000 in
theorem RF_cp_new (hs : s.size ≤ 100) (_hr : Rdg.Rdy s.size σ) (n : Nat) (H33 : Hid (Rdg.seesB (pk s) σ 33 = false)) (H80 : Hid (Rdg.seesB (pk s) σ 80 = true)) (h1a : σ.a + 1 ≤ s.size) (hd8 : σ.d ≤ 8) (hr4 : Rdg.Rdy s.size (Rdg.rOpen (pk s) { σ with a := σ.a + 1 })) (hn4 : Rdg.need s.size (Rdg.rOpen (pk s) { σ with a := σ.a + 1 }) ≤ n + 1) (σ5 : St) (H5 : Hid ((Rdg.rTerm s.data.toList (pk s) (n + 1) (Rdg.rOpen (pk s) { σ with a := σ.a + 1 })).1 = σ5)) (h5a : σ5.a ≤ s.size) (h5d : 1 ≤ σ5.d ∧ σ5.d ≤ 9) (τ : St) (HT : Hid (Rdg.rShut (pk s) σ5 = τ)) (HE : Hid (τ.E = 0)) (hle : σ.a ≤ τ.a) (hle2 : τ.a ≤ s.size) (hTl : τ.C.length ≤ 500) (tx : List UInt8) (HX : Hid (Rdg.cut s.data.toList σ.a τ.a = tx)) (HC : Hid (τ.C.contains tx = false)) (h : RI w B s σ false k1 k2) :
    Calls Tryz.prog 98 #[.pointer (some ⟨B, 0, none⟩)] w fun e w' => (∃ b : Bool, e = .returned (.bool b)) ∧ RI w' B s ({ τ with C := τ.C ++ [tx] }) false k1 k2 ∧ Below B w w' := by
  have c1' := h.c1
  go_enter Tryz.func98, Tryz.ntmps98
  go_wp2_with fail
  refine (sees_any w B s σ false k1 k2 33 (by omega) h).mono ?_
  rw [unhide H33]
  rintro e w1 ⟨rfl, h1, b1⟩
  go_wp2_with fail
  refine (sees_any w1 B s σ false k1 k2 80 (by omega) h1).mono ?_
  rw [unhide H80]
  rintro e w2 ⟨rfl, h2, b2⟩
  have c1 := h2.c1
  have f1 := h2.fz 1
  go_wp2_with fail
  refine (Ropen_any _ B s { σ with a := σ.a + 1 } false k1 k2 hs h1a hd8 (h2.set1 (by omega))).mono ?_
  rintro e w4 ⟨rfl, h4, b4⟩
  go_wp2_with fail
  refine (Rterm_any B s false k1 k2 hs (n + 1) w4 _ hr4 hn4 h4).mono ?_
  rw [unhide H5]
  generalize (Rdg.rTerm s.data.toList (pk s) (n + 1) (Rdg.rOpen (pk s) { σ with a := σ.a + 1 })).2 = z5
  rintro e w5 ⟨rfl, h5, b5⟩
  go_wp2_with fail
  refine (Rshut_any w5 B s σ5 false k1 k2 hs h5a h5d.2 h5d.1 h5).mono ?_
  rw [unhide HT]
  rintro e w6 ⟨rfl, hI, b6⟩
  have hB := (((b1.trans b2).trans (below_set _ _ _ _)).trans b4).trans (b5.trans b6)
  clear b1 b2 b4 b5 b6 h1 h2 h4 h5 c1 f1
  have c0 := hI.c0
  have c1 := hI.c1
  have c3 := hI.c3
  rw [unhide HE] at c3
  have c6 := hI.c6
  obtain ⟨v4, v5, r1, r2, r3, r4, r5⟩ := hI.rows
  have hx1 : (σ.a : Int) ≤ (τ.a : Int) := by omega
  have hx2 : (τ.a : Int) ≤ (s.size : Int) := by omega
  go_wp2_with fail
  go_quiet (fail)
  go_wp2_with fail
  rw [ext_str, unhide HX]
  refine (at_any _ tx τ.C v5 (B + 1) (by omega) (by exact r4)).mono ?_
  rw [atIdx_new (unhide HC)]
  rintro e w2 ⟨rfl, hw2⟩
  subst hw2
  obtain ⟨i0, hi, hz0, hz1, hz2⟩ := info_parts infoS
  obtain ⟨ao, cap, hv4⟩ := own_slice r4
  subst hv4
  have hlt := hI.lt
  have f4 := hI.fz 5
  have hstr : str tx = .string ⟨tx.toArray⟩ := rfl
  rw [hstr]
  clear hstr
  go_wp2_with (at_builtin; refine wpList_append_own_at _ rfl _ _ 116 rfl (B + 1) 9 i0 (.string ⟨#[]⟩) 1 16 Tryz.underlying116 hi hz0 hz1 hz2 rfl (by decide) (.slice ao τ.C.length cap) τ.C.length (τ.C.map str) rfl (by exact World.ownsRow.alloc (by exact r4) _) ⟨w6.heap.size, 0, none⟩ 1 1 [str tx] rfl rfl (cell_one_new _ _ _) (str_one tx) (by unfold maxLen; omega) (by omega) (by simp; omega) ?_; intro v' w3 hown hgrow hnil hloc; obtain ⟨ao2, cap2, hv2⟩ := own_slice hown; subst hv2; have c4' := (app_cell hgrow (by exact hlt) (by exact r4) 5).trans (by exact r2); have f4' := (app_frozen hgrow (by exact hlt) (by exact r4) 5).trans (by exact f4); have c6' := (app_cell hgrow (by exact hlt) (by exact r4) 6).trans (by exact c6); clear hnil)
  have P := RI.app5 (hI.drewN _) (by exact r1) (by exact r2) (by exact r3) (by exact r4) r5 hown hgrow hloc
  go_ret
  exact ⟨⟨_, rfl⟩, P.1, hB.trans ((below_drewN _ _ _).trans P.2)⟩

end

end Go.Proofs.YthcppbmkacbbiaaGreat
