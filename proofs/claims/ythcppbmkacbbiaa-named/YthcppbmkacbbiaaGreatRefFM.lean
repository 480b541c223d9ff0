import Derived.Test.YthcppbmkacbbiaaGreatRefTsM
namespace Go.Proofs.YthcppbmkacbbiaaGreat
open Go.RowKit
open Rdg (St put)

/-- The contract of the document's Formula at one fuel, with no case. -/
def SaidRF (B : Nat) (s : ByteArray) (k1 k2 : Value) (n : Nat) : Prop :=
  ∀ (w : World) (σ : St), Rdg.Rdy s.size σ → Rdg.need s.size σ ≤ n → RI w B s σ false k1 k2 →
    Calls Tryz.prog 98 #[.pointer (some ⟨B, 0, none⟩)] w fun e w' => (∃ b : Bool, e = .returned (.bool b)) ∧ RI w' B s (Rdg.rFormula s.data.toList (pk s) n σ) false k1 k2 ∧ Below B w w'

section
variable (w : World) (B : Nat) (s : ByteArray) (σ : St) (k1 k2 : Value)

set_option maxRecDepth 100000 in
set_option maxHeartbeats 1000000 in
theorem RF_not (hs : s.size ≤ 100) (_hr : Rdg.Rdy s.size σ) (n : Nat) (H33 : Hid (Rdg.seesB (pk s) σ 33 = true)) (hlt : σ.a < s.size) (hr1 : Rdg.Rdy s.size { σ with a := σ.a + 1 }) (hn1 : Rdg.need s.size { σ with a := σ.a + 1 } ≤ n) (hF : SaidRF B s k1 k2 n) (h : RI w B s σ false k1 k2) :
    Calls Tryz.prog 98 #[.pointer (some ⟨B, 0, none⟩)] w fun e w' => (∃ b : Bool, e = .returned (.bool b)) ∧ RI w' B s (Rdg.rFormula s.data.toList (pk s) n { σ with a := σ.a + 1 }) false k1 k2 ∧ Below B w w' := by
  have c1' := h.c1
  go_enter Tryz.func98, Tryz.ntmps98
  go_wp2_with fail
  refine (sees_any w B s σ false k1 k2 33 (by omega) h).mono ?_
  rw [unhide H33]
  rintro e w1 ⟨rfl, h1, b1⟩
  have c1 := h1.c1
  have f1 := h1.fz 1
  go_wp2_with fail
  refine (hF _ { σ with a := σ.a + 1 } hr1 hn1 (h1.set1 (by omega))).mono ?_
  rintro e w2 ⟨⟨b, rfl⟩, hI, hB⟩
  go_wp2_with fail
  go_ret
  exact ⟨⟨_, rfl⟩, hI, (b1.trans (below_set _ _ _ _)).trans hB⟩

set_option maxRecDepth 100000 in
set_option maxHeartbeats 1000000 in
theorem RF_eq (hs : s.size ≤ 100) (hr : Rdg.Rdy s.size σ) (n : Nat) (H33 : Hid (Rdg.seesB (pk s) σ 33 = false)) (H80 : Hid (Rdg.seesB (pk s) σ 80 = false)) (H81 : Hid (Rdg.seesB (pk s) σ 81 = false)) (H40 : Hid (Rdg.seesB (pk s) σ 40 = false)) (hn : Rdg.need s.size σ ≤ n + 1) (σ5 : St) (H5 : Hid ((Rdg.rTerm s.data.toList (pk s) (n + 1) σ).1 = σ5)) (h5a : σ5.a ≤ s.size) (σ6 : St) (c6' : Int) (H6 : Hid (Rdg.rOne (pk s) [61] σ5 = (σ6, c6'))) (hr6 : Rdg.Rdy s.size σ6) (hn6 : Rdg.need s.size σ6 ≤ n + 1) (h : RI w B s σ false k1 k2) :
    Calls Tryz.prog 98 #[.pointer (some ⟨B, 0, none⟩)] w fun e w' => (∃ b : Bool, e = .returned (.bool b)) ∧ RI w' B s ((Rdg.rTerm s.data.toList (pk s) (n + 1) σ6).1) false k1 k2 ∧ Below B w w' := by
  have c1' := h.c1
  go_enter Tryz.func98, Tryz.ntmps98
  go_wp2_with fail
  refine (sees_any w B s σ false k1 k2 33 (by omega) h).mono ?_
  rw [unhide H33]
  rintro e w1 ⟨rfl, h1, b1⟩
  go_wp2_with fail
  refine (sees_any w1 B s σ false k1 k2 80 (by omega) h1).mono ?_
  rw [unhide H80]
  rintro e w2 ⟨rfl, h2, b2⟩
  go_wp2_with fail
  refine (sees_any w2 B s σ false k1 k2 81 (by omega) h2).mono ?_
  rw [unhide H81]
  rintro e w3 ⟨rfl, h3, b3⟩
  go_wp2_with fail
  refine (sees_any w3 B s σ false k1 k2 40 (by omega) h3).mono ?_
  rw [unhide H40]
  rintro e w4 ⟨rfl, h4, b4⟩
  go_wp2_with fail
  refine (Rterm_any B s false k1 k2 hs (n + 1) w4 σ hr hn h4).mono ?_
  rw [unhide H5]
  generalize (Rdg.rTerm s.data.toList (pk s) (n + 1) σ).2 = z5
  rintro e w5 ⟨rfl, h5, b5⟩
  go_wp2_with fail
  refine (one_list w5 B s σ5 false k1 k2 _ [61] ints61 (by decide) (by decide) hs h5a h5).mono ?_
  rw [unhide H6]
  rintro e w6 ⟨rfl, h6, b6⟩
  simp only at h6
  go_wp2_with fail
  refine (Rterm_any B s false k1 k2 hs (n + 1) w6 σ6 hr6 hn6 h6).mono ?_
  generalize (Rdg.rTerm s.data.toList (pk s) (n + 1) σ6).2 = z7
  rintro e w7 ⟨rfl, h7, b7⟩
  have c6 := h7.c6
  have hB := (((((b1.trans b2).trans b3).trans b4).trans b5).trans b6).trans b7
  clear b1 b2 b3 b4 b5 b6 b7 h1 h2 h3 h4 h5 h6
  go_wp2_with fail
  go_quiet (fail)
  go_wp2_with fail
  go_ret
  exact ⟨⟨_, rfl⟩, h7.drewN _, hB.trans (below_drewN _ _ _)⟩

end

end Go.Proofs.YthcppbmkacbbiaaGreat

namespace Go.Proofs.YthcppbmkacbbiaaGreat
open Go.RowKit
open Rdg (St put)

section
variable (w : World) (B : Nat) (s : ByteArray) (σ : St) (k1 k2 : Value)

set_option maxRecDepth 100000 in
set_option maxHeartbeats 1000000 in
theorem RF_br (hs : s.size ≤ 100) (hr : Rdg.Rdy s.size σ) (n : Nat) (H33 : Hid (Rdg.seesB (pk s) σ 33 = false)) (H80 : Hid (Rdg.seesB (pk s) σ 80 = false)) (H81 : Hid (Rdg.seesB (pk s) σ 81 = false)) (H40 : Hid (Rdg.seesB (pk s) σ 40 = true)) (hd8 : σ.d ≤ 8) (hr5 : Rdg.Rdy s.size (Rdg.rOpen (pk s) σ)) (hn5 : Rdg.need s.size (Rdg.rOpen (pk s) σ) ≤ n) (hF : SaidRF B s k1 k2 n) (σ6 : St) (H6 : Hid (Rdg.rFormula s.data.toList (pk s) n (Rdg.rOpen (pk s) σ) = σ6)) (h6a : σ6.a ≤ s.size) (σ7 : St) (c7 : Int) (H7 : Hid (Rdg.rOne (pk s) [38, 124, 62, 45] σ6 = (σ7, c7))) (hr7 : Rdg.Rdy s.size σ7) (hn7 : Rdg.need s.size σ7 ≤ n) (σ8 : St) (H8 : Hid (Rdg.rFormula s.data.toList (pk s) n σ7 = σ8)) (h8a : σ8.a ≤ s.size) (h8d : 1 ≤ σ8.d ∧ σ8.d ≤ 9) (h : RI w B s σ false k1 k2) :
    Calls Tryz.prog 98 #[.pointer (some ⟨B, 0, none⟩)] w fun e w' => (∃ b : Bool, e = .returned (.bool b)) ∧ RI w' B s (Rdg.rShut (pk s) σ8) false k1 k2 ∧ Below B w w' := by
  have c1' := h.c1
  go_enter Tryz.func98, Tryz.ntmps98
  go_wp2_with fail
  refine (sees_any w B s σ false k1 k2 33 (by omega) h).mono ?_
  rw [unhide H33]
  rintro e w1 ⟨rfl, h1, b1⟩
  go_wp2_with fail
  refine (sees_any w1 B s σ false k1 k2 80 (by omega) h1).mono ?_
  rw [unhide H80]
  rintro e w2 ⟨rfl, h2, b2⟩
  go_wp2_with fail
  refine (sees_any w2 B s σ false k1 k2 81 (by omega) h2).mono ?_
  rw [unhide H81]
  rintro e w3 ⟨rfl, h3, b3⟩
  go_wp2_with fail
  refine (sees_any w3 B s σ false k1 k2 40 (by omega) h3).mono ?_
  rw [unhide H40]
  rintro e w4 ⟨rfl, h4, b4⟩
  go_wp2_with fail
  refine (Ropen_any w4 B s σ false k1 k2 hs hr.top hd8 h4).mono ?_
  rintro e w5 ⟨rfl, h5, b5⟩
  go_wp2_with fail
  refine (hF w5 _ hr5 hn5 h5).mono ?_
  rw [unhide H6]
  rintro e w6 ⟨⟨x6, rfl⟩, h6, b6⟩
  go_wp2_with fail
  refine (one_list w6 B s σ6 false k1 k2 _ [38, 124, 62, 45] intsJ (by decide) (by decide) hs h6a h6).mono ?_
  rw [unhide H7]
  rintro e w7 ⟨rfl, h7, b7⟩
  simp only at h7
  go_wp2_with fail
  refine (hF w7 _ hr7 hn7 h7).mono ?_
  rw [unhide H8]
  rintro e w8 ⟨⟨x8, rfl⟩, h8, b8⟩
  go_wp2_with fail
  refine (Rshut_any w8 B s σ8 false k1 k2 hs h8a h8d.2 h8d.1 h8).mono ?_
  rintro e w9 ⟨rfl, h9, b9⟩
  have hB := (((((((b1.trans b2).trans b3).trans b4).trans b5).trans b6).trans b7).trans b8).trans b9
  clear b1 b2 b3 b4 b5 b6 b7 b8 b9 h1 h2 h3 h4 h5 h6 h7 h8
  go_wp2_with fail
  all_goals
    go_ret
    exact ⟨⟨_, rfl⟩, h9, hB⟩

end

end Go.Proofs.YthcppbmkacbbiaaGreat
