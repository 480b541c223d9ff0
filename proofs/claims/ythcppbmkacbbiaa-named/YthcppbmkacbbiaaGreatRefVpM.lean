import Derived.Test.YthcppbmkacbbiaaGreatRefTsM
import Derived.Test.YthcppbmkacbbiaaGreatRefFs
import Derived.Test.YthcppbmkacbbiaaGreatRefR
namespace Go.Proofs.YthcppbmkacbbiaaGreat.Rdg

/-- What the joints say. -/
def jn (c : Int) (a b : Bool) : Bool := if c = 38 then a && b else if c = 124 then a || b else if c = 62 then !a || b else a == b

/-- A formula's truth in a case, as the document's reader finds it. -/
def vF (l : List UInt8) (pk : Nat → Int) (cl : List Int) (hl : List Bool) : Nat → St → Bool
  | 0, _ => false
  | n + 1, σ =>
    if seesB pk σ 33 = true then !(vF l pk cl hl n { σ with a := σ.a + 1 })
    else if (seesB pk σ 80 || seesB pk σ 81) = true then
      hl.getD ((rShut pk (rTerm l pk (n + 1) (rOpen pk { σ with a := σ.a + 1 })).1).C.idxOf (cut l σ.a (rShut pk (rTerm l pk (n + 1) (rOpen pk { σ with a := σ.a + 1 })).1).a)) false
    else if seesB pk σ 40 = true then
      jn (rOne pk [38, 124, 62, 45] (rFormula l pk n (rOpen pk σ))).2 (vF l pk cl hl n (rOpen pk σ)) (vF l pk cl hl n (rOne pk [38, 124, 62, 45] (rFormula l pk n (rOpen pk σ))).1)
    else decide (cl.getD (rTerm l pk (n + 1) σ).2 0 = cl.getD (rTerm l pk (n + 1) (rOne pk [61] (rTerm l pk (n + 1) σ).1).1).2 0)

end Go.Proofs.YthcppbmkacbbiaaGreat.Rdg

namespace Go.Proofs.YthcppbmkacbbiaaGreat
open Go.RowKit
open Rdg (St put)

/-- A case in the world: the classes, and which claims hold, in rows below the reader. -/
structure CS (w : World) (B : Nat) (k1 k2 : Value) (cl : List Int) (hl : List Bool) : Prop where
  r1 : ∃ a c, k1 = .slice a cl.length c ∧ (0 < cl.length → ∃ g, a = some ⟨g, 0, none⟩ ∧ g < B ∧ ∀ j (hj : j < cl.length), w.cell? ⟨g, j, none⟩ = some (.int .i64 cl[j]))
  r2 : ∃ a c, k2 = .slice a hl.length c ∧ (0 < hl.length → ∃ g, a = some ⟨g, 0, none⟩ ∧ g < B ∧ ∀ j (hj : j < hl.length), w.cell? ⟨g, j, none⟩ = some (.bool hl[j]))

theorem CS.below {w w' : World} {B : Nat} {k1 k2 : Value} {cl : List Int} {hl : List Bool} (h : CS w B k1 k2 cl hl) (b : Below B w w') : CS w' B k1 k2 cl hl := by
  obtain ⟨⟨a, c, e, f⟩, a', c', e', f'⟩ := h
  refine ⟨⟨a, c, e, fun h0 => ?_⟩, a', c', e', fun h0 => ?_⟩
  · obtain ⟨g, h1, h2, h3⟩ := f h0
    exact ⟨g, h1, h2, fun j hj => (b.cell (p := ⟨g, j, none⟩) h2).trans (h3 j hj)⟩
  · obtain ⟨g, h1, h2, h3⟩ := f' h0
    exact ⟨g, h1, h2, fun j hj => (b.cell (p := ⟨g, j, none⟩) h2).trans (h3 j hj)⟩

theorem CS.at1 {w : World} {B : Nat} {k1 k2 : Value} {cl : List Int} {hl : List Bool} (h : CS w B k1 k2 cl hl) {j : Nat} (hj : j < cl.length) : ∃ g c, k1 = .slice (some ⟨g, 0, none⟩) cl.length c ∧ w.cell? ⟨g, j, none⟩ = some (.int .i64 (cl.getD j 0)) := by
  obtain ⟨a, c, e, f⟩ := h.r1
  obtain ⟨g, h1, h2, h3⟩ := f (by omega)
  subst h1
  exact ⟨g, c, e, by rw [h3 j hj]; simp [List.getD_eq_getElem?_getD, hj]⟩

theorem CS.both1 {w : World} {B : Nat} {k1 k2 : Value} {cl : List Int} {hl : List Bool} (h : CS w B k1 k2 cl hl) {i j : Nat} (hi : i < cl.length) (hj : j < cl.length) : ∃ g c, k1 = .slice (some ⟨g, 0, none⟩) cl.length c ∧ w.cell? ⟨g, i, none⟩ = some (.int .i64 (cl.getD i 0)) ∧ w.cell? ⟨g, j, none⟩ = some (.int .i64 (cl.getD j 0)) := by
  obtain ⟨a, c, e, f⟩ := h.r1
  obtain ⟨g, h1, h2, h3⟩ := f (by omega)
  subst h1
  exact ⟨g, c, e, by rw [h3 i hi]; simp [List.getD_eq_getElem?_getD, hi], by rw [h3 j hj]; simp [List.getD_eq_getElem?_getD, hj]⟩

theorem CS.at2 {w : World} {B : Nat} {k1 k2 : Value} {cl : List Int} {hl : List Bool} (h : CS w B k1 k2 cl hl) {j : Nat} (hj : j < hl.length) : ∃ g c, k2 = .slice (some ⟨g, 0, none⟩) hl.length c ∧ g < B ∧ w.cell? ⟨g, j, none⟩ = some (.bool (hl.getD j false)) := by
  obtain ⟨a, c, e, f⟩ := h.r2
  obtain ⟨g, h1, h2, h3⟩ := f (by omega)
  subst h1
  exact ⟨g, c, e, h2, by rw [h3 j hj]; simp [List.getD_eq_getElem?_getD, hj]⟩

theorem app_low {W w3 : World} {o : Obj} {v : Value} {B n : Nat} {xs : List Value} (hg : (W.alloc o).grownBy w3 v.ownBlock) (hlt : B < W.heap.size) (r : W.ownsRow (B + 1) 9 1 v n xs) {g : Nat} (hgB : g < B) (i : Nat) : w3.cell? ⟨g, i, none⟩ = W.cell? ⟨g, i, none⟩ :=
  World.cell?_of_block (((World.grownBy_alloc W o v.ownBlock).trans hg).block g (Nat.lt_trans hgB hlt) (fun e => by have := (r.lt g e.symm).1; omega))

/-- The contract of the document's Formula at one fuel, in a case, where the reading goes well. -/
def SaidRV (B : Nat) (s : ByteArray) (k1 k2 : Value) (cl : List Int) (hl : List Bool) (n : Nat) : Prop :=
  ∀ (w : World) (σ : St), Rdg.Rdy s.size σ → Rdg.need s.size σ ≤ n → RI w B s σ true k1 k2 → CS w B k1 k2 cl hl → (Rdg.rFormula s.data.toList (pk s) n σ).E = 0 → (Rdg.rFormula s.data.toList (pk s) n σ).T.length ≤ cl.length → (Rdg.rFormula s.data.toList (pk s) n σ).C.length ≤ hl.length →
    Calls Tryz.prog 98 #[.pointer (some ⟨B, 0, none⟩)] w fun e w' => e = .returned (.bool (Rdg.vF s.data.toList (pk s) cl hl n σ)) ∧ RI w' B s (Rdg.rFormula s.data.toList (pk s) n σ) true k1 k2 ∧ Below B w w'

section
variable (w : World) (B : Nat) (s : ByteArray) (σ : St) (k1 k2 : Value) (cl : List Int) (hl : List Bool)

set_option maxRecDepth 100000 in
set_option maxHeartbeats 1000000 in
theorem RV_not (hs : s.size ≤ 100) (_hr : Rdg.Rdy s.size σ) (n : Nat) (H33 : Hid (Rdg.seesB (pk s) σ 33 = true)) (hlt : σ.a < s.size) (hr1 : Rdg.Rdy s.size { σ with a := σ.a + 1 }) (hn1 : Rdg.need s.size { σ with a := σ.a + 1 } ≤ n) (hF : SaidRV B s k1 k2 cl hl n) (x : Bool) (HX : Hid (Rdg.vF s.data.toList (pk s) cl hl n { σ with a := σ.a + 1 } = x)) (HV : Hid ((Rdg.rFormula s.data.toList (pk s) n { σ with a := σ.a + 1 }).E = 0 ∧ (Rdg.rFormula s.data.toList (pk s) n { σ with a := σ.a + 1 }).T.length ≤ cl.length ∧ (Rdg.rFormula s.data.toList (pk s) n { σ with a := σ.a + 1 }).C.length ≤ hl.length)) (HC : Hid (CS w B k1 k2 cl hl)) (h : RI w B s σ true k1 k2) :
    Calls Tryz.prog 98 #[.pointer (some ⟨B, 0, none⟩)] w fun e w' => e = .returned (.bool (!x)) ∧ RI w' B s (Rdg.rFormula s.data.toList (pk s) n { σ with a := σ.a + 1 }) true k1 k2 ∧ Below B w w' := by
  have c1' := h.c1
  go_enter Tryz.func98, Tryz.ntmps98
  go_wp2_with fail
  refine (sees_any w B s σ true k1 k2 33 (by omega) h).mono ?_
  rw [unhide H33]
  rintro e w1 ⟨rfl, h1, b1⟩
  have c1 := h1.c1
  have f1 := h1.fz 1
  go_wp2_with fail
  refine (hF _ { σ with a := σ.a + 1 } hr1 hn1 (h1.set1 (by omega)) ((unhide HC).below (b1.trans (below_set _ _ _ _))) (unhide HV).1 (unhide HV).2.1 (unhide HV).2.2).mono ?_
  rw [unhide HX]
  rintro e w2 ⟨rfl, hI, hB⟩
  go_wp2_with fail
  go_ret
  exact ⟨rfl, hI, (b1.trans (below_set _ _ _ _)).trans hB⟩

set_option maxRecDepth 100000 in
set_option maxHeartbeats 1000000 in
theorem RV_eq (hs : s.size ≤ 100) (hr : Rdg.Rdy s.size σ) (n : Nat) (H33 : Hid (Rdg.seesB (pk s) σ 33 = false)) (H80 : Hid (Rdg.seesB (pk s) σ 80 = false)) (H81 : Hid (Rdg.seesB (pk s) σ 81 = false)) (H40 : Hid (Rdg.seesB (pk s) σ 40 = false)) (hn : Rdg.need s.size σ ≤ n + 1) (σ5 : St) (H5 : Hid ((Rdg.rTerm s.data.toList (pk s) (n + 1) σ).1 = σ5)) (h5a : σ5.a ≤ s.size) (σ6 : St) (c6' : Int) (H6 : Hid (Rdg.rOne (pk s) [61] σ5 = (σ6, c6'))) (hr6 : Rdg.Rdy s.size σ6) (hn6 : Rdg.need s.size σ6 ≤ n + 1) (z5 z7 : Nat) (y5 y7 : Int) (HY5 : Hid (cl.getD z5 0 = y5)) (HY7 : Hid (cl.getD z7 0 = y7)) (H5z : Hid ((Rdg.rTerm s.data.toList (pk s) (n + 1) σ).2 = z5)) (H7z : Hid ((Rdg.rTerm s.data.toList (pk s) (n + 1) σ6).2 = z7)) (hz5 : z5 < cl.length) (hz7 : z7 < cl.length) (HE : Hid ((Rdg.rTerm s.data.toList (pk s) (n + 1) σ6).1.E = 0)) (HC : Hid (CS w B k1 k2 cl hl)) (h : RI w B s σ true k1 k2) :
    Calls Tryz.prog 98 #[.pointer (some ⟨B, 0, none⟩)] w fun e w' => e = .returned (.bool (decide (y5 = y7))) ∧ RI w' B s ((Rdg.rTerm s.data.toList (pk s) (n + 1) σ6).1) true k1 k2 ∧ Below B w w' := by
  have c1' := h.c1
  go_enter Tryz.func98, Tryz.ntmps98
  go_wp2_with fail
  refine (sees_any w B s σ true k1 k2 33 (by omega) h).mono ?_
  rw [unhide H33]
  rintro e w1 ⟨rfl, h1, b1⟩
  go_wp2_with fail
  refine (sees_any w1 B s σ true k1 k2 80 (by omega) h1).mono ?_
  rw [unhide H80]
  rintro e w2 ⟨rfl, h2, b2⟩
  go_wp2_with fail
  refine (sees_any w2 B s σ true k1 k2 81 (by omega) h2).mono ?_
  rw [unhide H81]
  rintro e w3 ⟨rfl, h3, b3⟩
  go_wp2_with fail
  refine (sees_any w3 B s σ true k1 k2 40 (by omega) h3).mono ?_
  rw [unhide H40]
  rintro e w4 ⟨rfl, h4, b4⟩
  go_wp2_with fail
  refine (Rterm_any B s true k1 k2 hs (n + 1) w4 σ hr hn h4).mono ?_
  rw [unhide H5, unhide H5z]
  rintro e w5 ⟨rfl, h5, b5⟩
  go_wp2_with fail
  refine (one_list w5 B s σ5 true k1 k2 _ [61] ints61 (by decide) (by decide) hs h5a h5).mono ?_
  rw [unhide H6]
  rintro e w6 ⟨rfl, h6, b6⟩
  simp only at h6
  go_wp2_with fail
  refine (Rterm_any B s true k1 k2 hs (n + 1) w6 σ6 hr6 hn6 h6).mono ?_
  rw [unhide H7z]
  rintro e w7 ⟨rfl, h7, b7⟩
  have c6 := h7.c6
  have hB := (((((b1.trans b2).trans b3).trans b4).trans b5).trans b6).trans b7
  have c3 := h7.c3
  rw [unhide HE] at c3
  have c7 := h7.c7
  obtain ⟨g, cp, hk1, hg5, hg7⟩ := ((unhide HC).below hB).both1 hz5 hz7
  subst hk1
  rw [unhide HY5] at hg5
  rw [unhide HY7] at hg7
  have hi5 : (z5 : Int) < (cl.length : Int) := by omega
  have hi7 : (z7 : Int) < (cl.length : Int) := by omega
  clear b1 b2 b3 b4 b5 b6 b7 h1 h2 h3 h4 h5 h6
  go_wp2_with fail
  go_quiet (fail)
  go_wp2_with fail
  go_ret
  exact ⟨ret_bool (by rw [Bool.eq_iff_iff]; simp), h7.drewN _, hB.trans (below_drewN _ _ _)⟩

end

end Go.Proofs.YthcppbmkacbbiaaGreat

namespace Go.Proofs.YthcppbmkacbbiaaGreat
open Go.RowKit
open Rdg (St put)

section
variable (w : World) (B : Nat) (s : ByteArray) (σ : St) (k1 k2 : Value) (cl : List Int) (hl : List Bool)

set_option maxRecDepth 100000 in
set_option maxHeartbeats 1000000 in
theorem RV_br (hs : s.size ≤ 100) (hr : Rdg.Rdy s.size σ) (n : Nat) (H33 : Hid (Rdg.seesB (pk s) σ 33 = false)) (H80 : Hid (Rdg.seesB (pk s) σ 80 = false)) (H81 : Hid (Rdg.seesB (pk s) σ 81 = false)) (H40 : Hid (Rdg.seesB (pk s) σ 40 = true)) (hd8 : σ.d ≤ 8) (hr5 : Rdg.Rdy s.size (Rdg.rOpen (pk s) σ)) (hn5 : Rdg.need s.size (Rdg.rOpen (pk s) σ) ≤ n) (hF : SaidRV B s k1 k2 cl hl n) (σ6 : St) (H6 : Hid (Rdg.rFormula s.data.toList (pk s) n (Rdg.rOpen (pk s) σ) = σ6)) (h6a : σ6.a ≤ s.size) (σ7 : St) (c7 : Int) (H7 : Hid (Rdg.rOne (pk s) [38, 124, 62, 45] σ6 = (σ7, c7))) (hr7 : Rdg.Rdy s.size σ7) (hn7 : Rdg.need s.size σ7 ≤ n) (σ8 : St) (H8 : Hid (Rdg.rFormula s.data.toList (pk s) n σ7 = σ8)) (h8a : σ8.a ≤ s.size) (h8d : 1 ≤ σ8.d ∧ σ8.d ≤ 9) (x6 x8 : Bool) (HX6 : Hid (Rdg.vF s.data.toList (pk s) cl hl n (Rdg.rOpen (pk s) σ) = x6)) (HX8 : Hid (Rdg.vF s.data.toList (pk s) cl hl n σ7 = x8)) (hc7 : c7 = 38 ∨ c7 = 124 ∨ c7 = 62 ∨ c7 = 45) (HV6 : Hid (σ6.E = 0 ∧ σ6.T.length ≤ cl.length ∧ σ6.C.length ≤ hl.length)) (HV8 : Hid (σ8.E = 0 ∧ σ8.T.length ≤ cl.length ∧ σ8.C.length ≤ hl.length)) (HC : Hid (CS w B k1 k2 cl hl)) (h : RI w B s σ true k1 k2) :
    Calls Tryz.prog 98 #[.pointer (some ⟨B, 0, none⟩)] w fun e w' => e = .returned (.bool (Rdg.jn c7 x6 x8)) ∧ RI w' B s (Rdg.rShut (pk s) σ8) true k1 k2 ∧ Below B w w' := by
  have c1' := h.c1
  go_enter Tryz.func98, Tryz.ntmps98
  go_wp2_with fail
  refine (sees_any w B s σ true k1 k2 33 (by omega) h).mono ?_
  rw [unhide H33]
  rintro e w1 ⟨rfl, h1, b1⟩
  go_wp2_with fail
  refine (sees_any w1 B s σ true k1 k2 80 (by omega) h1).mono ?_
  rw [unhide H80]
  rintro e w2 ⟨rfl, h2, b2⟩
  go_wp2_with fail
  refine (sees_any w2 B s σ true k1 k2 81 (by omega) h2).mono ?_
  rw [unhide H81]
  rintro e w3 ⟨rfl, h3, b3⟩
  go_wp2_with fail
  refine (sees_any w3 B s σ true k1 k2 40 (by omega) h3).mono ?_
  rw [unhide H40]
  rintro e w4 ⟨rfl, h4, b4⟩
  go_wp2_with fail
  refine (Ropen_any w4 B s σ true k1 k2 hs hr.top hd8 h4).mono ?_
  rintro e w5 ⟨rfl, h5, b5⟩
  go_wp2_with fail
  refine (hF w5 _ hr5 hn5 h5 ((unhide HC).below ((((b1.trans b2).trans b3).trans b4).trans b5)) (by rw [unhide H6]; exact (unhide HV6).1) (by rw [unhide H6]; exact (unhide HV6).2.1) (by rw [unhide H6]; exact (unhide HV6).2.2)).mono ?_
  rw [unhide H6, unhide HX6]
  rintro e w6 ⟨rfl, h6, b6⟩
  go_wp2_with fail
  refine (one_list w6 B s σ6 true k1 k2 _ [38, 124, 62, 45] intsJ (by decide) (by decide) hs h6a h6).mono ?_
  rw [unhide H7]
  rintro e w7 ⟨rfl, h7, b7⟩
  simp only at h7
  go_wp2_with fail
  refine (hF w7 _ hr7 hn7 h7 ((unhide HC).below ((((((b1.trans b2).trans b3).trans b4).trans b5).trans b6).trans b7)) (by rw [unhide H8]; exact (unhide HV8).1) (by rw [unhide H8]; exact (unhide HV8).2.1) (by rw [unhide H8]; exact (unhide HV8).2.2)).mono ?_
  rw [unhide H8, unhide HX8]
  rintro e w8 ⟨rfl, h8, b8⟩
  go_wp2_with fail
  refine (Rshut_any w8 B s σ8 true k1 k2 hs h8a h8d.2 h8d.1 h8).mono ?_
  rintro e w9 ⟨rfl, h9, b9⟩
  have hB := (((((((b1.trans b2).trans b3).trans b4).trans b5).trans b6).trans b7).trans b8).trans b9
  clear b1 b2 b3 b4 b5 b6 b7 b8 b9 h1 h2 h3 h4 h5 h6 h7 h8
  rcases hc7 with rfl | rfl | rfl | rfl
  all_goals
    cases x6
    all_goals
      cases x8
      all_goals
        go_wp2_with fail
        go_ret
        exact ⟨rfl, h9, hB⟩

end

end Go.Proofs.YthcppbmkacbbiaaGreat

namespace Go.Proofs.YthcppbmkacbbiaaGreat
open Go.RowKit
open Rdg (St put)

section
variable (w : World) (B : Nat) (s : ByteArray) (σ : St) (k1 k2 : Value) (cl : List Int) (hl : List Bool)

set_option maxRecDepth 100000 in
set_option maxHeartbeats 1000000 in
theorem RV_cp_old (hs : s.size ≤ 100) (_hr : Rdg.Rdy s.size σ) (n : Nat) (H33 : Hid (Rdg.seesB (pk s) σ 33 = false)) (H80 : Hid (Rdg.seesB (pk s) σ 80 = true)) (h1a : σ.a + 1 ≤ s.size) (hd8 : σ.d ≤ 8) (hr4 : Rdg.Rdy s.size (Rdg.rOpen (pk s) { σ with a := σ.a + 1 })) (hn4 : Rdg.need s.size (Rdg.rOpen (pk s) { σ with a := σ.a + 1 }) ≤ n + 1) (σ5 : St) (H5 : Hid ((Rdg.rTerm s.data.toList (pk s) (n + 1) (Rdg.rOpen (pk s) { σ with a := σ.a + 1 })).1 = σ5)) (h5a : σ5.a ≤ s.size) (h5d : 1 ≤ σ5.d ∧ σ5.d ≤ 9) (τ : St) (HT : Hid (Rdg.rShut (pk s) σ5 = τ)) (HE : Hid (τ.E = 0)) (hle : σ.a ≤ τ.a) (hle2 : τ.a ≤ s.size) (hTl : τ.C.length ≤ 500) (tx : List UInt8) (HX : Hid (Rdg.cut s.data.toList σ.a τ.a = tx)) (HC : Hid (τ.C.contains tx = true)) (hin : τ.C.idxOf tx < hl.length) (y : Bool) (HY : Hid (hl.getD (τ.C.idxOf tx) false = y)) (HCS : Hid (CS w B k1 k2 cl hl)) (h : RI w B s σ true k1 k2) :
    Calls Tryz.prog 98 #[.pointer (some ⟨B, 0, none⟩)] w fun e w' => e = .returned (.bool (y)) ∧ RI w' B s (τ) true k1 k2 ∧ Below B w w' := by
  have c1' := h.c1
  go_enter Tryz.func98, Tryz.ntmps98
  go_wp2_with fail
  refine (sees_any w B s σ true k1 k2 33 (by omega) h).mono ?_
  rw [unhide H33]
  rintro e w1 ⟨rfl, h1, b1⟩
  go_wp2_with fail
  refine (sees_any w1 B s σ true k1 k2 80 (by omega) h1).mono ?_
  rw [unhide H80]
  rintro e w2 ⟨rfl, h2, b2⟩
  have c1 := h2.c1
  have f1 := h2.fz 1
  go_wp2_with fail
  refine (Ropen_any _ B s { σ with a := σ.a + 1 } true k1 k2 hs h1a hd8 (h2.set1 (by omega))).mono ?_
  rintro e w4 ⟨rfl, h4, b4⟩
  go_wp2_with fail
  refine (Rterm_any B s true k1 k2 hs (n + 1) w4 _ hr4 hn4 h4).mono ?_
  rw [unhide H5]
  generalize (Rdg.rTerm s.data.toList (pk s) (n + 1) (Rdg.rOpen (pk s) { σ with a := σ.a + 1 })).2 = z5
  rintro e w5 ⟨rfl, h5, b5⟩
  go_wp2_with fail
  refine (Rshut_any w5 B s σ5 true k1 k2 hs h5a h5d.2 h5d.1 h5).mono ?_
  rw [unhide HT]
  rintro e w6 ⟨rfl, hI, b6⟩
  have hB := (((b1.trans b2).trans (below_set _ _ _ _)).trans b4).trans (b5.trans b6)
  clear b1 b2 b4 b5 b6 h1 h2 h4 h5 c1 f1
  have c0 := hI.c0
  have c1 := hI.c1
  have c3 := hI.c3
  rw [unhide HE] at c3
  have c6 := hI.c6
  have c8 := hI.c8
  obtain ⟨g, cp, hk2, hgB, hg⟩ := ((unhide HCS).below hB).at2 hin
  subst hk2
  rw [unhide HY] at hg
  have hi5 : ((τ.C.idxOf tx : Nat) : Int) < (hl.length : Int) := by omega
  obtain ⟨v4, v5, r1, r2, r3, r4, r5⟩ := hI.rows
  have hx1 : (σ.a : Int) ≤ (τ.a : Int) := by omega
  have hx2 : (τ.a : Int) ≤ (s.size : Int) := by omega
  go_wp2_with fail
  go_quiet (fail)
  go_wp2_with fail
  rw [ext_str, unhide HX]
  refine (at_any _ tx τ.C v5 (B + 1) (by omega) (by exact r4)).mono ?_
  rw [atIdx_old (unhide HC)]
  rintro e w2 ⟨rfl, hw2⟩
  subst hw2
  have hnn : decide (((τ.C.idxOf tx : Nat) : Int) < 0) = false := by simp
  go_wp2_with fail
  go_ret
  exact ⟨rfl, hI.drewN _, hB.trans (below_drewN _ _ _)⟩

set_option maxRecDepth 100000 in
set_option maxHeartbeats 1000000 in
theorem RV_cp_new (hs : s.size ≤ 100) (_hr : Rdg.Rdy s.size σ) (n : Nat) (H33 : Hid (Rdg.seesB (pk s) σ 33 = false)) (H80 : Hid (Rdg.seesB (pk s) σ 80 = true)) (h1a : σ.a + 1 ≤ s.size) (hd8 : σ.d ≤ 8) (hr4 : Rdg.Rdy s.size (Rdg.rOpen (pk s) { σ with a := σ.a + 1 })) (hn4 : Rdg.need s.size (Rdg.rOpen (pk s) { σ with a := σ.a + 1 }) ≤ n + 1) (σ5 : St) (H5 : Hid ((Rdg.rTerm s.data.toList (pk s) (n + 1) (Rdg.rOpen (pk s) { σ with a := σ.a + 1 })).1 = σ5)) (h5a : σ5.a ≤ s.size) (h5d : 1 ≤ σ5.d ∧ σ5.d ≤ 9) (τ : St) (HT : Hid (Rdg.rShut (pk s) σ5 = τ)) (HE : Hid (τ.E = 0)) (hle : σ.a ≤ τ.a) (hle2 : τ.a ≤ s.size) (hTl : τ.C.length ≤ 500) (tx : List UInt8) (HX : Hid (Rdg.cut s.data.toList σ.a τ.a = tx)) (HC : Hid (τ.C.contains tx = false)) (hin : τ.C.idxOf tx < hl.length) (y : Bool) (HY : Hid (hl.getD (τ.C.idxOf tx) false = y)) (HCS : Hid (CS w B k1 k2 cl hl)) (h : RI w B s σ true k1 k2) :
    Calls Tryz.prog 98 #[.pointer (some ⟨B, 0, none⟩)] w fun e w' => e = .returned (.bool (y)) ∧ RI w' B s ({ τ with C := τ.C ++ [tx] }) true k1 k2 ∧ Below B w w' := by
  have c1' := h.c1
  go_enter Tryz.func98, Tryz.ntmps98
  go_wp2_with fail
  refine (sees_any w B s σ true k1 k2 33 (by omega) h).mono ?_
  rw [unhide H33]
  rintro e w1 ⟨rfl, h1, b1⟩
  go_wp2_with fail
  refine (sees_any w1 B s σ true k1 k2 80 (by omega) h1).mono ?_
  rw [unhide H80]
  rintro e w2 ⟨rfl, h2, b2⟩
  have c1 := h2.c1
  have f1 := h2.fz 1
  go_wp2_with fail
  refine (Ropen_any _ B s { σ with a := σ.a + 1 } true k1 k2 hs h1a hd8 (h2.set1 (by omega))).mono ?_
  rintro e w4 ⟨rfl, h4, b4⟩
  go_wp2_with fail
  refine (Rterm_any B s true k1 k2 hs (n + 1) w4 _ hr4 hn4 h4).mono ?_
  rw [unhide H5]
  generalize (Rdg.rTerm s.data.toList (pk s) (n + 1) (Rdg.rOpen (pk s) { σ with a := σ.a + 1 })).2 = z5
  rintro e w5 ⟨rfl, h5, b5⟩
  go_wp2_with fail
  refine (Rshut_any w5 B s σ5 true k1 k2 hs h5a h5d.2 h5d.1 h5).mono ?_
  rw [unhide HT]
  rintro e w6 ⟨rfl, hI, b6⟩
  have hB := (((b1.trans b2).trans (below_set _ _ _ _)).trans b4).trans (b5.trans b6)
  clear b1 b2 b4 b5 b6 h1 h2 h4 h5 c1 f1
  have c0 := hI.c0
  have c1 := hI.c1
  have c3 := hI.c3
  rw [unhide HE] at c3
  have c6 := hI.c6
  have c8 := hI.c8
  obtain ⟨g, cp, hk2, hgB, hg⟩ := ((unhide HCS).below hB).at2 hin
  subst hk2
  rw [unhide HY] at hg
  have hi5 : ((τ.C.idxOf tx : Nat) : Int) < (hl.length : Int) := by omega
  obtain ⟨v4, v5, r1, r2, r3, r4, r5⟩ := hI.rows
  have hx1 : (σ.a : Int) ≤ (τ.a : Int) := by omega
  have hx2 : (τ.a : Int) ≤ (s.size : Int) := by omega
  go_wp2_with fail
  go_quiet (fail)
  go_wp2_with fail
  rw [ext_str, unhide HX]
  refine (at_any _ tx τ.C v5 (B + 1) (by omega) (by exact r4)).mono ?_
  rw [atIdx_new (unhide HC)]
  rintro e w2 ⟨rfl, hw2⟩
  subst hw2
  have hidx : τ.C.idxOf tx = τ.C.length := List.idxOf_eq_length (by simpa using unhide HC)
  rw [hidx] at hg hi5
  clear hidx
  have hgne : g ≠ B := by omega
  have hgne2 : B ≠ g := by omega
  obtain ⟨i0, hi, hz0, hz1, hz2⟩ := info_parts infoS
  obtain ⟨ao, cap, hv4⟩ := own_slice r4
  subst hv4
  have hlt := hI.lt
  have f4 := hI.fz 5
  have hstr : str tx = .string ⟨tx.toArray⟩ := rfl
  rw [hstr]
  clear hstr
  go_wp2_with (at_builtin; refine wpList_append_own_at _ rfl _ _ 116 rfl (B + 1) 9 i0 (.string ⟨#[]⟩) 1 16 Tryz.underlying116 hi hz0 hz1 hz2 rfl (by decide) (.slice ao τ.C.length cap) τ.C.length (τ.C.map str) rfl (by exact World.ownsRow.alloc (by exact r4) _) ⟨w6.heap.size, 0, none⟩ 1 1 [str tx] rfl rfl (cell_one_new _ _ _) (str_one tx) (by unfold maxLen; omega) (by omega) (by simp; omega) ?_; intro v' w3 hown hgrow hnil hloc; obtain ⟨ao2, cap2, hv2⟩ := own_slice hown; subst hv2; have c4' := (app_cell hgrow (by exact hlt) (by exact r4) 5).trans (by exact r2); have f4' := (app_frozen hgrow (by exact hlt) (by exact r4) 5).trans (by exact f4); have c6' := (app_cell hgrow (by exact hlt) (by exact r4) 6).trans (by exact c6); have c8' := (app_cell hgrow (by exact hlt) (by exact r4) 8).trans (by exact c8); have hgL := (app_low hgrow (by exact hlt) (by exact r4) hgB τ.C.length).trans (by exact hg); clear hnil)
  have P := RI.app5 (hI.drewN _) (by exact r1) (by exact r2) (by exact r3) (by exact r4) r5 hown hgrow hloc
  go_ret
  exact ⟨rfl, P.1, hB.trans ((below_drewN _ _ _).trans P.2)⟩

end

end Go.Proofs.YthcppbmkacbbiaaGreat

namespace Go.Proofs.YthcppbmkacbbiaaGreat
open Go.RowKit
open Rdg (St put)

section
variable (w : World) (B : Nat) (s : ByteArray) (σ : St) (k1 k2 : Value) (cl : List Int) (hl : List Bool)

set_option maxRecDepth 100000 in
set_option maxHeartbeats 1000000 in
theorem RV_cq_old (hs : s.size ≤ 100) (_hr : Rdg.Rdy s.size σ) (n : Nat) (H33 : Hid (Rdg.seesB (pk s) σ 33 = false)) (H80 : Hid (Rdg.seesB (pk s) σ 80 = false)) (H81 : Hid (Rdg.seesB (pk s) σ 81 = true)) (h1a : σ.a + 1 ≤ s.size) (hd8 : σ.d ≤ 8) (hr4 : Rdg.Rdy s.size (Rdg.rOpen (pk s) { σ with a := σ.a + 1 })) (hn4 : Rdg.need s.size (Rdg.rOpen (pk s) { σ with a := σ.a + 1 }) ≤ n + 1) (σ5 : St) (H5 : Hid ((Rdg.rTerm s.data.toList (pk s) (n + 1) (Rdg.rOpen (pk s) { σ with a := σ.a + 1 })).1 = σ5)) (h5a : σ5.a ≤ s.size) (h5d : 1 ≤ σ5.d ∧ σ5.d ≤ 9) (τ : St) (HT : Hid (Rdg.rShut (pk s) σ5 = τ)) (HE : Hid (τ.E = 0)) (hle : σ.a ≤ τ.a) (hle2 : τ.a ≤ s.size) (hTl : τ.C.length ≤ 500) (tx : List UInt8) (HX : Hid (Rdg.cut s.data.toList σ.a τ.a = tx)) (HC : Hid (τ.C.contains tx = true)) (hin : τ.C.idxOf tx < hl.length) (y : Bool) (HY : Hid (hl.getD (τ.C.idxOf tx) false = y)) (HCS : Hid (CS w B k1 k2 cl hl)) (h : RI w B s σ true k1 k2) :
    Calls Tryz.prog 98 #[.pointer (some ⟨B, 0, none⟩)] w fun e w' => e = .returned (.bool (y)) ∧ RI w' B s (τ) true k1 k2 ∧ Below B w w' := by
  have c1' := h.c1
  go_enter Tryz.func98, Tryz.ntmps98
  go_wp2_with fail
  refine (sees_any w B s σ true k1 k2 33 (by omega) h).mono ?_
  rw [unhide H33]
  rintro e w1 ⟨rfl, h1, b1⟩
  go_wp2_with fail
  refine (sees_any w1 B s σ true k1 k2 80 (by omega) h1).mono ?_
  rw [unhide H80]
  rintro e w2 ⟨rfl, h2, b2⟩
  go_wp2_with fail
  refine (sees_any w2 B s σ true k1 k2 81 (by omega) h2).mono ?_
  rw [unhide H81]
  rintro e w3 ⟨rfl, h3, b3⟩
  have c1 := h3.c1
  have f1 := h3.fz 1
  go_wp2_with fail
  refine (Ropen_any _ B s { σ with a := σ.a + 1 } true k1 k2 hs h1a hd8 (h3.set1 (by omega))).mono ?_
  rintro e w4 ⟨rfl, h4, b4⟩
  go_wp2_with fail
  refine (Rterm_any B s true k1 k2 hs (n + 1) w4 _ hr4 hn4 h4).mono ?_
  rw [unhide H5]
  generalize (Rdg.rTerm s.data.toList (pk s) (n + 1) (Rdg.rOpen (pk s) { σ with a := σ.a + 1 })).2 = z5
  rintro e w5 ⟨rfl, h5, b5⟩
  go_wp2_with fail
  refine (Rshut_any w5 B s σ5 true k1 k2 hs h5a h5d.2 h5d.1 h5).mono ?_
  rw [unhide HT]
  rintro e w6 ⟨rfl, hI, b6⟩
  have hB := ((((b1.trans b2).trans b3).trans (below_set _ _ _ _)).trans b4).trans (b5.trans b6)
  clear b1 b2 b4 b5 b6 h1 h2 h4 h5 c1 f1 b3 h3
  have c0 := hI.c0
  have c1 := hI.c1
  have c3 := hI.c3
  rw [unhide HE] at c3
  have c6 := hI.c6
  have c8 := hI.c8
  obtain ⟨g, cp, hk2, hgB, hg⟩ := ((unhide HCS).below hB).at2 hin
  subst hk2
  rw [unhide HY] at hg
  have hi5 : ((τ.C.idxOf tx : Nat) : Int) < (hl.length : Int) := by omega
  obtain ⟨v4, v5, r1, r2, r3, r4, r5⟩ := hI.rows
  have hx1 : (σ.a : Int) ≤ (τ.a : Int) := by omega
  have hx2 : (τ.a : Int) ≤ (s.size : Int) := by omega
  go_wp2_with fail
  go_quiet (fail)
  go_wp2_with fail
  rw [ext_str, unhide HX]
  refine (at_any _ tx τ.C v5 (B + 1) (by omega) (by exact r4)).mono ?_
  rw [atIdx_old (unhide HC)]
  rintro e w2 ⟨rfl, hw2⟩
  subst hw2
  have hnn : decide (((τ.C.idxOf tx : Nat) : Int) < 0) = false := by simp
  go_wp2_with fail
  go_ret
  exact ⟨rfl, hI.drewN _, hB.trans (below_drewN _ _ _)⟩

set_option maxRecDepth 100000 in
set_option maxHeartbeats 1000000 in
theorem RV_cq_new (hs : s.size ≤ 100) (_hr : Rdg.Rdy s.size σ) (n : Nat) (H33 : Hid (Rdg.seesB (pk s) σ 33 = false)) (H80 : Hid (Rdg.seesB (pk s) σ 80 = false)) (H81 : Hid (Rdg.seesB (pk s) σ 81 = true)) (h1a : σ.a + 1 ≤ s.size) (hd8 : σ.d ≤ 8) (hr4 : Rdg.Rdy s.size (Rdg.rOpen (pk s) { σ with a := σ.a + 1 })) (hn4 : Rdg.need s.size (Rdg.rOpen (pk s) { σ with a := σ.a + 1 }) ≤ n + 1) (σ5 : St) (H5 : Hid ((Rdg.rTerm s.data.toList (pk s) (n + 1) (Rdg.rOpen (pk s) { σ with a := σ.a + 1 })).1 = σ5)) (h5a : σ5.a ≤ s.size) (h5d : 1 ≤ σ5.d ∧ σ5.d ≤ 9) (τ : St) (HT : Hid (Rdg.rShut (pk s) σ5 = τ)) (HE : Hid (τ.E = 0)) (hle : σ.a ≤ τ.a) (hle2 : τ.a ≤ s.size) (hTl : τ.C.length ≤ 500) (tx : List UInt8) (HX : Hid (Rdg.cut s.data.toList σ.a τ.a = tx)) (HC : Hid (τ.C.contains tx = false)) (hin : τ.C.idxOf tx < hl.length) (y : Bool) (HY : Hid (hl.getD (τ.C.idxOf tx) false = y)) (HCS : Hid (CS w B k1 k2 cl hl)) (h : RI w B s σ true k1 k2) :
    Calls Tryz.prog 98 #[.pointer (some ⟨B, 0, none⟩)] w fun e w' => e = .returned (.bool (y)) ∧ RI w' B s ({ τ with C := τ.C ++ [tx] }) true k1 k2 ∧ Below B w w' := by
  have c1' := h.c1
  go_enter Tryz.func98, Tryz.ntmps98
  go_wp2_with fail
  refine (sees_any w B s σ true k1 k2 33 (by omega) h).mono ?_
  rw [unhide H33]
  rintro e w1 ⟨rfl, h1, b1⟩
  go_wp2_with fail
  refine (sees_any w1 B s σ true k1 k2 80 (by omega) h1).mono ?_
  rw [unhide H80]
  rintro e w2 ⟨rfl, h2, b2⟩
  go_wp2_with fail
  refine (sees_any w2 B s σ true k1 k2 81 (by omega) h2).mono ?_
  rw [unhide H81]
  rintro e w3 ⟨rfl, h3, b3⟩
  have c1 := h3.c1
  have f1 := h3.fz 1
  go_wp2_with fail
  refine (Ropen_any _ B s { σ with a := σ.a + 1 } true k1 k2 hs h1a hd8 (h3.set1 (by omega))).mono ?_
  rintro e w4 ⟨rfl, h4, b4⟩
  go_wp2_with fail
  refine (Rterm_any B s true k1 k2 hs (n + 1) w4 _ hr4 hn4 h4).mono ?_
  rw [unhide H5]
  generalize (Rdg.rTerm s.data.toList (pk s) (n + 1) (Rdg.rOpen (pk s) { σ with a := σ.a + 1 })).2 = z5
  rintro e w5 ⟨rfl, h5, b5⟩
  go_wp2_with fail
  refine (Rshut_any w5 B s σ5 true k1 k2 hs h5a h5d.2 h5d.1 h5).mono ?_
  rw [unhide HT]
  rintro e w6 ⟨rfl, hI, b6⟩
  have hB := ((((b1.trans b2).trans b3).trans (below_set _ _ _ _)).trans b4).trans (b5.trans b6)
  clear b1 b2 b4 b5 b6 h1 h2 h4 h5 c1 f1 b3 h3
  have c0 := hI.c0
  have c1 := hI.c1
  have c3 := hI.c3
  rw [unhide HE] at c3
  have c6 := hI.c6
  have c8 := hI.c8
  obtain ⟨g, cp, hk2, hgB, hg⟩ := ((unhide HCS).below hB).at2 hin
  subst hk2
  rw [unhide HY] at hg
  have hi5 : ((τ.C.idxOf tx : Nat) : Int) < (hl.length : Int) := by omega
  obtain ⟨v4, v5, r1, r2, r3, r4, r5⟩ := hI.rows
  have hx1 : (σ.a : Int) ≤ (τ.a : Int) := by omega
  have hx2 : (τ.a : Int) ≤ (s.size : Int) := by omega
  go_wp2_with fail
  go_quiet (fail)
  go_wp2_with fail
  rw [ext_str, unhide HX]
  refine (at_any _ tx τ.C v5 (B + 1) (by omega) (by exact r4)).mono ?_
  rw [atIdx_new (unhide HC)]
  rintro e w2 ⟨rfl, hw2⟩
  subst hw2
  have hidx : τ.C.idxOf tx = τ.C.length := List.idxOf_eq_length (by simpa using unhide HC)
  rw [hidx] at hg hi5
  clear hidx
  have hgne : g ≠ B := by omega
  have hgne2 : B ≠ g := by omega
  obtain ⟨i0, hi, hz0, hz1, hz2⟩ := info_parts infoS
  obtain ⟨ao, cap, hv4⟩ := own_slice r4
  subst hv4
  have hlt := hI.lt
  have f4 := hI.fz 5
  have hstr : str tx = .string ⟨tx.toArray⟩ := rfl
  rw [hstr]
  clear hstr
  go_wp2_with (at_builtin; refine wpList_append_own_at _ rfl _ _ 116 rfl (B + 1) 9 i0 (.string ⟨#[]⟩) 1 16 Tryz.underlying116 hi hz0 hz1 hz2 rfl (by decide) (.slice ao τ.C.length cap) τ.C.length (τ.C.map str) rfl (by exact World.ownsRow.alloc (by exact r4) _) ⟨w6.heap.size, 0, none⟩ 1 1 [str tx] rfl rfl (cell_one_new _ _ _) (str_one tx) (by unfold maxLen; omega) (by omega) (by simp; omega) ?_; intro v' w3 hown hgrow hnil hloc; obtain ⟨ao2, cap2, hv2⟩ := own_slice hown; subst hv2; have c4' := (app_cell hgrow (by exact hlt) (by exact r4) 5).trans (by exact r2); have f4' := (app_frozen hgrow (by exact hlt) (by exact r4) 5).trans (by exact f4); have c6' := (app_cell hgrow (by exact hlt) (by exact r4) 6).trans (by exact c6); have c8' := (app_cell hgrow (by exact hlt) (by exact r4) 8).trans (by exact c8); have hgL := (app_low hgrow (by exact hlt) (by exact r4) hgB τ.C.length).trans (by exact hg); clear hnil)
  have P := RI.app5 (hI.drewN _) (by exact r1) (by exact r2) (by exact r3) (by exact r4) r5 hown hgrow hloc
  go_ret
  exact ⟨rfl, P.1, hB.trans ((below_drewN _ _ _).trans P.2)⟩

end

end Go.Proofs.YthcppbmkacbbiaaGreat

namespace Go.Proofs.YthcppbmkacbbiaaGreat.Rdg

/-- No fewer terms, no fewer claims. -/
def Mn (σ τ : St) : Prop := σ.T.length ≤ τ.T.length ∧ σ.C.length ≤ τ.C.length

theorem Mn.refl (σ : St) : Mn σ σ := ⟨Nat.le_refl _, Nat.le_refl _⟩
theorem Mn.trans {σ τ ρ : St} (h : Mn σ τ) (g : Mn τ ρ) : Mn σ ρ := ⟨Nat.le_trans h.1 g.1, Nat.le_trans h.2 g.2⟩

section
variable {l : List UInt8} {pk : Nat → Int}

theorem mn_one (L : List Int) (σ : St) : Mn σ (rOne pk L σ).1 := by
  unfold rOne
  split
  · split
    · exact Mn.refl σ
    · exact Mn.refl σ
  · exact Mn.refl σ
theorem mn_open (σ : St) : Mn σ (rOpen pk σ) := by
  have h1 : Mn σ (rDeep pk σ) := by unfold rDeep; split; exact Mn.refl σ; exact Mn.refl σ
  exact h1.trans (mn_one (pk := pk) [40] _)
theorem mn_shut (σ : St) : Mn σ (rShut pk σ) := mn_one (pk := pk) [41] σ
theorem mn_keepT (x : Nat) (σ : St) : Mn σ (rKeepT l x σ).1 := by
  unfold rKeepT
  split
  · exact ⟨(put_length _ _).1, Nat.le_refl _⟩
  · exact Mn.refl σ
theorem mn_keepC (x : Nat) (σ : St) : Mn σ (rKeepC l x σ) := by
  unfold rKeepC
  split
  · exact ⟨Nat.le_refl _, (put_length _ _).1⟩
  · exact Mn.refl σ

theorem mn_term : ∀ (n : Nat) (σ : St), Mn σ (rTerm l pk n σ).1 := by
  intro n
  induction n with
  | zero => intro σ; exact Mn.refl σ
  | succ n ih =>
    intro σ
    unfold rTerm
    refine Mn.trans ?_ (mn_keepT _ _)
    refine (mn_one (pk := pk) letters σ).trans ?_
    unfold rIn
    split
    · exact ((mn_open _).trans (ih _)).trans (mn_shut _)
    · split
      · exact ((((mn_open _).trans (ih _)).trans (mn_one _ _)).trans (ih _)).trans (mn_shut _)
      · exact Mn.refl _

theorem mn_formula : ∀ (n : Nat) (σ : St), Mn σ (rFormula l pk n σ) := by
  intro n
  induction n with
  | zero => intro σ; exact Mn.refl σ
  | succ n ih =>
    intro σ
    unfold rFormula
    split
    · exact Mn.trans (⟨Nat.le_refl _, Nat.le_refl _⟩ : Mn σ { σ with a := σ.a + 1 }) (ih _)
    · split
      · refine Mn.trans ?_ (mn_keepC _ _)
        exact Mn.trans (⟨Nat.le_refl _, Nat.le_refl _⟩ : Mn σ { σ with a := σ.a + 1 }) (((mn_open _).trans (mn_term _ _)).trans (mn_shut _))
      · split
        · exact ((((mn_open _).trans (ih _)).trans (mn_one _ _)).trans (ih _)).trans (mn_shut _)
        · exact ((mn_term _ _).trans (mn_one _ _)).trans (mn_term _ _)

/-- A term's place. -/
theorem term_idx (n : Nat) (σ : St) (h : (rTerm l pk (n + 1) σ).1.E = 0) : (rTerm l pk (n + 1) σ).2 < (rTerm l pk (n + 1) σ).1.T.length := by
  unfold rTerm at h ⊢
  generalize rIn pk (fun τ => (rTerm l pk n τ).1) (rOne pk letters σ).2 (rOne pk letters σ).1 = τ at h ⊢
  unfold rKeepT at h ⊢
  by_cases hE : τ.E = 0
  · rw [if_pos hE]; exact idx_put _ _
  · rw [if_neg hE] at h; exact absurd h hE

variable {σ : St} {n : Nat} {cl : List Int} {hl : List Bool}

theorem rF_not (h : seesB pk σ 33 = true) : rFormula l pk (n + 1) σ = rFormula l pk n { σ with a := σ.a + 1 } := by
  rw [rFormula, if_pos h]
theorem rF_claim (h : seesB pk σ 33 = false) (h8 : (seesB pk σ 80 || seesB pk σ 81) = true) : rFormula l pk (n + 1) σ = rKeepC l σ.a (rShut pk (rTerm l pk (n + 1) (rOpen pk { σ with a := σ.a + 1 })).1) := by
  rw [rFormula, if_neg (by simp [h]), if_pos h8]
theorem rF_br (h : seesB pk σ 33 = false) (h8 : (seesB pk σ 80 || seesB pk σ 81) = false) (h4 : seesB pk σ 40 = true) : rFormula l pk (n + 1) σ = rShut pk (rFormula l pk n (rOne pk [38, 124, 62, 45] (rFormula l pk n (rOpen pk σ))).1) := by
  rw [rFormula, if_neg (by simp [h]), if_neg (by simp [h8]), if_pos h4]
theorem rF_eq (h : seesB pk σ 33 = false) (h8 : (seesB pk σ 80 || seesB pk σ 81) = false) (h4 : seesB pk σ 40 = false) : rFormula l pk (n + 1) σ = (rTerm l pk (n + 1) (rOne pk [61] (rTerm l pk (n + 1) σ).1).1).1 := by
  rw [rFormula, if_neg (by simp [h]), if_neg (by simp [h8]), if_neg (by simp [h4])]

theorem vF_not (h : seesB pk σ 33 = true) : vF l pk cl hl (n + 1) σ = !(vF l pk cl hl n { σ with a := σ.a + 1 }) := by
  rw [vF, if_pos h]
theorem vF_claim (h : seesB pk σ 33 = false) (h8 : (seesB pk σ 80 || seesB pk σ 81) = true) : vF l pk cl hl (n + 1) σ = hl.getD ((rShut pk (rTerm l pk (n + 1) (rOpen pk { σ with a := σ.a + 1 })).1).C.idxOf (cut l σ.a (rShut pk (rTerm l pk (n + 1) (rOpen pk { σ with a := σ.a + 1 })).1).a)) false := by
  rw [vF, if_neg (by simp [h]), if_pos h8]
theorem vF_br (h : seesB pk σ 33 = false) (h8 : (seesB pk σ 80 || seesB pk σ 81) = false) (h4 : seesB pk σ 40 = true) : vF l pk cl hl (n + 1) σ = jn (rOne pk [38, 124, 62, 45] (rFormula l pk n (rOpen pk σ))).2 (vF l pk cl hl n (rOpen pk σ)) (vF l pk cl hl n (rOne pk [38, 124, 62, 45] (rFormula l pk n (rOpen pk σ))).1) := by
  rw [vF, if_neg (by simp [h]), if_neg (by simp [h8]), if_pos h4]
theorem vF_eq (h : seesB pk σ 33 = false) (h8 : (seesB pk σ 80 || seesB pk σ 81) = false) (h4 : seesB pk σ 40 = false) : vF l pk cl hl (n + 1) σ = decide (cl.getD (rTerm l pk (n + 1) σ).2 0 = cl.getD (rTerm l pk (n + 1) (rOne pk [61] (rTerm l pk (n + 1) σ).1).1).2 0) := by
  rw [vF, if_neg (by simp [h]), if_neg (by simp [h8]), if_neg (by simp [h4])]
end

end Go.Proofs.YthcppbmkacbbiaaGreat.Rdg

namespace Go.Proofs.YthcppbmkacbbiaaGreat
open Go.RowKit
open Rdg (St put)

theorem RV_step (B : Nat) (s : ByteArray) (k1 k2 : Value) (cl : List Int) (hl : List Bool) (n : Nat) (hs : s.size ≤ 100) (hF : SaidRV B s k1 k2 cl hl n) : SaidRV B s k1 k2 cl hl (n + 1) := by
  intro w σ hr hn h hC hE0 hT0 hC0
  have hpk := pk_hpk s
  cases h33 : Rdg.seesB (pk s) σ 33 with
  | true =>
    rw [Rdg.rF_not h33] at hE0 hT0 hC0 ⊢
    rw [Rdg.vF_not h33]
    obtain ⟨hE, hp⟩ := Rdg.sees_live h33
    have f1 := Rdg.at1_fw hpk (by omega) h33
    have hlt := hpk σ.a (by omega)
    have hn' : s.size + 1 - σ.a ≤ n + 1 := by unfold Rdg.need at hn; rw [if_pos hE] at hn; exact hn
    exact RV_not w B s σ k1 k2 cl hl hs hr n (hide h33) hlt (hr.fw f1 rfl) (need_le (by omega) (fun _ => by simp; omega)) hF _ (hide rfl) (hide ⟨hE0, hT0, hC0⟩) (hide hC) h
  | false =>
    cases h8 : (Rdg.seesB (pk s) σ 80 || Rdg.seesB (pk s) σ 81) with
    | true =>
      rw [Rdg.rF_claim h33 h8] at hE0 hT0 hC0 ⊢
      rw [Rdg.vF_claim h33 h8]
      have h8' : Rdg.seesB (pk s) σ 80 = true ∨ Rdg.seesB (pk s) σ 81 = true := by simpa using h8
      have hlive : σ.E = 0 ∧ pk s σ.a ≠ 0 := by
        rcases h8' with e | e
        · obtain ⟨a1, a2⟩ := Rdg.sees_live e; exact ⟨a1, by omega⟩
        · obtain ⟨a1, a2⟩ := Rdg.sees_live e; exact ⟨a1, by omega⟩
      obtain ⟨hE, hp⟩ := hlive
      have f1 : Rdg.Fw s.size σ { σ with a := σ.a + 1 } := by
        rcases h8' with e | e
        · exact Rdg.at1_fw hpk (by omega) e
        · exact Rdg.at1_fw hpk (by omega) e
      have hlt := hpk σ.a hp
      have hd8 := hr.d8 hE
      have hn' : s.size + 1 - σ.a ≤ n + 1 := by unfold Rdg.need at hn; rw [if_pos hE] at hn; exact hn
      have hr1 : Rdg.Rdy s.size { σ with a := σ.a + 1 } := hr.fw f1 rfl
      have hr4 := hr1.open hpk hd8
      have f2 := Rdg.rOpen_fw hpk hr1.top
      have hn4 : Rdg.need s.size (Rdg.rOpen (pk s) { σ with a := σ.a + 1 }) ≤ n + 1 := need_le (by omega) (fun _ => by have := f2.le; simp at this; omega)
      obtain ⟨f3, d3⟩ := Rdg.rTerm_fw hpk s.data.toList (n + 1) (Rdg.rOpen (pk s) { σ with a := σ.a + 1 }) f2.top
      rw [Rdg.open_d] at d3
      generalize h5 : (Rdg.rTerm s.data.toList (pk s) (n + 1) (Rdg.rOpen (pk s) { σ with a := σ.a + 1 })).1 = σ5 at f3 d3 hE0 hT0 hC0 ⊢
      have f4 := Rdg.rShut_fw hpk f3.top
      have ff := ((f1.trans f2).trans f3).trans f4
      generalize ht : Rdg.rShut (pk s) σ5 = τ at f4 ff hE0 hT0 hC0 ⊢
      have hfit : τ.C.length ≤ 500 := by have := ff.c; have := ff.top; have := hr.c; have := ff.le; omega
      have hd5 : 1 ≤ σ5.d ∧ σ5.d ≤ 9 := by simp at d3; omega
      have hE2 : τ.E = 0 := by
        by_cases hE2 : τ.E = 0
        · exact hE2
        · rw [keepC_bad hE2] at hE0; exact absurd hE0 hE2
      have hin : τ.C.idxOf (Rdg.cut s.data.toList σ.a τ.a) < hl.length := by
        refine Nat.lt_of_lt_of_le (Rdg.idx_put τ.C (Rdg.cut s.data.toList σ.a τ.a)) ?_
        have hk : (Rdg.rKeepC s.data.toList σ.a τ).C = put τ.C (Rdg.cut s.data.toList σ.a τ.a) := by unfold Rdg.rKeepC; rw [if_pos hE2]
        rw [← hk]; exact hC0
      cases h80 : Rdg.seesB (pk s) σ 80 with
      | true =>
        cases hc : τ.C.contains (Rdg.cut s.data.toList σ.a τ.a) with
        | true =>
          rw [keepC_old hE2 hc]
          exact RV_cp_old w B s σ k1 k2 cl hl hs hr n (hide h33) (hide h80) (by omega) hd8 hr4 hn4 σ5 (hide h5) f3.top hd5 τ (hide ht) (hide hE2) ff.le ff.top hfit _ (hide rfl) (hide hc) hin _ (hide rfl) (hide hC) h
        | false =>
          rw [keepC_new hE2 hc]
          exact RV_cp_new w B s σ k1 k2 cl hl hs hr n (hide h33) (hide h80) (by omega) hd8 hr4 hn4 σ5 (hide h5) f3.top hd5 τ (hide ht) (hide hE2) ff.le ff.top hfit _ (hide rfl) (hide hc) hin _ (hide rfl) (hide hC) h
      | false =>
        have h81 : Rdg.seesB (pk s) σ 81 = true := by rw [h80] at h8'; simpa using h8'
        cases hc : τ.C.contains (Rdg.cut s.data.toList σ.a τ.a) with
        | true =>
          rw [keepC_old hE2 hc]
          exact RV_cq_old w B s σ k1 k2 cl hl hs hr n (hide h33) (hide h80) (hide h81) (by omega) hd8 hr4 hn4 σ5 (hide h5) f3.top hd5 τ (hide ht) (hide hE2) ff.le ff.top hfit _ (hide rfl) (hide hc) hin _ (hide rfl) (hide hC) h
        | false =>
          rw [keepC_new hE2 hc]
          exact RV_cq_new w B s σ k1 k2 cl hl hs hr n (hide h33) (hide h80) (hide h81) (by omega) hd8 hr4 hn4 σ5 (hide h5) f3.top hd5 τ (hide ht) (hide hE2) ff.le ff.top hfit _ (hide rfl) (hide hc) hin _ (hide rfl) (hide hC) h
    | false =>
      have h8' : Rdg.seesB (pk s) σ 80 = false ∧ Rdg.seesB (pk s) σ 81 = false := by simpa using h8
      cases h40 : Rdg.seesB (pk s) σ 40 with
      | true =>
        rw [Rdg.rF_br h33 h8 h40] at hE0 hT0 hC0 ⊢
        rw [Rdg.vF_br h33 h8 h40]
        obtain ⟨hE, hp⟩ := Rdg.sees_live h40
        have hlt := hpk σ.a (by omega)
        have hd8 := hr.d8 hE
        have hn' : s.size + 1 - σ.a ≤ n + 1 := by unfold Rdg.need at hn; rw [if_pos hE] at hn; exact hn
        have hr5 := hr.open hpk hd8
        have f2 := Rdg.rOpen_fw hpk hr.top
        have hn5 : Rdg.need s.size (Rdg.rOpen (pk s) σ) ≤ n := need_le (by omega) (fun e => by
          have := Rdg.open_live (pk s) σ e
          rw [this.2.2.2]; simp; omega)
        obtain ⟨f3, d3⟩ := Rdg.rFormula_fw hpk s.data.toList n (Rdg.rOpen (pk s) σ) f2.top
        have hr6 := hr5.fw f3 d3
        rw [Rdg.open_d] at d3
        have hn6 : 1 ≤ n := by omega
        have hlive6 : (Rdg.rFormula s.data.toList (pk s) n (Rdg.rOpen (pk s) σ)).E = 0 → σ.a + 1 ≤ (Rdg.rFormula s.data.toList (pk s) n (Rdg.rOpen (pk s) σ)).a := fun e => by
          have ho : (Rdg.rOpen (pk s) σ).E = 0 := Decidable.byContradiction fun hne => f3.dead hne e
          have := Rdg.open_live (pk s) σ ho
          have h1 := f3.le
          rw [this.2.2.2] at h1 ⊢
          simpa using h1
        generalize h6 : Rdg.rFormula s.data.toList (pk s) n (Rdg.rOpen (pk s) σ) = σ6 at f3 d3 hr6 hlive6 hE0 hT0 hC0 ⊢
        have f4 := Rdg.rOne_fw hpk (l := [38, 124, 62, 45]) (by rfl) f3.top
        have d4 := Rdg.one_d (pk s) [38, 124, 62, 45] σ6
        have hr7 := hr6.fw f4 d4
        have m7 := Rdg.mn_one (pk := pk s) [38, 124, 62, 45] σ6
        cases h7 : Rdg.rOne (pk s) [38, 124, 62, 45] σ6 with
        | mk σ7 c7 =>
          rw [h7] at f4 d4 hr7 hE0 hT0 hC0 m7
          simp only at f4 d4 hr7 hE0 hT0 hC0 m7 ⊢
          have hn7 : Rdg.need s.size σ7 ≤ n := need_le hn6 (fun e => by
            have ho : σ6.E = 0 := Decidable.byContradiction fun hne => f4.dead hne e
            have h1 := hlive6 ho
            have h2 := f4.le
            omega)
          obtain ⟨f5, d5⟩ := Rdg.rFormula_fw hpk s.data.toList n σ7 f4.top
          have m8 := Rdg.mn_formula (l := s.data.toList) (pk := pk s) n σ7
          generalize h8e : Rdg.rFormula s.data.toList (pk s) n σ7 = σ8 at f5 d5 hE0 hT0 hC0 m8 ⊢
          have f6 := Rdg.rShut_fw hpk f5.top
          have m9 := Rdg.mn_shut (pk := pk s) σ8
          have hE8 : σ8.E = 0 := Decidable.byContradiction fun hne => f6.dead hne hE0
          have hE7 : σ7.E = 0 := Decidable.byContradiction fun hne => f5.dead hne hE8
          have hE6 : σ6.E = 0 := Decidable.byContradiction fun hne => f4.dead hne hE7
          have hc7 : c7 = 38 ∨ c7 = 124 ∨ c7 = 62 ∨ c7 = 45 := by
            have hl7 := Rdg.one_live (pk s) [38, 124, 62, 45] σ6 (by rw [h7]; exact hE7)
            have e7 : c7 = pk s σ6.a := by have := hl7.2.2; rw [h7] at this; exact (Prod.mk.inj this).2
            have := hl7.2.1
            rw [← e7] at this
            simpa using this
          exact RV_br w B s σ k1 k2 cl hl hs hr n (hide h33) (hide h8'.1) (hide h8'.2) (hide h40) hd8 hr5 hn5 hF σ6 (hide h6) f3.top σ7 c7 (hide h7) hr7 hn7 σ8 (hide h8e) f5.top (by omega) _ _ (hide rfl) (hide rfl) hc7
            (hide ⟨hE6, by have := m7.1; have := m8.1; have := m9.1; omega, by have := m7.2; have := m8.2; have := m9.2; omega⟩) (hide ⟨hE8, by have := m9.1; omega, by have := m9.2; omega⟩) (hide hC) h
      | false =>
        rw [Rdg.rF_eq h33 h8 h40] at hE0 hT0 hC0 ⊢
        rw [Rdg.vF_eq h33 h8 h40]
        obtain ⟨f3, d3⟩ := Rdg.rTerm_fw hpk s.data.toList (n + 1) σ hr.top
        have hr5 := hr.fw f3 d3
        have hdead : (Rdg.rTerm s.data.toList (pk s) (n + 1) σ).1.E = 0 → σ.E = 0 := fun e => Decidable.byContradiction fun hne => f3.dead hne e
        have i5 := Rdg.term_idx (l := s.data.toList) (pk := pk s) n σ
        generalize h5 : (Rdg.rTerm s.data.toList (pk s) (n + 1) σ).1 = σ5 at f3 d3 hr5 hdead hE0 hT0 hC0 i5 ⊢
        have f4 := Rdg.rOne_fw hpk (l := [61]) (by rfl) f3.top
        have d4 := Rdg.one_d (pk s) [61] σ5
        have hr6 := hr5.fw f4 d4
        have m6 := Rdg.mn_one (pk := pk s) [61] σ5
        cases h6 : Rdg.rOne (pk s) [61] σ5 with
        | mk σ6 c6 =>
          rw [h6] at f4 d4 hr6 hE0 hT0 hC0 m6
          simp only at f4 d4 hr6 hE0 hT0 hC0 m6 ⊢
          have hn6 : Rdg.need s.size σ6 ≤ n + 1 := need_le (by omega) (fun e => by
            have ho : σ5.E = 0 := Decidable.byContradiction fun hne => f4.dead hne e
            have hE := hdead ho
            unfold Rdg.need at hn; rw [if_pos hE] at hn
            have := f4.le; have := f3.le; omega)
          obtain ⟨f5, _⟩ := Rdg.rTerm_fw hpk s.data.toList (n + 1) σ6 f4.top
          have m7 := Rdg.mn_term (l := s.data.toList) (pk := pk s) (n + 1) σ6
          have i7 := Rdg.term_idx (l := s.data.toList) (pk := pk s) n σ6 hE0
          have hE6 : σ6.E = 0 := Decidable.byContradiction fun hne => f5.dead hne hE0
          have hE5 : σ5.E = 0 := Decidable.byContradiction fun hne => f4.dead hne hE6
          have i5' := i5 hE5
          exact RV_eq w B s σ k1 k2 cl hl hs hr n (hide h33) (hide h8'.1) (hide h8'.2) (hide h40) hn σ5 (hide h5) f3.top σ6 c6 (hide h6) hr6 hn6 _ _ _ _ (hide rfl) (hide rfl) (hide rfl) (hide rfl) (by have := m6.1; have := m7.1; omega) (by omega) (hide hE0) (hide hC) h

theorem RV_any (B : Nat) (s : ByteArray) (k1 k2 : Value) (cl : List Int) (hl : List Bool) (hs : s.size ≤ 100) : ∀ n, SaidRV B s k1 k2 cl hl n
  | 0 => fun w σ hr hn h => absurd hn (by have := need_pos hr.top; omega)
  | n + 1 => RV_step B s k1 k2 cl hl n hs (RV_any B s k1 k2 cl hl hs n)

end Go.Proofs.YthcppbmkacbbiaaGreat

namespace Go.Proofs.YthcppbmkacbbiaaGreat
open Go.RowKit
open Rdg (St put)

/-- The world in which a reader in a case has been laid. -/
def vstart (w : World) (s : ByteArray) (k1 k2 : Value) : World :=
  w.alloc (.cells #[.string s, .int .i64 0, .int .i64 0, .int .i64 0, .slice none 0 0, .slice none 0 0, .bool true, k1, k2] 120)

theorem vstart_ri (w : World) (s : ByteArray) (k1 k2 : Value) : RI (vstart w s k1 k2) w.heap.size s st0 true k1 k2 where
  c0 := World.cell?_alloc_at _ _ _ _ rfl
  c1 := World.cell?_alloc_at _ _ _ _ rfl
  c2 := World.cell?_alloc_at _ _ _ _ rfl
  c3 := World.cell?_alloc_at _ _ _ _ rfl
  c6 := World.cell?_alloc_at _ _ _ _ rfl
  c7 := World.cell?_alloc_at _ _ _ _ rfl
  c8 := World.cell?_alloc_at _ _ _ _ rfl
  fz := fun _ => World.frozen?_alloc_at _ _ _ _ rfl
  rows := ⟨.slice none 0 0, .slice none 0 0, World.cell?_alloc_at _ _ _ _ rfl, World.cell?_alloc_at _ _ _ _ rfl, World.ownsRow_nil _ _ _ _, World.ownsRow_nil _ _ _ _, Or.inl rfl⟩

theorem vstart_below (w : World) (s : ByteArray) (k1 k2 : Value) : Below w.heap.size w (vstart w s k1 k2) := (Below.refl _ _).alloc (Nat.le_refl _) _

theorem CS.up {w : World} {B B' : Nat} {k1 k2 : Value} {cl : List Int} {hl : List Bool} (h : CS w B k1 k2 cl hl) (hB : B ≤ B') : CS w B' k1 k2 cl hl := by
  obtain ⟨⟨a, c, e, f⟩, a', c', e', f'⟩ := h
  refine ⟨⟨a, c, e, fun h0 => ?_⟩, a', c', e', fun h0 => ?_⟩
  · obtain ⟨g, h1, h2, h3⟩ := f h0
    exact ⟨g, h1, by omega, h3⟩
  · obtain ⟨g, h1, h2, h3⟩ := f' h0
    exact ⟨g, h1, by omega, h3⟩

/-- A formula's truth in a case. -/
def tru (s : ByteArray) (cl : List Int) (hl : List Bool) : Bool := Rdg.vF s.data.toList (pk s) cl hl (s.size + 1) st0

set_option maxHeartbeats 400000 in
theorem true_any (w : World) (s : ByteArray) (k1 k2 : Value) (cl : List Int) (hl : List Bool) (hs : s.size ≤ 100) (hE : (rall s).E = 0) (hT : (rall s).T.length ≤ cl.length) (hC : (rall s).C.length ≤ hl.length) (h : CS w w.heap.size k1 k2 cl hl) :
    Calls Tryz.prog 61 #[.string s, .agg #[k1, k2]] w fun e w' => e = .returned (.bool (tru s cl hl)) ∧ Below w.heap.size w w' := by
  have hsz : (w.alloc (.cells #[k1, k2] 118)).heap.size = w.heap.size + 1 := by simp
  have hb : Below w.heap.size w (w.alloc (.cells #[k1, k2] 118)) := (Below.refl _ w).alloc (Nat.le_refl _) _
  have hRI := vstart_ri (w.alloc (.cells #[k1, k2] 118)) s k1 k2
  have hvb := vstart_below (w.alloc (.cells #[k1, k2] 118)) s k1 k2
  rw [hsz] at hRI hvb
  have hCS : CS (w.alloc (.cells #[k1, k2] 118)) (w.heap.size + 1) k1 k2 cl hl := (h.below hb).up (Nat.le_succ _)
  have H := hide (RV_any (w.heap.size + 1) s k1 k2 cl hl hs (s.size + 1) (vstart (w.alloc (.cells #[k1, k2] 118)) s k1 k2) st0 (st0_rdy _) (st0_need _) hRI (hCS.below hvb) hE hT hC)
  have HB := hide ((hb.trans (hvb.mono (Nat.le_succ _))))
  obtain ⟨a1, c1, e1, _⟩ := h.r1
  obtain ⟨a2, c2, e2, _⟩ := h.r2
  subst e1
  subst e2
  unfold tru
  clear hsz hb hRI hvb hCS h
  go_enter Tryz.func61, Tryz.ntmps61
  go_wp2_with fail
  refine (unhide H).mono ?_
  rintro e w1 ⟨rfl, hI, hB⟩
  go_wp2_with fail
  go_ret
  exact ⟨rfl, (unhide HB).trans (hB.mono (Nat.le_succ _))⟩

end Go.Proofs.YthcppbmkacbbiaaGreat
