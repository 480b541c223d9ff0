import Derived.Test.YthcppbmkacbbiaaGreatRefFs
namespace Go.Proofs.YthcppbmkacbbiaaGreat
open Go.RowKit
open Rdg (St put)

def st0 : St := ⟨0, 0, 0, [], []⟩

/-- The world in which the document's reader has been laid. -/
def rstart (w : World) (s : ByteArray) : World :=
  w.alloc (.cells #[.string s, .int .i64 0, .int .i64 0, .int .i64 0, .slice none 0 0, .slice none 0 0, .bool false, .slice none 0 0, .slice none 0 0] 120)

theorem rstart_ri (w : World) (s : ByteArray) : RI (rstart w s) w.heap.size s st0 false (.slice none 0 0) (.slice none 0 0) where
  c0 := World.cell?_alloc_at _ _ _ _ rfl
  c1 := World.cell?_alloc_at _ _ _ _ rfl
  c2 := World.cell?_alloc_at _ _ _ _ rfl
  c3 := World.cell?_alloc_at _ _ _ _ rfl
  c6 := World.cell?_alloc_at _ _ _ _ rfl
  c7 := World.cell?_alloc_at _ _ _ _ rfl
  c8 := World.cell?_alloc_at _ _ _ _ rfl
  fz := fun _ => World.frozen?_alloc_at _ _ _ _ rfl
  rows := ⟨.slice none 0 0, .slice none 0 0, World.cell?_alloc_at _ _ _ _ rfl, World.cell?_alloc_at _ _ _ _ rfl, World.ownsRow_nil _ _ _ _, World.ownsRow_nil _ _ _ _, Or.inl rfl⟩

theorem rstart_below (w : World) (s : ByteArray) : Below w.heap.size w (rstart w s) := (Below.refl _ _).alloc (Nat.le_refl _) _

theorem st0_rdy (N : Nat) : Rdg.Rdy N st0 := ⟨Nat.zero_le _, Nat.zero_le _, fun _ => Nat.zero_le _, Nat.le_refl _, Nat.le_refl _⟩
theorem st0_need (N : Nat) : Rdg.need N st0 ≤ N + 1 := by unfold Rdg.need; split <;> omega

/-- The reader behind the reading of a whole text. -/
def rall (s : ByteArray) : St := Rdg.rFormula s.data.toList (pk s) (s.size + 1) st0

theorem rall_fw (s : ByteArray) : Rdg.Fw s.size st0 (rall s) := (Rdg.rFormula_fw (pk_hpk s) s.data.toList (s.size + 1) st0 (Nat.zero_le _)).1

section
variable (w : World) (s : ByteArray)

set_option maxHeartbeats 400000 in
theorem Rread_long (hs : 100 < s.size) (hm : s.size ≤ maxLen) :
    Calls Tryz.prog 56 #[.string s] w fun e w' => e = .returned (.tuple #[.pointer (some ⟨w.heap.size, 0, none⟩), .int .i64 1, .int .i64 0]) ∧ Below w.heap.size w w' := by
  unfold maxLen at hm
  go_enter Tryz.func56, Tryz.ntmps56
  go_wp2_with fail
  go_ret3
  exact ⟨rfl, rstart_below w s⟩

set_option maxHeartbeats 400000 in
theorem Rread_bad (hs : s.size ≤ 100) (τ : St) (HT : Hid (rall s = τ)) (hE : τ.E ≠ 0) :
    Calls Tryz.prog 56 #[.string s] w fun e w' => e = .returned (.tuple #[.pointer (some ⟨w.heap.size, 0, none⟩), .int .i64 τ.E, .int .i64 τ.a]) ∧ Below w.heap.size w w' := by
  have hb : decide ((100 : Int) < (s.size : Int)) = false := by simp; omega
  have hb1 : (τ.E == 0) = false := by simpa using hE
  have hb2 : (τ.E != 0) = true := by simpa using hE
  go_enter Tryz.func56, Tryz.ntmps56
  go_wp2_with fail
  refine (RF_any w.heap.size s _ _ hs (s.size + 1) (rstart w s) st0 (st0_rdy _) (st0_need _) (rstart_ri w s)).mono ?_
  rw [show Rdg.rFormula s.data.toList (pk s) (s.size + 1) st0 = τ from unhide HT]
  rintro e w1 ⟨⟨b, rfl⟩, hI, hB⟩
  have c1 := hI.c1
  have c3 := hI.c3
  go_wp2_with fail
  go_quiet (fail)
  go_wp2_with fail
  go_ret3
  exact ⟨rfl, ((rstart_below w s).trans hB).trans (below_drewN _ _ _)⟩

set_option maxHeartbeats 400000 in
theorem Rread_end (hs : s.size ≤ 100) (τ : St) (HT : Hid (rall s = τ)) (hE : τ.E = 0) (hlt : τ.a < s.size) :
    Calls Tryz.prog 56 #[.string s] w fun e w' => e = .returned (.tuple #[.pointer (some ⟨w.heap.size, 0, none⟩), .int .i64 2, .int .i64 τ.a]) ∧ Below w.heap.size w w' := by
  have hb : decide ((100 : Int) < (s.size : Int)) = false := by simp; omega
  have hb1 : decide ((τ.a : Int) < (s.size : Int)) = true := by simp; omega
  have HE := hide hE
  clear hE
  go_enter Tryz.func56, Tryz.ntmps56
  go_wp2_with fail
  refine (RF_any w.heap.size s _ _ hs (s.size + 1) (rstart w s) st0 (st0_rdy _) (st0_need _) (rstart_ri w s)).mono ?_
  rw [show Rdg.rFormula s.data.toList (pk s) (s.size + 1) st0 = τ from unhide HT]
  rintro e w1 ⟨⟨b, rfl⟩, hI, hB⟩
  have c1 := hI.c1
  have c3 := hI.c3
  have f3 := hI.fz 3
  rw [unhide HE] at c3
  go_wp2_with fail
  go_quiet (fail)
  go_wp2_with fail
  go_ret3
  exact ⟨rfl, (((rstart_below w s).trans hB).trans (below_set _ _ _ _)).trans (below_drewN _ _ _)⟩

set_option maxHeartbeats 400000 in
theorem Rread_many (hs : s.size ≤ 100) (τ : St) (HT : Hid (rall s = τ)) (hE : τ.E = 0) (hlt : ¬ τ.a < s.size) (hmany : 7 < τ.T.length ∨ 4 < τ.C.length) :
    Calls Tryz.prog 56 #[.string s] w fun e w' => e = .returned (.tuple #[.pointer (some ⟨w.heap.size, 0, none⟩), .int .i64 4, .int .i64 0]) ∧ Below w.heap.size w w' := by
  have hb : decide ((100 : Int) < (s.size : Int)) = false := by simp; omega
  have hb1 : decide ((τ.a : Int) < (s.size : Int)) = false := by simp; omega
  have HE := hide hE
  clear hE
  go_enter Tryz.func56, Tryz.ntmps56
  go_wp2_with fail
  refine (RF_any w.heap.size s _ _ hs (s.size + 1) (rstart w s) st0 (st0_rdy _) (st0_need _) (rstart_ri w s)).mono ?_
  rw [show Rdg.rFormula s.data.toList (pk s) (s.size + 1) st0 = τ from unhide HT]
  rintro e w1 ⟨⟨b, rfl⟩, hI, hB⟩
  have c1 := hI.c1
  have c3 := hI.c3
  rw [unhide HE] at c3
  obtain ⟨v4, v5, r1, r2, r3, r4, r5⟩ := hI.rows
  obtain ⟨ao, cap, e4⟩ := own_slice r3
  obtain ⟨ao', cap', e5⟩ := own_slice r4
  subst e4
  subst e5
  by_cases h7 : 7 < τ.T.length
  · have hb7 : decide ((7 : Int) < (τ.T.length : Int)) = true := by simp; omega
    go_wp2_with fail
    go_ret3
    exact ⟨rfl, (rstart_below w s).trans hB⟩
  · have hb7 : decide ((7 : Int) < (τ.T.length : Int)) = false := by simp; omega
    have hb4 : decide ((4 : Int) < (τ.C.length : Int)) = true := by simp; omega
    go_wp2_with fail
    go_ret3
    exact ⟨rfl, (rstart_below w s).trans hB⟩

set_option maxHeartbeats 400000 in
theorem Rread_ok (hs : s.size ≤ 100) (τ : St) (HT : Hid (rall s = τ)) (hE : τ.E = 0) (hlt : ¬ τ.a < s.size) (h7 : τ.T.length ≤ 7) (h4 : τ.C.length ≤ 4) :
    Calls Tryz.prog 56 #[.string s] w fun e w' => e = .returned (.tuple #[.pointer (some ⟨w.heap.size, 0, none⟩), .int .i64 0, .int .i64 0]) ∧ Below w.heap.size w w' ∧ RI w' w.heap.size s τ false (.slice none 0 0) (.slice none 0 0) := by
  have hb : decide ((100 : Int) < (s.size : Int)) = false := by simp; omega
  have hb1 : decide ((τ.a : Int) < (s.size : Int)) = false := by simp; omega
  have HE := hide hE
  clear hE
  go_enter Tryz.func56, Tryz.ntmps56
  go_wp2_with fail
  refine (RF_any w.heap.size s _ _ hs (s.size + 1) (rstart w s) st0 (st0_rdy _) (st0_need _) (rstart_ri w s)).mono ?_
  rw [show Rdg.rFormula s.data.toList (pk s) (s.size + 1) st0 = τ from unhide HT]
  rintro e w1 ⟨⟨b, rfl⟩, hI, hB⟩
  have c1 := hI.c1
  have c3 := hI.c3
  rw [unhide HE] at c3
  obtain ⟨v4, v5, r1, r2, r3, r4, r5⟩ := hI.rows
  obtain ⟨ao, cap, e4⟩ := own_slice r3
  obtain ⟨ao', cap', e5⟩ := own_slice r4
  subst e4
  subst e5
  have hb7 : decide ((7 : Int) < (τ.T.length : Int)) = false := by simp; omega
  have hb4 : decide ((4 : Int) < (τ.C.length : Int)) = false := by simp; omega
  go_wp2_with fail
  go_ret3
  exact ⟨rfl, (rstart_below w s).trans hB, hI⟩
end

/-- What the document's Check tells. -/
def rchk (s : ByteArray) : Int × Nat :=
  if 100 < s.size then (1, 0) else if (rall s).E ≠ 0 then ((rall s).E, (rall s).a) else if (rall s).a < s.size then (2, (rall s).a)
  else if 7 < (rall s).T.length ∨ 4 < (rall s).C.length then (4, 0) else (0, 0)

theorem Rread_chk (w : World) (s : ByteArray) (hm : s.size ≤ maxLen) :
    Calls Tryz.prog 56 #[.string s] w fun e w' => e = .returned (.tuple #[.pointer (some ⟨w.heap.size, 0, none⟩), .int .i64 (rchk s).1, .int .i64 (rchk s).2]) ∧ Below w.heap.size w w' := by
  unfold rchk
  by_cases hs : 100 < s.size
  · rw [if_pos hs]; exact Rread_long w s hs hm
  · rw [if_neg hs]
    have hs' : s.size ≤ 100 := by omega
    by_cases hE : (rall s).E ≠ 0
    · rw [if_pos hE]; exact Rread_bad w s hs' _ (hide rfl) hE
    · rw [if_neg hE]
      have hE' : (rall s).E = 0 := by simpa using hE
      by_cases h1 : (rall s).a < s.size
      · rw [if_pos h1]; exact Rread_end w s hs' _ (hide rfl) hE' h1
      · rw [if_neg h1]
        by_cases h2 : 7 < (rall s).T.length ∨ 4 < (rall s).C.length
        · rw [if_pos h2]; exact Rread_many w s hs' _ (hide rfl) hE' h1 h2
        · rw [if_neg h2]
          refine (Rread_ok w s hs' _ (hide rfl) hE' h1 (by omega) (by omega)).mono ?_
          rintro e w' ⟨rfl, h, _⟩
          exact ⟨rfl, h⟩

set_option maxHeartbeats 400000 in
theorem Rcheck_any (w : World) (s : ByteArray) (hm : s.size ≤ maxLen) :
    Calls Tryz.prog 35 #[.string s] w fun e w' => e = .returned (.tuple #[.int .i64 (rchk s).1, .int .i64 (rchk s).2]) ∧ Below w.heap.size w w' := by
  have HR := hide (fun w => Rread_chk w s hm)
  generalize rchk s = c at HR
  go_enter Tryz.func35, Tryz.ntmps35
  go_wp2_with fail
  refine ((unhide HR) _).mono ?_
  rintro e w1 ⟨rfl, h1⟩
  go_wp2_with fail
  go_ret2
  exact ⟨rfl, h1⟩

end Go.Proofs.YthcppbmkacbbiaaGreat
