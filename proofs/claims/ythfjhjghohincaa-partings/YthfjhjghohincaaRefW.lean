import Derived.Test.YthfjhjghohincaaCand
import Derived.Test.YthfjhjghohincaaRefP
namespace Go.Proofs.Ythfjhjghohincaa
open Go.RowKit
open Rdg (St put)

/-- A text as a value. -/
def str (l : List UInt8) : Value := .string ⟨l.toArray⟩

/-- The document's reader in block B. -/
structure RI (w : World) (B : Nat) (s : ByteArray) (σ : St) (on : Bool) (k1 k2 : Value) : Prop where
  c0 : w.cell? ⟨B, 0, none⟩ = some (.string s)
  c1 : w.cell? ⟨B, 1, none⟩ = some (.int .i64 σ.a)
  c2 : w.cell? ⟨B, 2, none⟩ = some (.int .i64 σ.d)
  c3 : w.cell? ⟨B, 3, none⟩ = some (.int .i64 σ.E)
  c6 : w.cell? ⟨B, 6, none⟩ = some (.bool on)
  c7 : w.cell? ⟨B, 7, none⟩ = some k1
  c8 : w.cell? ⟨B, 8, none⟩ = some k2
  fz : ∀ i, w.frozen? ⟨B, i, none⟩ = false
  rows : ∃ v4 v5, w.cell? ⟨B, 4, none⟩ = some v4 ∧ w.cell? ⟨B, 5, none⟩ = some v5 ∧ w.ownsRow (B + 1) 9 1 v4 σ.T.length (σ.T.map str) ∧ w.ownsRow (B + 1) 9 1 v5 σ.C.length (σ.C.map str) ∧
    (v4.ownBlock = none ∨ v5.ownBlock = none ∨ v4.ownBlock ≠ v5.ownBlock)

section
variable {w : World} {B : Nat} {s : ByteArray} {σ : St} {on : Bool} {k1 k2 : Value}

theorem RI.lt (h : RI w B s σ on k1 k2) : B < w.heap.size := World.block_lt_of_cell? w _ h.c0

theorem RI.drewN (h : RI w B s σ on k1 k2) (n : Nat) : RI (w.drewN n) B s σ on k1 k2 :=
  ⟨h.c0, h.c1, h.c2, h.c3, h.c6, h.c7, h.c8, h.fz, h.rows⟩

theorem row_set {w : World} {base : Nat} {v : Value} {n : Nat} {xs : List Value} (h : w.ownsRow base 9 1 v n xs) {a : Addr} (ha : a.block < base) (u : Value) : (w.setCell a u).ownsRow base 9 1 v n xs :=
  ownsRow_setCell_below h ha u

theorem RI.set1 (h : RI w B s σ on k1 k2) {v : Int} {a' : Nat} (hv : v = a') : RI (w.setCell ⟨B, 1, none⟩ (.int .i64 v)) B s { σ with a := a' } on k1 k2 := by
  subst hv
  obtain ⟨v4, v5, r1, r2, r3, r4, r5⟩ := h.rows
  refine ⟨?_, cell_same _ h.c1, ?_, ?_, ?_, ?_, ?_, fun i => by rw [World.frozen?_setCell]; exact h.fz i, v4, v5, ?_, ?_, row_set r3 (Nat.lt_succ_self _) _, row_set r4 (Nat.lt_succ_self _) _, r5⟩
  · rw [cell_other _ _ _ (by omega)]; exact h.c0
  · rw [cell_other _ _ _ (by omega)]; exact h.c2
  · rw [cell_other _ _ _ (by omega)]; exact h.c3
  · rw [cell_other _ _ _ (by omega)]; exact h.c6
  · rw [cell_other _ _ _ (by omega)]; exact h.c7
  · rw [cell_other _ _ _ (by omega)]; exact h.c8
  · rw [cell_other _ _ _ (by omega)]; exact r1
  · rw [cell_other _ _ _ (by omega)]; exact r2

theorem RI.set2 (h : RI w B s σ on k1 k2) {v : Int} {a' : Nat} (hv : v = a') : RI (w.setCell ⟨B, 2, none⟩ (.int .i64 v)) B s { σ with d := a' } on k1 k2 := by
  subst hv
  obtain ⟨v4, v5, r1, r2, r3, r4, r5⟩ := h.rows
  refine ⟨?_, ?_, cell_same _ h.c2, ?_, ?_, ?_, ?_, fun i => by rw [World.frozen?_setCell]; exact h.fz i, v4, v5, ?_, ?_, row_set r3 (Nat.lt_succ_self _) _, row_set r4 (Nat.lt_succ_self _) _, r5⟩
  · rw [cell_other _ _ _ (by omega)]; exact h.c0
  · rw [cell_other _ _ _ (by omega)]; exact h.c1
  · rw [cell_other _ _ _ (by omega)]; exact h.c3
  · rw [cell_other _ _ _ (by omega)]; exact h.c6
  · rw [cell_other _ _ _ (by omega)]; exact h.c7
  · rw [cell_other _ _ _ (by omega)]; exact h.c8
  · rw [cell_other _ _ _ (by omega)]; exact r1
  · rw [cell_other _ _ _ (by omega)]; exact r2

theorem RI.set3 (h : RI w B s σ on k1 k2) (E : Int) : RI (w.setCell ⟨B, 3, none⟩ (.int .i64 E)) B s { σ with E := E } on k1 k2 := by
  obtain ⟨v4, v5, r1, r2, r3, r4, r5⟩ := h.rows
  refine ⟨?_, ?_, ?_, cell_same _ h.c3, ?_, ?_, ?_, fun i => by rw [World.frozen?_setCell]; exact h.fz i, v4, v5, ?_, ?_, row_set r3 (Nat.lt_succ_self _) _, row_set r4 (Nat.lt_succ_self _) _, r5⟩
  · rw [cell_other _ _ _ (by omega)]; exact h.c0
  · rw [cell_other _ _ _ (by omega)]; exact h.c1
  · rw [cell_other _ _ _ (by omega)]; exact h.c2
  · rw [cell_other _ _ _ (by omega)]; exact h.c6
  · rw [cell_other _ _ _ (by omega)]; exact h.c7
  · rw [cell_other _ _ _ (by omega)]; exact h.c8
  · rw [cell_other _ _ _ (by omega)]; exact r1
  · rw [cell_other _ _ _ (by omega)]; exact r2
end

theorem ret_bool {a b : Bool} (h : a = b) : Ending.returned (.bool a) = .returned (.bool b) := by rw [h]

theorem below_drewN (B : Nat) (w : World) (n : Nat) : Below B w (w.drewN n) := ⟨rfl, rfl, rfl, Nat.le_refl _, fun _ _ => rfl⟩
theorem below_set (B : Nat) (w : World) (i : Nat) (v : Value) : Below B w (w.setCell ⟨B, i, none⟩ v) := (Below.refl B w).setCell (p := ⟨B, i, none⟩) (Nat.le_refl B) v

section
variable (w : World) (B : Nat) (s : ByteArray) (σ : St) (on : Bool) (k1 k2 : Value)

set_option maxHeartbeats 400000 in
theorem sees_any (c : Int) (hc : c ≠ 0) (h : RI w B s σ on k1 k2) :
    Calls Try.prog 42 #[.pointer (some ⟨B, 0, none⟩), .int .u8 c] w fun e w' => e = .returned (.bool (Rdg.seesB (pk s) σ c)) ∧ RI w' B s σ on k1 k2 ∧ Below B w w' := by
  have c0 := h.c0
  have c1 := h.c1
  have c3 := h.c3
  by_cases hE : σ.E = 0
  · rw [hE] at c3
    by_cases hlt : σ.a < s.size
    · have hl : decide ((σ.a : Int) < (s.size : Int)) = true := by simp; omega
      have hl' : (σ.a : Int) < (s.size : Int) := by omega
      have HE := hide hE
      clear hE
      go_enter Try.func42, Try.ntmps42
      go_wp2_with fail
      go_quiet (fail)
      go_wp2_with fail
      go_ret
      refine ⟨?_, h.drewN _, below_drewN _ _ _⟩
      unfold Rdg.seesB
      rw [decide_eq_true (unhide HE), Bool.true_and]
      refine ret_bool ?_
      have hp : pk s σ.a = (s[σ.a].toNat : Int) := by unfold pk; rw [dif_pos hlt]
      rw [hp, Bool.eq_iff_iff]
      simp
    · have hl : decide ((σ.a : Int) < (s.size : Int)) = false := by simp; omega
      have hp : pk s σ.a = 0 := by unfold pk; rw [dif_neg hlt]
      have HE := hide hE
      have HP := hide hp
      clear hE hp
      go_enter Try.func42, Try.ntmps42
      go_wp2_with fail
      go_quiet (fail)
      go_wp2_with fail
      go_ret
      refine ⟨?_, h.drewN _, below_drewN _ _ _⟩
      unfold Rdg.seesB
      rw [unhide HP, decide_eq_false (Ne.symm hc), Bool.and_false]
      rfl
  · have hb : (σ.E == 0) = false := by simpa using hE
    have HE := hide hE
    clear hE
    go_enter Try.func42, Try.ntmps42
    go_wp2_with fail
    go_quiet (fail)
    go_wp2_with fail
    go_ret
    refine ⟨?_, h.drewN _, below_drewN _ _ _⟩
    unfold Rdg.seesB
    rw [decide_eq_false (unhide HE), Bool.false_and]
    rfl

/-- The bytes of a text as numbers. -/
def ints (l : ByteArray) : List Int := l.data.toList.map (fun b => (b.toNat : Int))

theorem ints_mem {l : ByteArray} {c : Int} (k : Nat) (hk : k < l.size) (h : (l[k].toNat : Int) = c) : (ints l).contains c = true := by
  have : c ∈ ints l := by
    unfold ints
    rw [List.mem_map]
    exact ⟨l[k], by simp [ByteArray.getElem_eq_getElem_data], h⟩
  simpa using this

theorem ints_not {l : ByteArray} {c : Int} (h : ∀ k (hk : k < l.size), (l[k].toNat : Int) ≠ c) : (ints l).contains c = false := by
  have : ¬ c ∈ ints l := by
    unfold ints
    rw [List.mem_map]
    rintro ⟨b, hb, e⟩
    obtain ⟨k, hk, rfl⟩ := List.getElem_of_mem hb
    exact h k (by simpa using hk) (by simpa [ByteArray.getElem_eq_getElem_data] using e)
  simpa using this

theorem one_hit (s : ByteArray) (σ : St) (l : ByteArray) (k : Nat) (hk : k < l.size) (h : Rdg.seesB (pk s) σ (l[k].toNat : Int) = true) : Rdg.rOne (pk s) (ints l) σ = ({ σ with a := σ.a + 1 }, (l[k].toNat : Int)) := by
  unfold Rdg.seesB at h
  simp at h
  unfold Rdg.rOne
  rw [if_pos h.1, if_pos (ints_mem k hk h.2.symm), h.2]

theorem one_miss (s : ByteArray) (σ : St) (l : ByteArray) (hE : σ.E = 0) (h : ∀ j (hj : j < l.size), Rdg.seesB (pk s) σ (l[j].toNat : Int) = false) : Rdg.rOne (pk s) (ints l) σ = ({ σ with E := 2 }, 0) := by
  unfold Rdg.rOne
  rw [if_pos hE, ints_not (fun k hk e => by have := h k hk; unfold Rdg.seesB at this; rw [e, decide_eq_true hE] at this; simp at this)]
  rfl

set_option maxHeartbeats 1000000 in
theorem one_any (l : ByteArray) (hl : l.size ≤ 10) (h0 : ∀ k (hk : k < l.size), (l[k].toNat : Int) ≠ 0) (hs : s.size ≤ 100) (ha : σ.a ≤ s.size) (h : RI w B s σ on k1 k2) :
    Calls Try.prog 47 #[.pointer (some ⟨B, 0, none⟩), .string l] w fun e w' =>
      e = .returned (.int .u8 (Rdg.rOne (pk s) (ints l) σ).2) ∧ RI w' B s (Rdg.rOne (pk s) (ints l) σ).1 on k1 k2 ∧ Below B w w' := by
  go_enter Try.func47, Try.ntmps47
  go_wp2_with fail
  go_loopw [5] (fun i wr => ∃ k : Nat, k ≤ l.size ∧ i = .int .i64 k ∧ RI wr B s σ on k1 k2 ∧ Below B w wr ∧ ∀ j (hj : j < l.size), j < k → Rdg.seesB (pk s) σ (l[j].toNat : Int) = false)
    (fun i _ => l.size - (intOf i).toNat)
  case atStart => exact ⟨0, Nat.zero_le _, rfl, h, Below.refl _ _, fun j hj hk => absurd hk (by omega)⟩
  case round =>
    obtain ⟨k, hk, rfl, hI, hb, hno⟩ := hrel
    have HNO := hide hno
    clear hno
    by_cases hlt : k < l.size
    · cases hsee : Rdg.seesB (pk s) σ (l[k].toNat : Int) with
      | true =>
        have HS := hide hsee
        clear hsee
        go_wp2_with fail
        refine (sees_any wr B s σ on k1 k2 _ (h0 k hlt) hI).mono ?_
        rw [unhide HS]
        rintro e w1 ⟨rfl, h1, b1⟩
        have c1 := h1.c1
        have f1 := h1.fz 1
        go_wp2_with fail
        go_ret
        have hr := one_hit s σ l k hlt (unhide HS)
        rw [hr]
        exact ⟨rfl, h1.set1 (by omega), (hb.trans b1).trans (below_set _ _ _ _)⟩
      | false =>
        have HS := hide hsee
        clear hsee
        go_wp2_with fail
        refine (sees_any wr B s σ on k1 k2 _ (h0 k hlt) hI).mono ?_
        rw [unhide HS]
        rintro e w1 ⟨rfl, h1, b1⟩
        go_wp2_with fail
        go_roundw
        case rel =>
          refine ⟨k + 1, by omega, by go_num, h1, hb.trans b1, fun j hj hjk => ?_⟩
          by_cases e : j = k
          · subst e; exact unhide HS
          · exact unhide HNO j hj (by omega)
        case measure => simp [intOf]; omega
    · have hall : ∀ j (hj : j < l.size), Rdg.seesB (pk s) σ (l[j].toNat : Int) = false := fun j hj => unhide HNO j hj (by omega)
      have c3 := hI.c3
      by_cases hE : σ.E = 0
      · have hr := one_miss s σ l hE hall
        have HR := hide hr
        have HA := hide hall
        rw [hE] at c3
        have f3 := hI.fz 3
        clear hr hall hE
        go_wp2_with fail
        go_ret
        rw [unhide HR]
        exact ⟨rfl, hI.set3 2, hb.trans (below_set _ _ _ _)⟩
      · have hr : Rdg.rOne (pk s) (ints l) σ = (σ, 0) := by unfold Rdg.rOne; rw [if_neg hE]
        have hbe : (σ.E == 0) = false := by simpa using hE
        have HR := hide hr
        clear hr hall hE
        go_wp2_with fail
        go_ret
        rw [unhide HR]
        exact ⟨rfl, hI, hb⟩
end

end Go.Proofs.Ythfjhjghohincaa
