import Derived.Test.YthcppbmkacbbiaaGreatRdgM
import Derived.Test.YthcppbmkacbbiaaGreatCand
namespace Go.Proofs.YthcppbmkacbbiaaGreat.Rdg

/-- The document's reader: how far it has read, how deep it is, its error, its terms and its claims. -/
structure St where
  a : Nat
  d : Nat
  E : Int
  T : List (List UInt8)
  C : List (List UInt8)

def seesB (pk : Nat → Int) (σ : St) (c : Int) : Bool := decide (σ.E = 0) && decide (pk σ.a = c)

def rOne (pk : Nat → Int) (l : List Int) (σ : St) : St × Int :=
  if σ.E = 0 then
    if l.contains (pk σ.a) then ({ σ with a := σ.a + 1 }, pk σ.a) else ({ σ with E := 2 }, 0)
  else (σ, 0)

def rDeep (pk : Nat → Int) (σ : St) : St := if seesB pk σ 40 = true ∧ σ.d = 8 then { σ with E := 3 } else σ
def rUp (σ : St) : St := { σ with d := σ.d + 1 }
def rDown (σ : St) : St := { σ with d := σ.d - 1 }
def rOpen (pk : Nat → Int) (σ : St) : St := rUp (rOne pk [40] (rDeep pk σ)).1
def rShut (pk : Nat → Int) (σ : St) : St := rDown (rOne pk [41] σ).1

/-- The piece of the text from one place to another. -/
def cut (l : List UInt8) (x y : Nat) : List UInt8 := (l.drop x).take (y - x)

def letters : List Int := [97, 98, 99, 100, 101, 102, 103]

/-- The end of a reading of a term: it is put among the terms. -/
def rKeepT (l : List UInt8) (x : Nat) (σ : St) : St × Nat :=
  if σ.E = 0 then ({ σ with T := put σ.T (cut l x σ.a) }, σ.T.idxOf (cut l x σ.a)) else (σ, 0)

def rIn (pk : Nat → Int) (rec : St → St) (c : Int) (σ : St) : St :=
  if c = 102 then rShut pk (rec (rOpen pk σ))
  else if c = 103 then rShut pk (rec (rOne pk [44] (rec (rOpen pk σ))).1)
  else σ

def rTerm (l : List UInt8) (pk : Nat → Int) : Nat → St → St × Nat
  | 0, σ => (σ, 0)
  | n + 1, σ => rKeepT l σ.a (rIn pk (fun τ => (rTerm l pk n τ).1) (rOne pk letters σ).2 (rOne pk letters σ).1)

/-- The end of a reading of a claim. -/
def rKeepC (l : List UInt8) (x : Nat) (σ : St) : St :=
  if σ.E = 0 then { σ with C := put σ.C (cut l x σ.a) } else σ

def rFormula (l : List UInt8) (pk : Nat → Int) : Nat → St → St
  | 0, σ => σ
  | n + 1, σ =>
    if seesB pk σ 33 = true then rFormula l pk n { σ with a := σ.a + 1 }
    else if (seesB pk σ 80 || seesB pk σ 81) = true then
      rKeepC l σ.a (rShut pk (rTerm l pk (n + 1) (rOpen pk { σ with a := σ.a + 1 })).1)
    else if seesB pk σ 40 = true then
      rShut pk (rFormula l pk n (rOne pk [38, 124, 62, 45] (rFormula l pk n (rOpen pk σ))).1)
    else (rTerm l pk (n + 1) (rOne pk [61] (rTerm l pk (n + 1) σ).1).1).1

/-- The fuel that a reading wants. -/
def need (N : Nat) (σ : St) : Nat := if σ.E = 0 then N + 1 - σ.a else 1

end Go.Proofs.YthcppbmkacbbiaaGreat.Rdg

namespace Go.Proofs.YthcppbmkacbbiaaGreat
open Go.RowKit
open Rdg (St put)

/-- A text as a value. -/
def str (l : List UInt8) : Value := .string ⟨l.toArray⟩

/-- The document's reader in block B. -/
structure RI (w : World) (B : Nat) (s : ByteArray) (σ : St) (on : Bool) (k1 k2 : Value) : Prop where
  c0 : w.cell? ⟨B, 0, none⟩ = some (.string s)
  c1 : w.cell? ⟨B, 1, none⟩ = some (.int .i64 σ.a)
  c2 : w.cell? ⟨B, 2, none⟩ = some (.int .i64 σ.d)
  c3 : w.cell? ⟨B, 3, none⟩ = some (.int .i64 σ.E)
  c6 : w.cell? ⟨B, 6, none⟩ = some (.bool on)
  c7 : w.cell? ⟨B, 7, none⟩ = some k1
  c8 : w.cell? ⟨B, 8, none⟩ = some k2
  fz : ∀ i, w.frozen? ⟨B, i, none⟩ = false
  rows : ∃ v4 v5, w.cell? ⟨B, 4, none⟩ = some v4 ∧ w.cell? ⟨B, 5, none⟩ = some v5 ∧ w.ownsRow (B + 1) 9 1 v4 σ.T.length (σ.T.map str) ∧ w.ownsRow (B + 1) 9 1 v5 σ.C.length (σ.C.map str) ∧
    (v4.ownBlock = none ∨ v5.ownBlock = none ∨ v4.ownBlock ≠ v5.ownBlock)

section
variable {w : World} {B : Nat} {s : ByteArray} {σ : St} {on : Bool} {k1 k2 : Value}

theorem RI.lt (h : RI w B s σ on k1 k2) : B < w.heap.size := World.block_lt_of_cell? w _ h.c0

theorem RI.drewN (h : RI w B s σ on k1 k2) (n : Nat) : RI (w.drewN n) B s σ on k1 k2 :=
  ⟨h.c0, h.c1, h.c2, h.c3, h.c6, h.c7, h.c8, h.fz, h.rows⟩

theorem row_set {w : World} {base : Nat} {v : Value} {n : Nat} {xs : List Value} (h : w.ownsRow base 9 1 v n xs) {a : Addr} (ha : a.block < base) (u : Value) : (w.setCell a u).ownsRow base 9 1 v n xs :=
  ownsRow_setCell_below h ha u

theorem RI.set1 (h : RI w B s σ on k1 k2) {v : Int} {a' : Nat} (hv : v = a') : RI (w.setCell ⟨B, 1, none⟩ (.int .i64 v)) B s { σ with a := a' } on k1 k2 := by
  subst hv
  obtain ⟨v4, v5, r1, r2, r3, r4, r5⟩ := h.rows
  refine ⟨?_, cell_same _ h.c1, ?_, ?_, ?_, ?_, ?_, fun i => by rw [World.frozen?_setCell]; exact h.fz i, v4, v5, ?_, ?_, row_set r3 (Nat.lt_succ_self _) _, row_set r4 (Nat.lt_succ_self _) _, r5⟩
  · rw [cell_other _ _ _ (by omega)]; exact h.c0
  · rw [cell_other _ _ _ (by omega)]; exact h.c2
  · rw [cell_other _ _ _ (by omega)]; exact h.c3
  · rw [cell_other _ _ _ (by omega)]; exact h.c6
  · rw [cell_other _ _ _ (by omega)]; exact h.c7
  · rw [cell_other _ _ _ (by omega)]; exact h.c8
  · rw [cell_other _ _ _ (by omega)]; exact r1
  · rw [cell_other _ _ _ (by omega)]; exact r2

theorem RI.set2 (h : RI w B s σ on k1 k2) {v : Int} {a' : Nat} (hv : v = a') : RI (w.setCell ⟨B, 2, none⟩ (.int .i64 v)) B s { σ with d := a' } on k1 k2 := by
  subst hv
  obtain ⟨v4, v5, r1, r2, r3, r4, r5⟩ := h.rows
  refine ⟨?_, ?_, cell_same _ h.c2, ?_, ?_, ?_, ?_, fun i => by rw [World.frozen?_setCell]; exact h.fz i, v4, v5, ?_, ?_, row_set r3 (Nat.lt_succ_self _) _, row_set r4 (Nat.lt_succ_self _) _, r5⟩
  · rw [cell_other _ _ _ (by omega)]; exact h.c0
  · rw [cell_other _ _ _ (by omega)]; exact h.c1
  · rw [cell_other _ _ _ (by omega)]; exact h.c3
  · rw [cell_other _ _ _ (by omega)]; exact h.c6
  · rw [cell_other _ _ _ (by omega)]; exact h.c7
  · rw [cell_other _ _ _ (by omega)]; exact h.c8
  · rw [cell_other _ _ _ (by omega)]; exact r1
  · rw [cell_other _ _ _ (by omega)]; exact r2

theorem RI.set3 (h : RI w B s σ on k1 k2) (E : Int) : RI (w.setCell ⟨B, 3, none⟩ (.int .i64 E)) B s { σ with E := E } on k1 k2 := by
  obtain ⟨v4, v5, r1, r2, r3, r4, r5⟩ := h.rows
  refine ⟨?_, ?_, ?_, cell_same _ h.c3, ?_, ?_, ?_, fun i => by rw [World.frozen?_setCell]; exact h.fz i, v4, v5, ?_, ?_, row_set r3 (Nat.lt_succ_self _) _, row_set r4 (Nat.lt_succ_self _) _, r5⟩
  · rw [cell_other _ _ _ (by omega)]; exact h.c0
  · rw [cell_other _ _ _ (by omega)]; exact h.c1
  · rw [cell_other _ _ _ (by omega)]; exact h.c2
  · rw [cell_other _ _ _ (by omega)]; exact h.c6
  · rw [cell_other _ _ _ (by omega)]; exact h.c7
  · rw [cell_other _ _ _ (by omega)]; exact h.c8
  · rw [cell_other _ _ _ (by omega)]; exact r1
  · rw [cell_other _ _ _ (by omega)]; exact r2
end

theorem ret_bool {a b : Bool} (h : a = b) : Ending.returned (.bool a) = .returned (.bool b) := by rw [h]

theorem below_drewN (B : Nat) (w : World) (n : Nat) : Below B w (w.drewN n) := ⟨rfl, rfl, rfl, Nat.le_refl _, fun _ _ => rfl⟩
theorem below_set (B : Nat) (w : World) (i : Nat) (v : Value) : Below B w (w.setCell ⟨B, i, none⟩ v) := (Below.refl B w).setCell (p := ⟨B, i, none⟩) (Nat.le_refl B) v

section
variable (w : World) (B : Nat) (s : ByteArray) (σ : St) (on : Bool) (k1 k2 : Value)

set_option maxHeartbeats 400000 in
theorem sees_any (c : Int) (hc : c ≠ 0) (h : RI w B s σ on k1 k2) :
    Calls Tryz.prog 150 #[.pointer (some ⟨B, 0, none⟩), .int .u8 c] w fun e w' => e = .returned (.bool (Rdg.seesB (pk s) σ c)) ∧ RI w' B s σ on k1 k2 ∧ Below B w w' := by
  have c0 := h.c0
  have c1 := h.c1
  have c3 := h.c3
  by_cases hE : σ.E = 0
  · rw [hE] at c3
    by_cases hlt : σ.a < s.size
    · have hl : decide ((σ.a : Int) < (s.size : Int)) = true := by simp; omega
      have hl' : (σ.a : Int) < (s.size : Int) := by omega
      have HE := hide hE
      clear hE
      go_enter Tryz.func150, Tryz.ntmps150
      go_wp2_with fail
      go_quiet (fail)
      go_wp2_with fail
      go_ret
      refine ⟨?_, h.drewN _, below_drewN _ _ _⟩
      unfold Rdg.seesB
      rw [decide_eq_true (unhide HE), Bool.true_and]
      refine ret_bool ?_
      have hp : pk s σ.a = (s[σ.a].toNat : Int) := by unfold pk; rw [dif_pos hlt]
      rw [hp, Bool.eq_iff_iff]
      simp
    · have hl : decide ((σ.a : Int) < (s.size : Int)) = false := by simp; omega
      have hp : pk s σ.a = 0 := by unfold pk; rw [dif_neg hlt]
      have HE := hide hE
      have HP := hide hp
      clear hE hp
      go_enter Tryz.func150, Tryz.ntmps150
      go_wp2_with fail
      go_quiet (fail)
      go_wp2_with fail
      go_ret
      refine ⟨?_, h.drewN _, below_drewN _ _ _⟩
      unfold Rdg.seesB
      rw [unhide HP, decide_eq_false (Ne.symm hc), Bool.and_false]
      rfl
  · have hb : (σ.E == 0) = false := by simpa using hE
    have HE := hide hE
    clear hE
    go_enter Tryz.func150, Tryz.ntmps150
    go_wp2_with fail
    go_quiet (fail)
    go_wp2_with fail
    go_ret
    refine ⟨?_, h.drewN _, below_drewN _ _ _⟩
    unfold Rdg.seesB
    rw [decide_eq_false (unhide HE), Bool.false_and]
    rfl

/-- The bytes of a text as numbers. -/
def ints (l : ByteArray) : List Int := l.data.toList.map (fun b => (b.toNat : Int))

theorem ints_mem {l : ByteArray} {c : Int} (k : Nat) (hk : k < l.size) (h : (l[k].toNat : Int) = c) : (ints l).contains c = true := by
  have : c ∈ ints l := by
    unfold ints
    rw [List.mem_map]
    exact ⟨l[k], by simp [ByteArray.getElem_eq_getElem_data], h⟩
  simpa using this

theorem ints_not {l : ByteArray} {c : Int} (h : ∀ k (hk : k < l.size), (l[k].toNat : Int) ≠ c) : (ints l).contains c = false := by
  have : ¬ c ∈ ints l := by
    unfold ints
    rw [List.mem_map]
    rintro ⟨b, hb, e⟩
    obtain ⟨k, hk, rfl⟩ := List.getElem_of_mem hb
    exact h k (by simpa using hk) (by simpa [ByteArray.getElem_eq_getElem_data] using e)
  simpa using this

theorem one_hit (s : ByteArray) (σ : St) (l : ByteArray) (k : Nat) (hk : k < l.size) (h : Rdg.seesB (pk s) σ (l[k].toNat : Int) = true) : Rdg.rOne (pk s) (ints l) σ = ({ σ with a := σ.a + 1 }, (l[k].toNat : Int)) := by
  unfold Rdg.seesB at h
  simp at h
  unfold Rdg.rOne
  rw [if_pos h.1, if_pos (ints_mem k hk h.2.symm), h.2]

theorem one_miss (s : ByteArray) (σ : St) (l : ByteArray) (hE : σ.E = 0) (h : ∀ j (hj : j < l.size), Rdg.seesB (pk s) σ (l[j].toNat : Int) = false) : Rdg.rOne (pk s) (ints l) σ = ({ σ with E := 2 }, 0) := by
  unfold Rdg.rOne
  rw [if_pos hE, ints_not (fun k hk e => by have := h k hk; unfold Rdg.seesB at this; rw [e, decide_eq_true hE] at this; simp at this)]
  rfl

set_option maxHeartbeats 1000000 in
theorem one_any (l : ByteArray) (hl : l.size ≤ 10) (h0 : ∀ k (hk : k < l.size), (l[k].toNat : Int) ≠ 0) (hs : s.size ≤ 100) (ha : σ.a ≤ s.size) (h : RI w B s σ on k1 k2) :
    Calls Tryz.prog 155 #[.pointer (some ⟨B, 0, none⟩), .string l] w fun e w' =>
      e = .returned (.int .u8 (Rdg.rOne (pk s) (ints l) σ).2) ∧ RI w' B s (Rdg.rOne (pk s) (ints l) σ).1 on k1 k2 ∧ Below B w w' := by
  go_enter Tryz.func155, Tryz.ntmps155
  go_wp2_with fail
  go_loopw [5] (fun i wr => ∃ k : Nat, k ≤ l.size ∧ i = .int .i64 k ∧ RI wr B s σ on k1 k2 ∧ Below B w wr ∧ ∀ j (hj : j < l.size), j < k → Rdg.seesB (pk s) σ (l[j].toNat : Int) = false)
    (fun i _ => l.size - (intOf i).toNat)
  case atStart => exact ⟨0, Nat.zero_le _, rfl, h, Below.refl _ _, fun j hj hk => absurd hk (by omega)⟩
  case round =>
    obtain ⟨k, hk, rfl, hI, hb, hno⟩ := hrel
    have HNO := hide hno
    clear hno
    by_cases hlt : k < l.size
    · cases hsee : Rdg.seesB (pk s) σ (l[k].toNat : Int) with
      | true =>
        have HS := hide hsee
        clear hsee
        go_wp2_with fail
        refine (sees_any wr B s σ on k1 k2 _ (h0 k hlt) hI).mono ?_
        rw [unhide HS]
        rintro e w1 ⟨rfl, h1, b1⟩
        have c1 := h1.c1
        have f1 := h1.fz 1
        go_wp2_with fail
        go_ret
        have hr := one_hit s σ l k hlt (unhide HS)
        rw [hr]
        exact ⟨rfl, h1.set1 (by omega), (hb.trans b1).trans (below_set _ _ _ _)⟩
      | false =>
        have HS := hide hsee
        clear hsee
        go_wp2_with fail
        refine (sees_any wr B s σ on k1 k2 _ (h0 k hlt) hI).mono ?_
        rw [unhide HS]
        rintro e w1 ⟨rfl, h1, b1⟩
        go_wp2_with fail
        go_roundw
        case rel =>
          refine ⟨k + 1, by omega, by go_num, h1, hb.trans b1, fun j hj hjk => ?_⟩
          by_cases e : j = k
          · subst e; exact unhide HS
          · exact unhide HNO j hj (by omega)
        case measure => simp [intOf]; omega
    · have hall : ∀ j (hj : j < l.size), Rdg.seesB (pk s) σ (l[j].toNat : Int) = false := fun j hj => unhide HNO j hj (by omega)
      have c3 := hI.c3
      by_cases hE : σ.E = 0
      · have hr := one_miss s σ l hE hall
        have HR := hide hr
        have HA := hide hall
        rw [hE] at c3
        have f3 := hI.fz 3
        clear hr hall hE
        go_wp2_with fail
        go_ret
        rw [unhide HR]
        exact ⟨rfl, hI.set3 2, hb.trans (below_set _ _ _ _)⟩
      · have hr : Rdg.rOne (pk s) (ints l) σ = (σ, 0) := by unfold Rdg.rOne; rw [if_neg hE]
        have hbe : (σ.E == 0) = false := by simpa using hE
        have HR := hide hr
        clear hr hall hE
        go_wp2_with fail
        go_ret
        rw [unhide HR]
        exact ⟨rfl, hI, hb⟩
end

end Go.Proofs.YthcppbmkacbbiaaGreat

namespace Go.Proofs.YthcppbmkacbbiaaGreat
open Go.RowKit
open Rdg (St put)

theorem ints40 : ints ⟨#[40]⟩ = [40] := rfl
theorem ints41 : ints ⟨#[41]⟩ = [41] := rfl
theorem ints44 : ints ⟨#[44]⟩ = [44] := rfl
theorem ints61 : ints ⟨#[61]⟩ = [61] := rfl
theorem intsJ : ints ⟨#[38, 124, 62, 45]⟩ = [38, 124, 62, 45] := rfl
theorem intsL : ints ⟨#[97, 98, 99, 100, 101, 102, 103]⟩ = Rdg.letters := rfl

theorem nz_of {l : ByteArray} (h : (l.data.toList.all (fun b => b != 0)) = true) : ∀ k (hk : k < l.size), (l[k].toNat : Int) ≠ 0 := by
  intro k hk e
  have h1 := List.all_eq_true.1 h l[k] (by simp [ByteArray.getElem_eq_getElem_data])
  have h2 : l[k] ≠ 0 := by simpa using h1
  apply h2
  apply UInt8.toNat_inj.1
  have : l[k].toNat = 0 := by omega
  rw [this]; rfl

theorem rOne_d (pk : Nat → Int) (l : List Int) (σ : St) : (Rdg.rOne pk l σ).1.d = σ.d := by
  unfold Rdg.rOne; split
  · split <;> rfl
  · rfl
theorem rDeep_d (pk : Nat → Int) (σ : St) : (Rdg.rDeep pk σ).d = σ.d := by unfold Rdg.rDeep; split <;> rfl
theorem rDeep_a (pk : Nat → Int) (σ : St) : (Rdg.rDeep pk σ).a = σ.a := by unfold Rdg.rDeep; split <;> rfl

section
variable (w : World) (B : Nat) (s : ByteArray) (σ : St) (on : Bool) (k1 k2 : Value)

theorem one_list (l : ByteArray) (L : List Int) (hL : ints l = L) (hl : l.size ≤ 10) (h0 : (l.data.toList.all (fun b => b != 0)) = true) (hs : s.size ≤ 100) (ha : σ.a ≤ s.size) (h : RI w B s σ on k1 k2) :
    Calls Tryz.prog 155 #[.pointer (some ⟨B, 0, none⟩), .string l] w fun e w' =>
      e = .returned (.int .u8 (Rdg.rOne (pk s) L σ).2) ∧ RI w' B s (Rdg.rOne (pk s) L σ).1 on k1 k2 ∧ Below B w w' := by
  subst hL
  exact one_any w B s σ on k1 k2 l hl (nz_of h0) hs ha h

set_option maxHeartbeats 400000 in
theorem Ropen_any (hs : s.size ≤ 100) (ha : σ.a ≤ s.size) (hd : σ.d ≤ 8) (h : RI w B s σ on k1 k2) :
    Calls Tryz.prog 151 #[.pointer (some ⟨B, 0, none⟩)] w fun e w' => e = .returned (.tuple #[]) ∧ RI w' B s (Rdg.rOpen (pk s) σ) on k1 k2 ∧ Below B w w' := by
  unfold Rdg.rOpen
  have hdd := rOne_d (pk s) [40] (Rdg.rDeep (pk s) σ)
  rw [rDeep_d] at hdd
  cases hsee : Rdg.seesB (pk s) σ 40 with
  | true =>
    by_cases h8 : σ.d = 8
    · have hr : Rdg.rDeep (pk s) σ = { σ with E := 3 } := by unfold Rdg.rDeep; rw [if_pos ⟨hsee, h8⟩]
      rw [hr] at hdd ⊢
      have HS := hide hsee
      have HD := hide hdd
      have H8 := hide h8
      clear hsee hr hdd h8
      go_enter Tryz.func151, Tryz.ntmps151
      go_wp2_with fail
      refine (sees_any w B s σ on k1 k2 40 (by omega) h).mono ?_
      rw [unhide HS]
      rintro e w1 ⟨rfl, h1, b1⟩
      have c2 := h1.c2
      rw [unhide H8] at c2
      have c3 := h1.c3
      have f3 := h1.fz 3
      go_wp2_with fail
      refine (one_list _ B s _ on k1 k2 _ [40] ints40 (by decide) (by decide) hs (by exact ha) (h1.set3 3)).mono ?_
      generalize hτ : Rdg.rOne (pk s) [40] { σ with E := 3 } = τ at HD
      obtain ⟨τ, c⟩ := τ
      rintro e w2 ⟨rfl, h2, b2⟩
      have c2' := h2.c2
      have f2 := h2.fz 2
      have hb8 : τ.d ≤ 8 := by have := unhide HD; simp at this; omega
      simp only at c2'
      have HT := hide hτ
      clear hτ
      go_wp2_with fail
      go_end0
      refine ⟨rfl, ?_, (b1.trans (below_set _ _ _ _)).trans (b2.trans (below_set _ _ _ _))⟩
      rw [unhide HT]
      exact h2.set2 (a' := τ.d + 1) (by omega)
    · have hr : Rdg.rDeep (pk s) σ = σ := by unfold Rdg.rDeep; rw [if_neg (fun e => h8 e.2)]
      rw [hr] at hdd ⊢
      have hb8' : ((σ.d : Int) == 8) = false := beq_eq_false_iff_ne.2 (by omega)
      have HS := hide hsee
      have HD := hide hdd
      clear hsee hr hdd
      go_enter Tryz.func151, Tryz.ntmps151
      go_wp2_with fail
      refine (sees_any w B s σ on k1 k2 40 (by omega) h).mono ?_
      rw [unhide HS]
      rintro e w1 ⟨rfl, h1, b1⟩
      have c2 := h1.c2
      go_wp2_with fail
      refine (one_list _ B s _ on k1 k2 _ [40] ints40 (by decide) (by decide) hs (by exact ha) h1).mono ?_
      generalize hτ : Rdg.rOne (pk s) [40] σ = τ at HD
      obtain ⟨τ, c⟩ := τ
      rintro e w2 ⟨rfl, h2, b2⟩
      have c2' := h2.c2
      have f2 := h2.fz 2
      have hb8 : τ.d ≤ 8 := by have := unhide HD; simp at this; omega
      simp only at c2'
      have HT := hide hτ
      clear hτ
      go_wp2_with fail
      go_end0
      refine ⟨rfl, ?_, b1.trans (b2.trans (below_set _ _ _ _))⟩
      rw [unhide HT]
      exact h2.set2 (a' := τ.d + 1) (by omega)
  | false =>
    have hr : Rdg.rDeep (pk s) σ = σ := by unfold Rdg.rDeep; rw [if_neg (fun e => by rw [hsee] at e; exact absurd e.1 (by simp))]
    rw [hr] at hdd ⊢
    have HS := hide hsee
    have HD := hide hdd
    clear hsee hr hdd
    go_enter Tryz.func151, Tryz.ntmps151
    go_wp2_with fail
    refine (sees_any w B s σ on k1 k2 40 (by omega) h).mono ?_
    rw [unhide HS]
    rintro e w1 ⟨rfl, h1, b1⟩
    go_wp2_with fail
    refine (one_list _ B s _ on k1 k2 _ [40] ints40 (by decide) (by decide) hs (by exact ha) h1).mono ?_
    generalize hτ : Rdg.rOne (pk s) [40] σ = τ at HD
    obtain ⟨τ, c⟩ := τ
    rintro e w2 ⟨rfl, h2, b2⟩
    have c2' := h2.c2
    have f2 := h2.fz 2
    have hb8 : τ.d ≤ 8 := by have := unhide HD; simp at this; omega
    simp only at c2'
    have HT := hide hτ
    clear hτ
    go_wp2_with fail
    go_end0
    refine ⟨rfl, ?_, b1.trans (b2.trans (below_set _ _ _ _))⟩
    rw [unhide HT]
    exact h2.set2 (a' := τ.d + 1) (by omega)

set_option maxHeartbeats 400000 in
theorem Rshut_any (hs : s.size ≤ 100) (ha : σ.a ≤ s.size) (hd : σ.d ≤ 9) (hd1 : 1 ≤ σ.d) (h : RI w B s σ on k1 k2) :
    Calls Tryz.prog 153 #[.pointer (some ⟨B, 0, none⟩)] w fun e w' => e = .returned (.tuple #[]) ∧ RI w' B s (Rdg.rShut (pk s) σ) on k1 k2 ∧ Below B w w' := by
  unfold Rdg.rShut
  have hdd := rOne_d (pk s) [41] σ
  have HD := hide hdd
  clear hdd
  go_enter Tryz.func153, Tryz.ntmps153
  go_wp2_with fail
  refine (one_list _ B s _ on k1 k2 _ [41] ints41 (by decide) (by decide) hs ha h).mono ?_
  generalize hτ : Rdg.rOne (pk s) [41] σ = τ at HD
  obtain ⟨τ, c⟩ := τ
  rintro e w2 ⟨rfl, h2, b2⟩
  have c2' := h2.c2
  have f2 := h2.fz 2
  have hb8 : τ.d ≤ 9 := by have := unhide HD; simp at this; omega
  have hb1 : 1 ≤ τ.d := by have := unhide HD; simp at this; omega
  simp only at c2'
  have HT := hide hτ
  clear hτ
  go_wp2_with fail
  go_end0
  refine ⟨rfl, ?_, b2.trans (below_set _ _ _ _)⟩
  rw [unhide HT]
  exact h2.set2 (a' := τ.d - 1) (by omega)

/-- A slice that owns a row of texts: at its places the texts lie. -/
theorem row_cell {w : World} {base : Nat} {v : Value} {T : List (List UInt8)} (h : w.ownsRow base 9 1 v T.length (T.map str)) (h0 : 0 < T.length) :
    ∃ g cap, v = .slice (some ⟨g, 0, none⟩) T.length cap ∧ ∀ j (hj : j < T.length), w.cell? ⟨g, j, none⟩ = some (str T[j]) := by
  have h' := h
  obtain ⟨_, h2⟩ := h
  rcases h2 with ⟨_, e⟩ | ⟨g, cap, cur, hv, _⟩
  · omega
  · subst hv
    exact ⟨g, cap, rfl, fun j hj => by rw [h'.cellAt j (by omega)]; simp [hj]⟩

/-- Where a text stands in a list; -1: nowhere. -/
def atIdx (T : List (List UInt8)) (t : List UInt8) : Int := if T.contains t then (T.idxOf t : Int) else -1

theorem atIdx_hit {T : List (List UInt8)} {t : List UInt8} {k : Nat} (hk : k < T.length) (hno : ∀ j (hj : j < T.length), j < k → T[j] ≠ t) (h : T[k] = t) : atIdx T t = k := by
  have hm : t ∈ T := by rw [← h]; exact List.getElem_mem hk
  unfold atIdx
  rw [if_pos (by simpa using hm)]
  have h1 : T.idxOf t ≤ k := by
    by_cases hlt : T.idxOf t ≤ k
    · exact hlt
    · exfalso
      have := List.not_of_lt_findIdx (p := (· == t)) (xs := T) (i := k) (by unfold List.idxOf at hlt; omega)
      simp [h] at this
  have h2 : ¬ T.idxOf t < k := fun hlt => hno _ (List.idxOf_lt_length_of_mem hm) hlt (List.getElem_idxOf _)
  omega

theorem atIdx_miss {T : List (List UInt8)} {t : List UInt8} (hno : ∀ j (hj : j < T.length), T[j] ≠ t) : atIdx T t = -1 := by
  have hm : ¬ t ∈ T := fun h => by
    obtain ⟨j, hj, e⟩ := List.getElem_of_mem h
    exact hno j hj e
  unfold atIdx
  rw [if_neg (by simpa using hm)]

set_option maxHeartbeats 1000000 in
theorem at_any (t : List UInt8) (T : List (List UInt8)) (v : Value) (base : Nat) (hT : T.length ≤ 1000) (ho : w.ownsRow base 9 1 v T.length (T.map str)) :
    Calls Tryz.prog 154 #[v, str t] w fun e w' => e = .returned (.int .i64 (atIdx T t)) ∧ w' = w := by
  by_cases h0 : 0 < T.length
  · obtain ⟨g, cap, rfl, hc⟩ := row_cell ho h0
    unfold str
    go_enter Tryz.func154, Tryz.ntmps154
    go_wp2_with fail
    go_loop [5] (fun i => ∃ k : Nat, k ≤ T.length ∧ i = .int .i64 k ∧ ∀ j (hj : j < T.length), j < k → T[j] ≠ t) (fun i => T.length - (intOf i).toNat)
    case atStart => exact ⟨0, Nat.zero_le _, rfl, fun j hj hk => absurd hk (by omega)⟩
    case round =>
      obtain ⟨k, hk, rfl, hno⟩ := hrel
      have HNO := hide hno
      clear hno
      by_cases hlt : k < T.length
      · have hck := hc k hlt
        unfold str at hck
        clear hc
        by_cases hq : T[k] = t
        · have hb : (T[k] == t) = true := by simpa using hq
          have HQ := hide hq
          clear hq
          go_wp2_with fail
          go_ret
          exact ⟨ret_int (atIdx_hit hlt (unhide HNO) (unhide HQ)).symm, rfl⟩
        · have hb : (T[k] == t) = false := by simpa using hq
          have HQ := hide hq
          clear hq
          go_wp2_with fail
          go_round
          case rel =>
            refine ⟨k + 1, by omega, by go_num, fun j hj hjk => ?_⟩
            by_cases e : j = k
            · subst e; exact unhide HQ
            · exact unhide HNO j hj (by omega)
          case measure => simp [intOf]; omega
      · clear hc
        go_wp2_with fail
        go_ret
        exact ⟨ret_int (atIdx_miss (fun j hj => unhide HNO j hj (by omega))).symm, rfl⟩
  · have hnil : T = [] := List.eq_nil_of_length_eq_zero (by omega)
    subst hnil
    have hv : ∃ ao cap, v = .slice ao 0 cap := by
      obtain ⟨_, h2⟩ := ho
      rcases h2 with ⟨e, _⟩ | ⟨g, cap, cur, e, _⟩
      · exact ⟨_, _, e⟩
      · exact ⟨_, _, e⟩
    obtain ⟨ao, cap, rfl⟩ := hv
    unfold str
    have hm : atIdx [] t = -1 := rfl
    rw [hm]
    go_enter Tryz.func154, Tryz.ntmps154
    go_wp2_with fail
    refine wp_loop_rounds 1 ?_
    rw [rounds_succ]
    go_wp2_with fail
    go_ret
    exact ⟨rfl, rfl⟩
end

end Go.Proofs.YthcppbmkacbbiaaGreat

namespace Go.Proofs.YthcppbmkacbbiaaGreat.Rdg

/-- What a reading step keeps: it goes forward, within the text; each term and claim that is put costs a byte; the depth. -/
structure Fw (N : Nat) (σ τ : St) : Prop where
  le : σ.a ≤ τ.a
  top : τ.a ≤ N
  t : τ.T.length + σ.a ≤ σ.T.length + τ.a
  c : τ.C.length + σ.a ≤ σ.C.length + τ.a
  dead : σ.E ≠ 0 → τ.E ≠ 0

theorem Fw.refl {N : Nat} {σ : St} (h : σ.a ≤ N) : Fw N σ σ := ⟨Nat.le_refl _, h, Nat.le_refl _, Nat.le_refl _, id⟩
theorem Fw.trans {N : Nat} {σ τ ρ : St} (h : Fw N σ τ) (k : Fw N τ ρ) : Fw N σ ρ :=
  ⟨Nat.le_trans h.le k.le, k.top, by have := h.t; have := k.t; have := h.le; have := k.le; omega, by have := h.c; have := k.c; have := h.le; have := k.le; omega, fun e => k.dead (h.dead e)⟩

section
variable {pk : Nat → Int} {N : Nat}

theorem rOne_fw (hpk : ∀ a, pk a ≠ 0 → a < N) {l : List Int} (hl : l.contains 0 = false) {σ : St} (h : σ.a ≤ N) : Fw N σ (rOne pk l σ).1 := by
  unfold rOne
  split
  · split
    · rename_i h1
      have : σ.a < N := hpk _ (fun e => by rw [e, hl] at h1; cases h1)
      exact ⟨by simp, by simp; omega, by simp, by simp, fun e => by simpa using e⟩
    · exact ⟨by simp, by simpa using h, by simp, by simp, fun e => by simp⟩
  · exact Fw.refl h

theorem rDeep_fw {σ : St} (h : σ.a ≤ N) : Fw N σ (rDeep pk σ) := by
  unfold rDeep
  split
  · exact ⟨by simp, by simpa using h, by simp, by simp, fun e => by simp⟩
  · exact Fw.refl h
theorem rUp_fw {σ : St} (h : σ.a ≤ N) : Fw N σ (rUp σ) := ⟨Nat.le_refl _, h, Nat.le_refl _, Nat.le_refl _, id⟩
theorem rDown_fw {σ : St} (h : σ.a ≤ N) : Fw N σ (rDown σ) := ⟨Nat.le_refl _, h, Nat.le_refl _, Nat.le_refl _, id⟩

theorem rOpen_fw (hpk : ∀ a, pk a ≠ 0 → a < N) {σ : St} (h : σ.a ≤ N) : Fw N σ (rOpen pk σ) := by
  have h1 := rDeep_fw (pk := pk) h
  have h2 := rOne_fw hpk (l := [40]) (by rfl) h1.top
  exact (h1.trans h2).trans (rUp_fw h2.top)
theorem rShut_fw (hpk : ∀ a, pk a ≠ 0 → a < N) {σ : St} (h : σ.a ≤ N) : Fw N σ (rShut pk σ) := by
  have h2 := rOne_fw hpk (l := [41]) (by rfl) h
  exact h2.trans (rDown_fw h2.top)

theorem one_d (pk : Nat → Int) (l : List Int) (σ : St) : (rOne pk l σ).1.d = σ.d := by
  unfold rOne; split
  · split <;> rfl
  · rfl
theorem deep_d (pk : Nat → Int) (σ : St) : (rDeep pk σ).d = σ.d := by unfold rDeep; split <;> rfl
theorem open_d (pk : Nat → Int) (σ : St) : (rOpen pk σ).d = σ.d + 1 := by unfold rOpen; simp [rUp, one_d, deep_d]
theorem shut_d (pk : Nat → Int) (σ : St) : (rShut pk σ).d = σ.d - 1 := by unfold rShut; simp [rDown, one_d]

/-- A live reader that has opened a bracket is not too deep. -/
theorem open_live (pk : Nat → Int) (σ : St) (h : (rOpen pk σ).E = 0) : σ.E = 0 ∧ σ.d ≠ 8 ∧ pk σ.a = 40 ∧ rOpen pk σ = { σ with a := σ.a + 1, d := σ.d + 1 } := by
  unfold rOpen rUp at h ⊢
  simp only at h
  by_cases hE : σ.E = 0
  · by_cases h40 : pk σ.a = 40
    · have hs : seesB pk σ 40 = true := by simp [seesB, hE, h40]
      by_cases h8 : σ.d = 8
      · have hd : rDeep pk σ = { σ with E := 3 } := by unfold rDeep; rw [if_pos ⟨hs, h8⟩]
        rw [hd] at h
        simp [rOne] at h
      · have hd : rDeep pk σ = σ := by unfold rDeep; rw [if_neg (fun e => h8 e.2)]
        rw [hd]
        refine ⟨hE, h8, h40, ?_⟩
        simp [rOne, hE, h40]
    · have hd : rDeep pk σ = σ := by unfold rDeep; rw [if_neg (fun e => by simp [seesB, h40] at e)]
      rw [hd] at h
      simp [rOne, hE, h40] at h
  · have hd : rDeep pk σ = σ := by unfold rDeep; rw [if_neg (fun e => by simp [seesB, hE] at e)]
    rw [hd] at h
    simp [rOne, hE] at h

theorem one_live (pk : Nat → Int) (l : List Int) (σ : St) (h : (rOne pk l σ).1.E = 0) : σ.E = 0 ∧ l.contains (pk σ.a) = true ∧ rOne pk l σ = ({ σ with a := σ.a + 1 }, pk σ.a) := by
  unfold rOne at h ⊢
  by_cases hE : σ.E = 0
  · rw [if_pos hE] at h ⊢
    by_cases hc : l.contains (pk σ.a) = true
    · rw [if_pos hc]; exact ⟨hE, hc, rfl⟩
    · rw [if_neg hc] at h; simp at h
  · rw [if_neg hE] at h; exact absurd h hE

theorem one_c (pk : Nat → Int) (l : List Int) (σ : St) (h : (rOne pk l σ).2 ≠ 0) : (rOne pk l σ).1.E = 0 ∧ (rOne pk l σ).2 = pk σ.a := by
  unfold rOne at h ⊢
  by_cases hE : σ.E = 0
  · rw [if_pos hE] at h ⊢
    by_cases hc : l.contains (pk σ.a) = true
    · rw [if_pos hc]; exact ⟨hE, rfl⟩
    · rw [if_neg hc] at h; simp at h
  · rw [if_neg hE] at h; simp at h

/-- What a reader must be so that it may be called. -/
structure Rdy (N : Nat) (σ : St) : Prop where
  top : σ.a ≤ N
  d9 : σ.d ≤ 9
  d8 : σ.E = 0 → σ.d ≤ 8
  t : σ.T.length ≤ σ.a
  c : σ.C.length ≤ σ.a

theorem Rdy.fw {σ τ : St} (h : Rdy N σ) (f : Fw N σ τ) (hd : τ.d = σ.d) : Rdy N τ :=
  ⟨f.top, by rw [hd]; exact h.d9, fun e => by rw [hd]; exact h.d8 (Decidable.byContradiction fun hne => f.dead hne e), by have := h.t; have := f.t; have := f.le; omega, by have := h.c; have := f.c; have := f.le; omega⟩

theorem Rdy.open (hpk : ∀ a, pk a ≠ 0 → a < N) {σ : St} (h : Rdy N σ) (h8 : σ.d ≤ 8) : Rdy N (rOpen pk σ) := by
  have f := rOpen_fw hpk h.top
  refine ⟨f.top, by rw [open_d]; omega, fun e => ?_, by have := h.t; have := f.t; have := f.le; omega, by have := h.c; have := f.c; have := f.le; omega⟩
  have := open_live pk σ e
  rw [open_d]; omega

theorem letters0 : letters.contains 0 = false := by decide

/-- A term costs a byte, if it goes well. -/
theorem rTerm_fw (hpk : ∀ a, pk a ≠ 0 → a < N) (l : List UInt8) : ∀ (n : Nat) (σ : St), σ.a ≤ N → Fw N σ (rTerm l pk n σ).1 ∧ (rTerm l pk n σ).1.d = σ.d := by
  intro n
  induction n with
  | zero => intro σ h; exact ⟨Fw.refl h, rfl⟩
  | succ n ih =>
    intro σ h
    have f1 := rOne_fw hpk letters0 h
    have key : Fw N (rOne pk letters σ).1 (rIn pk (fun τ => (rTerm l pk n τ).1) (rOne pk letters σ).2 (rOne pk letters σ).1) ∧ (rIn pk (fun τ => (rTerm l pk n τ).1) (rOne pk letters σ).2 (rOne pk letters σ).1).d = (rOne pk letters σ).1.d := by
      unfold rIn
      split
      · have g1 := rOpen_fw hpk f1.top
        have g2 := ih _ g1.top
        have g3 := rShut_fw hpk g2.1.top
        refine ⟨(g1.trans g2.1).trans g3, ?_⟩
        rw [shut_d]
        simp only [g2.2, open_d]
        omega
      · split
        · have g1 := rOpen_fw hpk f1.top
          have g2 := ih _ g1.top
          have g3 := rOne_fw hpk (l := [44]) (by rfl) g2.1.top
          have g4 := ih _ g3.top
          have g5 := rShut_fw hpk g4.1.top
          refine ⟨(((g1.trans g2.1).trans g3).trans g4.1).trans g5, ?_⟩
          rw [shut_d]
          simp only [g4.2, one_d, g2.2, open_d]
          omega
        · exact ⟨Fw.refl f1.top, rfl⟩
    unfold rTerm
    generalize hτ : rIn pk (fun τ => (rTerm l pk n τ).1) (rOne pk letters σ).2 (rOne pk letters σ).1 = τ at key
    obtain ⟨k1, k2⟩ := key
    unfold rKeepT
    by_cases hE : τ.E = 0
    · rw [if_pos hE]
      have hl : (rOne pk letters σ).1.E = 0 := Decidable.byContradiction fun hne => k1.dead hne hE
      obtain ⟨q1, q2, q3⟩ := one_live pk letters σ hl
      rw [q3] at k1 k2
      have := put_length τ.T (cut l σ.a τ.a)
      refine ⟨⟨?_, ?_, ?_, ?_, fun e => absurd q1 e⟩, by simpa using k2⟩
      · have := k1.le; simp at this ⊢; omega
      · exact k1.top
      · have a1 := k1.t; have a2 := k1.le; simp at a1 a2 ⊢; omega
      · have a1 := k1.c; have a2 := k1.le; simp at a1 a2 ⊢; omega
    · rw [if_neg hE]
      exact ⟨f1.trans k1, by rw [k2, one_d]⟩
end

end Go.Proofs.YthcppbmkacbbiaaGreat.Rdg
