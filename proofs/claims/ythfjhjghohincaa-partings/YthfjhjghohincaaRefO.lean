import Derived.Test.YthfjhjghohincaaRefW
namespace Go.Proofs.Ythfjhjghohincaa
open Go.RowKit
open Rdg (St put)

theorem ints40 : ints ⟨#[40]⟩ = [40] := rfl
theorem ints41 : ints ⟨#[41]⟩ = [41] := rfl
theorem ints44 : ints ⟨#[44]⟩ = [44] := rfl
theorem ints61 : ints ⟨#[61]⟩ = [61] := rfl
theorem intsJ : ints ⟨#[38, 124, 62, 45]⟩ = [38, 124, 62, 45] := rfl
theorem intsL : ints ⟨#[97, 98, 99, 100, 101, 102, 103]⟩ = Rdg.letters := rfl

theorem nz_of {l : ByteArray} (h : (l.data.toList.all (fun b => b != 0)) = true) : ∀ k (hk : k < l.size), (l[k].toNat : Int) ≠ 0 := by
  intro k hk e
  have h1 := List.all_eq_true.1 h l[k] (by simp [ByteArray.getElem_eq_getElem_data])
  have h2 : l[k] ≠ 0 := by simpa using h1
  apply h2
  apply UInt8.toNat_inj.1
  have : l[k].toNat = 0 := by omega
  rw [this]; rfl

theorem rOne_d (pk : Nat → Int) (l : List Int) (σ : St) : (Rdg.rOne pk l σ).1.d = σ.d := by
  unfold Rdg.rOne; split
  · split <;> rfl
  · rfl
theorem rDeep_d (pk : Nat → Int) (σ : St) : (Rdg.rDeep pk σ).d = σ.d := by unfold Rdg.rDeep; split <;> rfl
theorem rDeep_a (pk : Nat → Int) (σ : St) : (Rdg.rDeep pk σ).a = σ.a := by unfold Rdg.rDeep; split <;> rfl

section
variable (w : World) (B : Nat) (s : ByteArray) (σ : St) (on : Bool) (k1 k2 : Value)

theorem one_list (l : ByteArray) (L : List Int) (hL : ints l = L) (hl : l.size ≤ 10) (h0 : (l.data.toList.all (fun b => b != 0)) = true) (hs : s.size ≤ 100) (ha : σ.a ≤ s.size) (h : RI w B s σ on k1 k2) :
    Calls Try.prog 47 #[.pointer (some ⟨B, 0, none⟩), .string l] w fun e w' =>
      e = .returned (.int .u8 (Rdg.rOne (pk s) L σ).2) ∧ RI w' B s (Rdg.rOne (pk s) L σ).1 on k1 k2 ∧ Below B w w' := by
  subst hL
  exact one_any w B s σ on k1 k2 l hl (nz_of h0) hs ha h

set_option maxHeartbeats 400000 in
theorem Ropen_any (hs : s.size ≤ 100) (ha : σ.a ≤ s.size) (hd : σ.d ≤ 8) (h : RI w B s σ on k1 k2) :
    Calls Try.prog 43 #[.pointer (some ⟨B, 0, none⟩)] w fun e w' => e = .returned (.tuple #[]) ∧ RI w' B s (Rdg.rOpen (pk s) σ) on k1 k2 ∧ Below B w w' := by
  unfold Rdg.rOpen
  have hdd := rOne_d (pk s) [40] (Rdg.rDeep (pk s) σ)
  rw [rDeep_d] at hdd
  cases hsee : Rdg.seesB (pk s) σ 40 with
  | true =>
    by_cases h8 : σ.d = 8
    · have hr : Rdg.rDeep (pk s) σ = { σ with E := 3 } := by unfold Rdg.rDeep; rw [if_pos ⟨hsee, h8⟩]
      rw [hr] at hdd ⊢
      have HS := hide hsee
      have HD := hide hdd
      have H8 := hide h8
      clear hsee hr hdd h8
      go_enter Try.func43, Try.ntmps43
      go_wp2_with fail
      refine (sees_any w B s σ on k1 k2 40 (by omega) h).mono ?_
      rw [unhide HS]
      rintro e w1 ⟨rfl, h1, b1⟩
      have c2 := h1.c2
      rw [unhide H8] at c2
      have c3 := h1.c3
      have f3 := h1.fz 3
      go_wp2_with fail
      refine (one_list _ B s _ on k1 k2 _ [40] ints40 (by decide) (by decide) hs (by exact ha) (h1.set3 3)).mono ?_
      generalize hτ : Rdg.rOne (pk s) [40] { σ with E := 3 } = τ at HD
      obtain ⟨τ, c⟩ := τ
      rintro e w2 ⟨rfl, h2, b2⟩
      have c2' := h2.c2
      have f2 := h2.fz 2
      have hb8 : τ.d ≤ 8 := by have := unhide HD; simp at this; omega
      simp only at c2'
      have HT := hide hτ
      clear hτ
      go_wp2_with fail
      go_end0
      refine ⟨rfl, ?_, (b1.trans (below_set _ _ _ _)).trans (b2.trans (below_set _ _ _ _))⟩
      rw [unhide HT]
      exact h2.set2 (a' := τ.d + 1) (by omega)
    · have hr : Rdg.rDeep (pk s) σ = σ := by unfold Rdg.rDeep; rw [if_neg (fun e => h8 e.2)]
      rw [hr] at hdd ⊢
      have hb8' : ((σ.d : Int) == 8) = false := beq_eq_false_iff_ne.2 (by omega)
      have HS := hide hsee
      have HD := hide hdd
      clear hsee hr hdd
      go_enter Try.func43, Try.ntmps43
      go_wp2_with fail
      refine (sees_any w B s σ on k1 k2 40 (by omega) h).mono ?_
      rw [unhide HS]
      rintro e w1 ⟨rfl, h1, b1⟩
      have c2 := h1.c2
      go_wp2_with fail
      refine (one_list _ B s _ on k1 k2 _ [40] ints40 (by decide) (by decide) hs (by exact ha) h1).mono ?_
      generalize hτ : Rdg.rOne (pk s) [40] σ = τ at HD
      obtain ⟨τ, c⟩ := τ
      rintro e w2 ⟨rfl, h2, b2⟩
      have c2' := h2.c2
      have f2 := h2.fz 2
      have hb8 : τ.d ≤ 8 := by have := unhide HD; simp at this; omega
      simp only at c2'
      have HT := hide hτ
      clear hτ
      go_wp2_with fail
      go_end0
      refine ⟨rfl, ?_, b1.trans (b2.trans (below_set _ _ _ _))⟩
      rw [unhide HT]
      exact h2.set2 (a' := τ.d + 1) (by omega)
  | false =>
    have hr : Rdg.rDeep (pk s) σ = σ := by unfold Rdg.rDeep; rw [if_neg (fun e => by rw [hsee] at e; exact absurd e.1 (by simp))]
    rw [hr] at hdd ⊢
    have HS := hide hsee
    have HD := hide hdd
    clear hsee hr hdd
    go_enter Try.func43, Try.ntmps43
    go_wp2_with fail
    refine (sees_any w B s σ on k1 k2 40 (by omega) h).mono ?_
    rw [unhide HS]
    rintro e w1 ⟨rfl, h1, b1⟩
    go_wp2_with fail
    refine (one_list _ B s _ on k1 k2 _ [40] ints40 (by decide) (by decide) hs (by exact ha) h1).mono ?_
    generalize hτ : Rdg.rOne (pk s) [40] σ = τ at HD
    obtain ⟨τ, c⟩ := τ
    rintro e w2 ⟨rfl, h2, b2⟩
    have c2' := h2.c2
    have f2 := h2.fz 2
    have hb8 : τ.d ≤ 8 := by have := unhide HD; simp at this; omega
    simp only at c2'
    have HT := hide hτ
    clear hτ
    go_wp2_with fail
    go_end0
    refine ⟨rfl, ?_, b1.trans (b2.trans (below_set _ _ _ _))⟩
    rw [unhide HT]
    exact h2.set2 (a' := τ.d + 1) (by omega)

set_option maxHeartbeats 400000 in
theorem Rshut_any (hs : s.size ≤ 100) (ha : σ.a ≤ s.size) (hd : σ.d ≤ 9) (hd1 : 1 ≤ σ.d) (h : RI w B s σ on k1 k2) :
    Calls Try.prog 45 #[.pointer (some ⟨B, 0, none⟩)] w fun e w' => e = .returned (.tuple #[]) ∧ RI w' B s (Rdg.rShut (pk s) σ) on k1 k2 ∧ Below B w w' := by
  unfold Rdg.rShut
  have hdd := rOne_d (pk s) [41] σ
  have HD := hide hdd
  clear hdd
  go_enter Try.func45, Try.ntmps45
  go_wp2_with fail
  refine (one_list _ B s _ on k1 k2 _ [41] ints41 (by decide) (by decide) hs ha h).mono ?_
  generalize hτ : Rdg.rOne (pk s) [41] σ = τ at HD
  obtain ⟨τ, c⟩ := τ
  rintro e w2 ⟨rfl, h2, b2⟩
  have c2' := h2.c2
  have f2 := h2.fz 2
  have hb8 : τ.d ≤ 9 := by have := unhide HD; simp at this; omega
  have hb1 : 1 ≤ τ.d := by have := unhide HD; simp at this; omega
  simp only at c2'
  have HT := hide hτ
  clear hτ
  go_wp2_with fail
  go_end0
  refine ⟨rfl, ?_, b2.trans (below_set _ _ _ _)⟩
  rw [unhide HT]
  exact h2.set2 (a' := τ.d - 1) (by omega)

/-- A slice that owns a row of texts: at its places the texts lie. -/
theorem row_cell {w : World} {base : Nat} {v : Value} {T : List (List UInt8)} (h : w.ownsRow base 9 1 v T.length (T.map str)) (h0 : 0 < T.length) :
    ∃ g cap, v = .slice (some ⟨g, 0, none⟩) T.length cap ∧ ∀ j (hj : j < T.length), w.cell? ⟨g, j, none⟩ = some (str T[j]) := by
  have h' := h
  obtain ⟨_, h2⟩ := h
  rcases h2 with ⟨_, e⟩ | ⟨g, cap, cur, hv, _⟩
  · omega
  · subst hv
    exact ⟨g, cap, rfl, fun j hj => by rw [h'.cellAt j (by omega)]; simp [hj]⟩

/-- Where a text stands in a list; -1: nowhere. -/
def atIdx (T : List (List UInt8)) (t : List UInt8) : Int := if T.contains t then (T.idxOf t : Int) else -1

theorem atIdx_hit {T : List (List UInt8)} {t : List UInt8} {k : Nat} (hk : k < T.length) (hno : ∀ j (hj : j < T.length), j < k → T[j] ≠ t) (h : T[k] = t) : atIdx T t = k := by
  have hm : t ∈ T := by rw [← h]; exact List.getElem_mem hk
  unfold atIdx
  rw [if_pos (by simpa using hm)]
  have h1 : T.idxOf t ≤ k := by
    by_cases hlt : T.idxOf t ≤ k
    · exact hlt
    · exfalso
      have := List.not_of_lt_findIdx (p := (· == t)) (xs := T) (i := k) (by unfold List.idxOf at hlt; omega)
      simp [h] at this
  have h2 : ¬ T.idxOf t < k := fun hlt => hno _ (List.idxOf_lt_length_of_mem hm) hlt (List.getElem_idxOf _)
  omega

theorem atIdx_miss {T : List (List UInt8)} {t : List UInt8} (hno : ∀ j (hj : j < T.length), T[j] ≠ t) : atIdx T t = -1 := by
  have hm : ¬ t ∈ T := fun h => by
    obtain ⟨j, hj, e⟩ := List.getElem_of_mem h
    exact hno j hj e
  unfold atIdx
  rw [if_neg (by simpa using hm)]

set_option maxHeartbeats 1000000 in
theorem at_any (t : List UInt8) (T : List (List UInt8)) (v : Value) (base : Nat) (hT : T.length ≤ 1000) (ho : w.ownsRow base 9 1 v T.length (T.map str)) :
    Calls Try.prog 46 #[v, str t] w fun e w' => e = .returned (.int .i64 (atIdx T t)) ∧ w' = w := by
  by_cases h0 : 0 < T.length
  · obtain ⟨g, cap, rfl, hc⟩ := row_cell ho h0
    unfold str
    go_enter Try.func46, Try.ntmps46
    go_wp2_with fail
    go_loop [5] (fun i => ∃ k : Nat, k ≤ T.length ∧ i = .int .i64 k ∧ ∀ j (hj : j < T.length), j < k → T[j] ≠ t) (fun i => T.length - (intOf i).toNat)
    case atStart => exact ⟨0, Nat.zero_le _, rfl, fun j hj hk => absurd hk (by omega)⟩
    case round =>
      obtain ⟨k, hk, rfl, hno⟩ := hrel
      have HNO := hide hno
      clear hno
      by_cases hlt : k < T.length
      · have hck := hc k hlt
        unfold str at hck
        clear hc
        by_cases hq : T[k] = t
        · have hb : (T[k] == t) = true := by simpa using hq
          have HQ := hide hq
          clear hq
          go_wp2_with fail
          go_ret
          exact ⟨ret_int (atIdx_hit hlt (unhide HNO) (unhide HQ)).symm, rfl⟩
        · have hb : (T[k] == t) = false := by simpa using hq
          have HQ := hide hq
          clear hq
          go_wp2_with fail
          go_round
          case rel =>
            refine ⟨k + 1, by omega, by go_num, fun j hj hjk => ?_⟩
            by_cases e : j = k
            · subst e; exact unhide HQ
            · exact unhide HNO j hj (by omega)
          case measure => simp [intOf]; omega
      · clear hc
        go_wp2_with fail
        go_ret
        exact ⟨ret_int (atIdx_miss (fun j hj => unhide HNO j hj (by omega))).symm, rfl⟩
  · have hnil : T = [] := List.eq_nil_of_length_eq_zero (by omega)
    subst hnil
    have hv : ∃ ao cap, v = .slice ao 0 cap := by
      obtain ⟨_, h2⟩ := ho
      rcases h2 with ⟨e, _⟩ | ⟨g, cap, cur, e, _⟩
      · exact ⟨_, _, e⟩
      · exact ⟨_, _, e⟩
    obtain ⟨ao, cap, rfl⟩ := hv
    unfold str
    have hm : atIdx [] t = -1 := rfl
    rw [hm]
    go_enter Try.func46, Try.ntmps46
    go_wp2_with fail
    refine wp_loop_rounds 1 ?_
    rw [rounds_succ]
    go_wp2_with fail
    go_ret
    exact ⟨rfl, rfl⟩
end

end Go.Proofs.Ythfjhjghohincaa
