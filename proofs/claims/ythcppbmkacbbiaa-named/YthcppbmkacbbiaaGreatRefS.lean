import Derived.Test.YthcppbmkacbbiaaGreatRefR
import Derived.Lib.Join
import Derived.Deep.RegionWith
namespace Go.Proofs.YthcppbmkacbbiaaGreat
open Go.RowKit
open Rdg (St put)

/-- Texts with a blank between each two. -/
def spc (T : List (List UInt8)) : List UInt8 := Lib.join T [32]

theorem spc_one (T : List (List UInt8)) (h : 0 < T.length) : spc (T.take 1) = T[0] := by
  cases T with
  | nil => simp at h
  | cons x r => simp [spc, Lib.join_one]

theorem spc_succ (T : List (List UInt8)) (k : Nat) (h0 : 0 < k) (h : k < T.length) : spc (T.take (k + 1)) = spc (T.take k) ++ 32 :: T[k] := by
  cases T with
  | nil => simp at h
  | cons x r =>
    obtain ⟨j, rfl⟩ : ∃ j, k = j + 1 := ⟨k - 1, by omega⟩
    have hj : j < r.length := by simpa using h
    simp only [spc, List.take_succ_cons, Lib.join_cons, List.getElem_cons_succ]
    rw [Lib.joinTail_take_succ [32] r j r[j] (by simp)]
    simp

theorem spc_len (T : List (List UInt8)) (hT : ∀ t ∈ T, t.length ≤ 100) : ∀ k, k ≤ T.length → (spc (T.take k)).length ≤ 101 * k := by
  intro k
  induction k with
  | zero => intro _; simp [spc, Lib.join_nil]
  | succ k ih =>
    intro hk
    have h1 := ih (by omega)
    have h2 := hT T[k] (List.getElem_mem _)
    by_cases h0 : k = 0
    · subst h0; rw [spc_one T (by omega)]; omega
    · rw [spc_succ T k (by omega) (by omega)]; simp; omega

theorem ret_two {a b c : Value} (h : a = b) : Ending.returned (.tuple #[a, c]) = .returned (.tuple #[b, c]) := by rw [h]

theorem ba_append (a b : List UInt8) : (⟨a.toArray⟩ : ByteArray) ++ ⟨b.toArray⟩ = ⟨(a ++ b).toArray⟩ := by
  apply ByteArray.ext
  simp

section
variable (w : World)

set_option maxHeartbeats 1000000 in
theorem spaced_any (T : List (List UInt8)) (v : Value) (base : Nat) (hT : T.length ≤ 10) (hlen : ∀ t ∈ T, t.length ≤ 100) (ho : w.ownsRow base 9 1 v T.length (T.map str)) :
    Calls Tryz.prog 58 #[v] w fun e w' => e = .returned (str (spc T)) ∧ w' = w := by
  by_cases h0 : 0 < T.length
  · obtain ⟨g, cap, rfl, hc⟩ := row_cell ho h0
    go_enter Tryz.func58, Tryz.ntmps58
    go_wp2_with fail
    go_loop [3, 4] (fun x i => ∃ k : Nat, k ≤ T.length ∧ i = .int .i64 k ∧ x = .string ⟨(spc (T.take k)).toArray⟩) (fun _ i => T.length - (intOf i).toNat)
    case atStart => exact ⟨0, Nat.zero_le _, rfl, rfl⟩
    case round =>
      obtain ⟨k, hk, rfl, rfl⟩ := hrel
      by_cases hlt : k < T.length
      · have hck := hc k hlt
        unfold str at hck
        clear hc
        have hl1 := spc_len T hlen k (by omega)
        have hl2 := hlen T[k] (List.getElem_mem _)
        by_cases hk0 : k = 0
        · subst hk0
          have hs := hide (spc_one T h0)
          have hn : Hid (spc (T.take 0) = []) := rfl
          generalize spc (T.take 0) = x at hl1 hn
          go_wp2_with fail
          go_round
          case rel =>
            refine ⟨1, by omega, rfl, ?_⟩
            rw [unhide hn, ba_append, unhide hs]
            rfl
          case measure => simp [intOf]; omega
        · have hb : decide ((0 : Int) < (k : Int)) = true := by simp; omega
          have hs := hide (spc_succ T k (by omega) hlt)
          generalize spc (T.take k) = x at hs hl1
          go_wp2_with fail
          go_round
          case rel =>
            refine ⟨k + 1, by omega, by go_num, ?_⟩
            have e32 : (⟨#[32]⟩ : ByteArray) = ⟨[32].toArray⟩ := rfl
            rw [unhide hs, e32, ba_append, ba_append]
            simp
          case measure => simp [intOf]; omega
      · have hk' : k = T.length := by omega
        have hx : Hid (spc (T.take k) = spc T) := by rw [hk', List.take_length]; rfl
        generalize spc (T.take k) = x at hx
        clear hc hk'
        go_wp2_with fail
        go_ret
        refine ⟨?_, rfl⟩
        rw [← unhide hx]
        rfl
  · have hnil : T = [] := List.eq_nil_of_length_eq_zero (by omega)
    subst hnil
    obtain ⟨ao, cap, rfl⟩ := own_slice ho
    have hm : str (spc []) = .string ⟨#[]⟩ := rfl
    rw [hm]
    go_enter Tryz.func58, Tryz.ntmps58
    go_wp2_with fail
    refine wp_loop_rounds 1 ?_
    rw [rounds_succ]
    go_wp2_with fail
    go_ret
    exact ⟨rfl, rfl⟩

/-- What the document's Parts tells of a right formula. -/
def pts (τ : St) : List UInt8 := spc τ.T ++ 47 :: spc τ.C

set_option maxHeartbeats 1000000 in
theorem Rparts_bad (s : ByteArray) (hm : s.size ≤ maxLen) (hE : (rchk s).1 ≠ 0) :
    Calls Tryz.prog 38 #[.string s] w fun e w' => e = .returned (.tuple #[.string ⟨#[]⟩, .int .i64 (rchk s).1]) ∧ Below w.heap.size w w' := by
  have HR := hide (fun w => Rread_chk w s hm)
  generalize rchk s = c at HR hE
  have hb : (c.1 != 0) = true := by simpa using hE
  go_enter Tryz.func38, Tryz.ntmps38
  go_wp2_with fail
  refine ((unhide HR) _).mono ?_
  rintro e w1 ⟨rfl, h1⟩
  go_wp2_with fail
  go_ret2
  exact ⟨rfl, h1⟩

set_option maxHeartbeats 1000000 in
theorem Rparts_ok (s : ByteArray) (hs : s.size ≤ 100) (τ : St) (HT : Hid (rall s = τ)) (hE : τ.E = 0) (hlt : ¬ τ.a < s.size) (h7 : τ.T.length ≤ 7) (h4 : τ.C.length ≤ 4) (hTl : ∀ t ∈ τ.T, t.length ≤ 100) (hCl : ∀ t ∈ τ.C, t.length ≤ 100) :
    Calls Tryz.prog 38 #[.string s] w fun e w' => e = .returned (.tuple #[str (pts τ), .int .i64 0]) ∧ Below w.heap.size w w' := by
  have HR := hide (Rread_ok w s hs τ HT hE hlt h7 h4)
  have hl1 := spc_len τ.T hTl τ.T.length (Nat.le_refl _)
  have hl2 := spc_len τ.C hCl τ.C.length (Nat.le_refl _)
  rw [List.take_length] at hl1 hl2
  have Q1 : Hid (∀ w' v4, w'.ownsRow (w.heap.size + 1) 9 1 v4 τ.T.length (τ.T.map str) → Calls Tryz.prog 58 #[v4] w' fun e w2 => e = .returned (.string ⟨(spc τ.T).toArray⟩) ∧ w2 = w') := fun w' v4 h => spaced_any w' τ.T v4 (w.heap.size + 1) (by omega) hTl h
  have Q2 : Hid (∀ w' v5, w'.ownsRow (w.heap.size + 1) 9 1 v5 τ.C.length (τ.C.map str) → Calls Tryz.prog 58 #[v5] w' fun e w2 => e = .returned (.string ⟨(spc τ.C).toArray⟩) ∧ w2 = w') := fun w' v5 h => spaced_any w' τ.C v5 (w.heap.size + 1) (by omega) hCl h
  unfold pts
  generalize spc τ.T = x at Q1 hl1
  generalize spc τ.C = y at Q2 hl2
  clear hTl hCl
  go_enter Tryz.func38, Tryz.ntmps38
  go_wp2_with fail
  refine (unhide HR).mono ?_
  rintro e w1 ⟨rfl, h1, hI⟩
  obtain ⟨v4, v5, r1, r2, r3, r4, r5⟩ := hI.rows
  clear hI HR
  go_wp2_with fail
  go_quiet (first | (go_at_call_of 58 v4; exact Calls.quiet_of_same ((unhide Q1) _ _ (by exact r3))) | (go_at_call_of 58 v5; exact Calls.quiet_of_same ((unhide Q2) _ _ (by exact r4))))
  go_wp2_with fail
  go_ret2
  have e47 : (⟨#[47]⟩ : ByteArray) = ⟨[47].toArray⟩ := rfl
  refine ⟨?_, h1.trans (below_drewN _ _ _)⟩
  refine ret_two ?_
  rw [e47, ba_append, ba_append]
  simp [str]
end

end Go.Proofs.YthcppbmkacbbiaaGreat
