import Derived.Test.YthfjhjghohincaaCandK
import Derived.Test.YthfjhjghohincaaRefR
import Derived.Test.YthfjhjghohincaaEqc
namespace Go.Proofs.Ythfjhjghohincaa
open Go.RowKit
open Rdg (St put)

theorem pk_pkl (s : ByteArray) : pk s = Rdg.pkl s.data.toList := by
  funext a
  unfold pk Rdg.pkl
  by_cases h : a < s.size
  · have h' : a < s.data.toList.length := by simpa using h
    rw [dif_pos h, List.getElem?_eq_getElem h']
    simp [ByteArray.getElem_eq_getElem_data]
  · have h' : ¬ a < s.data.toList.length := by simpa using h
    rw [dif_neg h, List.getElem?_eq_none (by omega)]

theorem rall_rel (s : ByteArray) : Rdg.RelF 0 (Rdg.rdF (pk s) (s.size + 1) 0 0 [] []) (rall s) := by
  have h := Rdg.same_formula (l := s.data.toList) (s.size + 1) 0 0 [] [] (Nat.zero_le _) (by simp) Rdg.inv_nil (fun c hc => by cases hc)
  unfold rall
  rw [pk_pkl]
  exact h

theorem rchk_chk (s : ByteArray) : rchk s = chk s := by
  unfold rchk chk
  by_cases hs : 100 < s.size
  · rw [if_pos hs, if_pos hs]
  · rw [if_neg hs, if_neg hs]
    have h := rall_rel s
    unfold Rdg.check
    cases hR : Rdg.rdF (pk s) (s.size + 1) 0 0 [] [] with
    | error Ep =>
      obtain ⟨E, p⟩ := Ep
      rw [hR] at h
      obtain ⟨h1, h2, h3⟩ := h
      rw [if_pos (by rw [h1]; exact h3), h1, h2]
    | ok q =>
      obtain ⟨a1, ts, cs⟩ := q
      rw [hR] at h
      obtain ⟨h1, h2, h3⟩ := h
      rw [h1]
      simp [Rdg.texts_length]

theorem num_any (E : Int) (w : World) : Calls Try.prog 9 #[.int .i64 E] w fun e w' => e = .returned (.int .i64 E) ∧ w' = w := by
  go_enter Try.func9, Try.ntmps9
  go_wp2_with fail
  go_ret
  exact ⟨rfl, rfl⟩

set_option maxRecDepth 100000 in
set_option maxHeartbeats 1000000 in
theorem plays_check (w : World) (n : Int) (s t : ByteArray) (hm : s.size ≤ maxLen) :
    Calls Try.prog 6 #[.agg #[.int .i64 1, .int .i64 n, .string s, .string t]] w fun e w' => e = .returned (.bool true) ∧ Below w.heap.size w w' := by
  have H1 := hide (fun w => check_any w s hm)
  have H2 := hide (fun w => Rcheck_any w s hm)
  rw [rchk_chk] at H2
  generalize chk s = c at H1 H2
  obtain ⟨E, p⟩ := c
  go_enter Try.func6, Try.ntmps6
  go_wp2_with fail
  refine ((unhide H1) _).mono ?_
  rintro e w1 ⟨rfl, b1⟩
  have hlt : w.heap.size < (w.alloc (.cells #[.int .i64 1, .int .i64 n, .string s, .string t] 26)).heap.size := by simp
  have x0 : w1.cell? ⟨w.heap.size, 2, none⟩ = some (.string s) := by rw [b1.cell hlt]; exact World.cell?_alloc_at _ _ _ _ rfl
  go_wp2_with fail
  refine ((unhide H2) _).mono ?_
  rintro e w2 ⟨rfl, b2⟩
  go_wp2_with fail
  refine (num_any _ _).mono ?_
  rintro e w3 ⟨rfl, rfl⟩
  go_wp2_with fail
  go_ret
  refine ⟨rfl, ?_⟩
  have hsz := b1.size
  exact (((Below.refl w.heap.size w).alloc (Nat.le_refl _) _).trans (b1.mono (by simp))).trans (b2.mono (by simp at hsz; omega))

end Go.Proofs.Ythfjhjghohincaa
