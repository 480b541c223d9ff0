import Derived.Test.YthcppbmkacbbiaaGreatCandK
import Derived.Test.YthcppbmkacbbiaaGreatRefR
import Derived.Test.YthcppbmkacbbiaaGreatRdnM
namespace Go.Proofs.YthcppbmkacbbiaaGreat
open Go.RowKit
open Rdg (St put)

theorem num_any (E : Int) (w : World) : Calls Tryz.prog 36 #[.int .i64 E] w fun e w' => e = .returned (.int .i64 E) ∧ w' = w := by
  go_enter Tryz.func36, Tryz.ntmps36
  go_wp2_with fail
  go_ret
  exact ⟨rfl, rfl⟩

set_option maxRecDepth 100000 in
set_option maxHeartbeats 1000000 in
theorem plays_check (w : World) (n : Int) (s t : ByteArray) (hm : s.size ≤ maxLen) :
    Calls Tryz.prog 29 #[.agg #[.int .i64 1, .int .i64 n, .string s, .string t]] w fun e w' => e = .returned (.bool true) ∧ Below w.heap.size w w' := by
  have H1 := hide (fun w => check_any w s hm)
  have H2 := hide (fun w => Rcheck_any w s hm)
  rw [rchk_chk] at H2
  generalize chk s = c at H1 H2
  obtain ⟨E, p⟩ := c
  go_enter Tryz.func29, Tryz.ntmps29
  go_wp2_with fail
  refine ((unhide H1) _).mono ?_
  rintro e w1 ⟨rfl, b1⟩
  have hlt : w.heap.size < (w.alloc (.cells #[.int .i64 1, .int .i64 n, .string s, .string t] 48)).heap.size := by simp
  have x0 : w1.cell? ⟨w.heap.size, 2, none⟩ = some (.string s) := by rw [b1.cell hlt]; exact World.cell?_alloc_at _ _ _ _ rfl
  go_wp2_with fail
  refine ((unhide H2) _).mono ?_
  rintro e w2 ⟨rfl, b2⟩
  go_wp2_with fail
  refine (num_any _ _).mono ?_
  rintro e w3 ⟨rfl, rfl⟩
  go_wp2_with fail
  go_ret
  refine ⟨rfl, ?_⟩
  have hsz := b1.size
  exact (((Below.refl w.heap.size w).alloc (Nat.le_refl _) _).trans (b1.mono (by simp))).trans (b2.mono (by simp at hsz; omega))

end Go.Proofs.YthcppbmkacbbiaaGreat
