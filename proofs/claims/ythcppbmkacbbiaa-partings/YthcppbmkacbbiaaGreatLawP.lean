import Derived.Test.YthcppbmkacbbiaaGreatCandZ
import Derived.Test.YthcppbmkacbbiaaGreatRefS
import Derived.Test.YthcppbmkacbbiaaGreatLawC
namespace Go.Proofs.YthcppbmkacbbiaaGreat
open Go.RowKit
open Rdg (St put)

/-- What Parts tells. -/
def ptell (s : ByteArray) : ByteArray × Int := if s.size ≤ 100 ∧ (chk s).1 = 0 then (⟨(pts (rall s)).toArray⟩, 0) else (⟨#[]⟩, (chk s).1)

theorem parts_any (w : World) (s : ByteArray) (hm : s.size ≤ maxLen) :
    Calls Tryz.prog 37 #[.string s] w fun e w' => e = .returned (.tuple #[.string (ptell s).1, .int .i64 (ptell s).2]) ∧ Below w.heap.size w w' := by
  unfold ptell
  by_cases h : s.size ≤ 100 ∧ (chk s).1 = 0
  · rw [if_pos h]
    obtain ⟨ts, cs, ps, h1, h2, h3, h4, h5, h6, h7, h8, h9, h10, _, h12⟩ := right_parts s h.1 h.2
    have g := parts_ok w s h.1 ts cs ps _ h1 h2 h3 h4 h5 h7 h8 h9 h10 h12
    rw [h6]
    exact g
  · rw [if_neg h]
    refine parts_bad w s hm (fun h0 => h ⟨?_, h0⟩)
    unfold chk at h0
    by_cases h1 : 100 < s.size
    · rw [if_pos h1] at h0; simp at h0
    · omega

theorem Rparts_any (w : World) (s : ByteArray) (hm : s.size ≤ maxLen) :
    Calls Tryz.prog 38 #[.string s] w fun e w' => e = .returned (.tuple #[.string (ptell s).1, .int .i64 (ptell s).2]) ∧ Below w.heap.size w w' := by
  unfold ptell
  by_cases h : s.size ≤ 100 ∧ (chk s).1 = 0
  · rw [if_pos h]
    obtain ⟨ts, cs, ps, h1, h2, h3, h4, h5, h6, h7, h8, h9, h10, _, h12⟩ := right_parts s h.1 h.2
    have hT : (rall s).T = Rdg.texts ts := by rw [h6]
    have hC : (rall s).C = ctx ts cs := by rw [h6]
    exact Rparts_ok w s h.1 (rall s) (hide rfl) (by rw [h6]) (by rw [h6]; simp) (by rw [hT, Rdg.texts_length]; exact h2) (by rw [hC, ctx_length]; exact h3) (by rw [hT]; exact h7) (by rw [hC]; exact h8)
  · rw [if_neg h]
    have g := Rparts_bad w s hm (by
      rw [rchk_chk]
      refine fun h0 => h ⟨?_, h0⟩
      unfold chk at h0
      by_cases h1 : 100 < s.size
      · rw [if_pos h1] at h0; simp at h0
      · omega)
    rw [rchk_chk] at g
    exact g

set_option maxRecDepth 100000 in
set_option maxHeartbeats 1000000 in
theorem plays_parts (w : World) (n : Int) (s t : ByteArray) (hm : s.size ≤ maxLen) :
    Calls Tryz.prog 29 #[.agg #[.int .i64 2, .int .i64 n, .string s, .string t]] w fun e w' => e = .returned (.bool true) ∧ Below w.heap.size w w' := by
  have H1 := hide (fun w => parts_any w s hm)
  have H2 := hide (fun w => Rparts_any w s hm)
  generalize ptell s = c at H1 H2
  obtain ⟨x, E⟩ := c
  go_enter Tryz.func29, Tryz.ntmps29
  go_wp2_with fail
  refine ((unhide H1) _).mono ?_
  rintro e w1 ⟨rfl, b1⟩
  have hlt : w.heap.size < (w.alloc (.cells #[.int .i64 2, .int .i64 n, .string s, .string t] 48)).heap.size := by simp
  have x0 : w1.cell? ⟨w.heap.size, 2, none⟩ = some (.string s) := by rw [b1.cell hlt]; exact World.cell?_alloc_at _ _ _ _ rfl
  go_wp2_with fail
  refine ((unhide H2) _).mono ?_
  rintro e w2 ⟨rfl, b2⟩
  go_wp2_with fail
  refine (num_any _ _).mono ?_
  rintro e w3 ⟨rfl, rfl⟩
  go_wp2_with fail
  go_ret
  refine ⟨rfl, ?_⟩
  have hsz := b1.size
  exact (((Below.refl w.heap.size w).alloc (Nat.le_refl _) _).trans (b1.mono (by simp))).trans (b2.mono (by simp at hsz; omega))

end Go.Proofs.YthcppbmkacbbiaaGreat
