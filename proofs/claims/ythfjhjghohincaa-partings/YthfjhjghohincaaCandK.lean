import Derived.Test.YthfjhjghohincaaCandR
namespace Go.Proofs.Ythfjhjghohincaa
open Go.RowKit Go.Maps Go.WideMaps
open Rdg (Key put RT RT2 RF)

/-- What Check tells. -/
def chk (s : ByteArray) : Int × Nat := if 100 < s.size then (1, 0) else Rdg.check (pk s) s.size

theorem read_chk (w : World) (s : ByteArray) (hm : s.size ≤ maxLen) :
    Calls Try.prog 18 #[.string s] w fun e w' => (∃ v0 v1, e = .returned (.tuple #[.agg #[.map v0, .map v1], .int .i64 (chk s).1, .int .i64 (chk s).2])) ∧ Below w.heap.size w w' := by
  unfold chk
  by_cases hs : 100 < s.size
  · rw [if_pos hs]
    refine (read_long w s hs hm).mono ?_
    rintro e w' ⟨rfl, h⟩
    exact ⟨⟨_, _, rfl⟩, h⟩
  · rw [if_neg hs]
    have hs' : s.size ≤ 100 := by omega
    have hok := Rdg.okF_rdF (pk := pk s) (N := s.size) (fun a h => pk_lt h) (s.size + 1) 0 0 [] [] (by omega)
    unfold Rdg.check
    cases hR : Rdg.rdF (pk s) (s.size + 1) 0 0 [] [] with
    | error Ep =>
      obtain ⟨E, p⟩ := Ep
      refine (read_bad w s hs' E p (hide hR)).mono ?_
      rintro e w' ⟨rfl, h⟩
      exact ⟨⟨_, _, rfl⟩, h⟩
    | ok q =>
      obtain ⟨a1, ts, cs⟩ := q
      rw [hR] at hok
      obtain ⟨p1, p2, p3, p4, p5⟩ := hok
      by_cases h1 : a1 < s.size
      · simp only [if_pos h1]
        refine (read_end w s hs' a1 ts cs (hide hR) h1).mono ?_
        rintro e w' ⟨rfl, h⟩
        exact ⟨⟨_, _, rfl⟩, h⟩
      · simp only [if_neg h1]
        by_cases h2 : 7 < ts.length ∨ 4 < cs.length
        · simp only [if_pos h2]
          refine (read_many w s hs' a1 ts cs (hide hR) (by omega) h2).mono ?_
          rintro e w' ⟨rfl, h⟩
          exact ⟨⟨_, _, rfl⟩, h⟩
        · simp only [if_neg h2]
          refine (read_ok w s hs' a1 ts cs (hide hR) (by omega) (by omega) (by omega)).mono ?_
          rintro e w' ⟨rfl, h, _⟩
          exact ⟨⟨_, _, rfl⟩, h⟩

set_option maxHeartbeats 400000 in
theorem check_any (w : World) (s : ByteArray) (hm : s.size ≤ maxLen) :
    Calls Try.prog 7 #[.string s] w fun e w' => e = .returned (.tuple #[.int .i64 (chk s).1, .int .i64 (chk s).2]) ∧ Below w.heap.size w w' := by
  have HR := hide (fun w => read_chk w s hm)
  generalize chk s = c at HR
  go_enter Try.func7, Try.ntmps7
  go_wp2_with fail
  refine ((unhide HR) _).mono ?_
  rintro e w1 ⟨⟨v0, v1, rfl⟩, h1⟩
  go_wp2_with fail
  go_ret2
  exact ⟨rfl, h1.alloc h1.size _⟩

end Go.Proofs.Ythfjhjghohincaa
