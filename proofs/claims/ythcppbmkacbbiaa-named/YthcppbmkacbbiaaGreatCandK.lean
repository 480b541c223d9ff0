import Derived.Test.YthcppbmkacbbiaaGreatCandRo
namespace Go.Proofs.YthcppbmkacbbiaaGreat
open Go.RowKit Go.Maps Go.WideMaps
open Rdg (Key put RT RT2 RF RP RQ)

/-- What read tells of a right formula. -/
theorem read_right (w : World) (s : ByteArray) (hs : s.size ≤ 100) (ts : List Key) (cs : List (Int × Nat)) (ps : List Key) (m : Nat) (hR : Rdg.rdP (pk s) (s.size + 1) 0 0 [] [] [] = .ok (s.size, ts, cs, ps, m)) (h7 : ts.length ≤ 7) (h4 : cs.length ≤ 4)
    (hi : Rdg.Inv ts) (hic : Rdg.InvC ts cs) (hnc : cs.Nodup) (hip : Rdg.InvP ts.length cs.length ps) (hp : ps.length ≤ 100) :
    Calls Tryz.prog 30 #[.string s] w fun e w' => ∃ GT GC GP, e = .returned (.tuple #[fv GT GC GP ts.length cs.length ps.length, .int .i64 0, .int .i64 0]) ∧ Below w.heap.size w w' ∧ FR w' (w.heap.size + 1) GT GC GP ts cs ps :=
  read_ok w s hs s.size ts cs ps m (hide hR) rfl h7 h4 hi.nodup hnc hip.nd hp (keys_ok hi h7) (claims_ok hic h7) (pieces_ok hip (by omega) (by omega) (by omega))

def sl (x : Option Addr × Nat × Nat) : Value := .slice x.1 x.2.1 x.2.2

theorem read_chk (w : World) (s : ByteArray) (hm : s.size ≤ maxLen) :
    Calls Tryz.prog 30 #[.string s] w fun e w' => (∃ p0 n0 c0 p1 n1 c1 p2 n2 c2, e = .returned (.tuple #[.agg #[.slice p0 n0 c0, .slice p1 n1 c1, .slice p2 n2 c2], .int .i64 (chk s).1, .int .i64 (chk s).2])) ∧ Below w.heap.size w w' := by
  by_cases hs : 100 < s.size
  · unfold chk
    rw [if_pos hs]
    refine (read_long w s hs hm).mono ?_
    rintro e w' ⟨rfl, h⟩
    exact ⟨⟨_, _, _, _, _, _, _, _, _, rfl⟩, h⟩
  · have hs' : s.size ≤ 100 := by omega
    by_cases h0 : (chk s).1 = 0
    · obtain ⟨ts, cs, ps, hR, h7, h4, hi, hic, _, _, _, hnc, hip, _, hp⟩ := right_parts s hs' h0
      have h1 : (chk s).2 = 0 := by
        unfold chk Rdg.check
        rw [if_neg hs, ← Rdg.less_rdP (pk s) (s.size + 1) 0 0 [] [] [], hR]
        simp [Rdg.less, show ¬ (7 < ts.length ∨ 4 < cs.length) by omega]
      rw [h0, h1]
      refine (read_right w s hs' ts cs ps _ hR h7 h4 hi hic hnc hip hp).mono ?_
      rintro e w' ⟨GT, GC, GP, rfl, h, _⟩
      exact ⟨⟨_, _, _, _, _, _, _, _, _, rfl⟩, h⟩
    · revert h0
      unfold chk
      rw [if_neg hs]
      have hok := Rdg.okF_rdF (pk := pk s) (N := s.size) (fun a h => pk_lt h) (s.size + 1) 0 0 [] [] (by omega)
      have hls := Rdg.less_rdP (pk s) (s.size + 1) 0 0 [] [] []
      unfold Rdg.check
      rw [← hls] at hok ⊢
      rcases hR : Rdg.rdP (pk s) (s.size + 1) 0 0 [] [] [] with ⟨E, p⟩ | ⟨a1, ts, cs, ps, m⟩
      · intro _
        refine (read_bad w s hs' E p (hide hR)).mono ?_
        rintro e w' ⟨rfl, h⟩
        exact ⟨⟨_, _, _, _, _, _, _, _, _, rfl⟩, h⟩
      · rw [hR] at hok
        obtain ⟨p1, p2, p3, p4, p5⟩ := hok
        simp only [Rdg.less]
        by_cases h1 : a1 < s.size
        · simp only [if_pos h1]
          intro _
          refine (read_end w s hs' a1 ts cs ps m (hide hR) h1).mono ?_
          rintro e w' ⟨rfl, h⟩
          exact ⟨⟨_, _, _, _, _, _, _, _, _, rfl⟩, h⟩
        · simp only [if_neg h1]
          by_cases h2 : 7 < ts.length ∨ 4 < cs.length
          · simp only [if_pos h2]
            intro _
            refine (read_many w s hs' a1 ts cs ps m (hide hR) (by omega) h2).mono ?_
            rintro e w' ⟨rfl, h⟩
            exact ⟨⟨_, _, _, _, _, _, _, _, _, rfl⟩, h⟩
          · simp only [if_neg h2]
            intro h; exact absurd (by simp) h

set_option maxHeartbeats 400000 in
theorem check_any (w : World) (s : ByteArray) (hm : s.size ≤ maxLen) :
    Calls Tryz.prog 18 #[.string s] w fun e w' => e = .returned (.tuple #[.int .i64 (chk s).1, .int .i64 (chk s).2]) ∧ Below w.heap.size w w' := by
  have HR := hide (fun w => read_chk w s hm)
  generalize chk s = c at HR
  go_enter Tryz.func18, Tryz.ntmps18
  go_wp2_with fail
  refine ((unhide HR) _).mono ?_
  rintro e w1 ⟨⟨p0, n0, c0, p1, n1, c1, p2, n2, c2, rfl⟩, h1⟩
  go_wp2_with fail
  go_ret2
  exact ⟨rfl, h1.alloc h1.size _⟩

end Go.Proofs.YthcppbmkacbbiaaGreat
