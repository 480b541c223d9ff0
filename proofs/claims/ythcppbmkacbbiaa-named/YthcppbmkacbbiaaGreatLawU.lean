import Derived.Test.YthcppbmkacbbiaaGreatChecked
import Derived.WalkKit
import Derived.WalkSpells
import Derived.WalkLawsBesides
namespace Go.Proofs.YthcppbmkacbbiaaGreat
open Go.RowKit

/-- What a step of the script must do: told true. -/
def PlaysT (lo hi : Int) : Prop := ∀ (w : World) (k n : Int) (s t : ByteArray), lo ≤ k → k ≤ hi → s.size ≤ maxLen → t.size ≤ maxLen →
  Calls Tryz.prog 29 #[.agg #[.int .i64 k, .int .i64 n, .string s, .string t]] w fun e w' => e = .returned (.bool true) ∧ Below w.heap.size w w'

set_option maxRecDepth 100000 in
set_option maxHeartbeats 1000000 in
theorem upTo_some (lo hi : Int) (hp : PlaysT lo hi) (w : World) (b off len cap : Nat) (K Nn : Nat → Int) (S Tt : Nat → ByteArray) (hb : b < w.heap.size) (hlen : len ≤ 9223372036854775807)
    (hS : ∀ i, i < len → (S i).size ≤ maxLen) (hTt : ∀ i, i < len → (Tt i).size ≤ maxLen)
    (c0 : ∀ i, i < len → w.cell? ⟨b, off + i * 4, none⟩ = some (.int .i64 (K i))) (c1 : ∀ i, i < len → w.cell? ⟨b, off + i * 4 + 1, none⟩ = some (.int .i64 (Nn i)))
    (c2 : ∀ i, i < len → w.cell? ⟨b, off + i * 4 + 2, none⟩ = some (.string (S i))) (c3 : ∀ i, i < len → w.cell? ⟨b, off + i * 4 + 3, none⟩ = some (.string (Tt i))) :
    Calls Tryz.prog 15 #[.slice (some ⟨b, off, none⟩) len cap, .int .i64 lo, .int .i64 hi] w fun e w' => e = .returned (.int .i64 (-1)) ∧ Below w.heap.size w w' := by
  go_enter Tryz.func15, Tryz.ntmps15
  go_wp2_with fail
  go_loopw [7] (fun i wr => ∃ k : Nat, k ≤ len ∧ i = .int .i64 k ∧ Below w.heap.size w wr) (fun i _ => len - (intOf i).toNat)
  case atStart => exact ⟨0, Nat.zero_le _, rfl, Below.refl _ _⟩
  case round =>
    obtain ⟨k, hk, rfl, hbl⟩ := hrel
    by_cases hlt : k < len
    · have d0 := (hbl.cell (p := ⟨b, off + k * 4, none⟩) hb).trans (c0 k hlt)
      have d1 := (hbl.cell (p := ⟨b, off + k * 4 + 1, none⟩) hb).trans (c1 k hlt)
      have d2 := (hbl.cell (p := ⟨b, off + k * 4 + 2, none⟩) hb).trans (c2 k hlt)
      have d3 := (hbl.cell (p := ⟨b, off + k * 4 + 3, none⟩) hb).trans (c3 k hlt)
      have hSk : Hid _ := hS k hlt
      have hTk : Hid _ := hTt k hlt
      clear c0 c1 c2 c3 hS hTt
      generalize S k = s at d2 hSk
      generalize Tt k = t at d3 hTk
      generalize K k = kd at d0
      generalize Nn k = nn at d1
      have halloc : Below w.heap.size w (wr.alloc (.cells #[.int .i64 kd, .int .i64 nn, .string s, .string t] 48)) := hbl.alloc hbl.size _
      by_cases hin : lo ≤ kd ∧ kd ≤ hi
      · have e1 : decide (lo ≤ kd) = true := by simpa using hin.1
        have e2 : decide (kd ≤ hi) = true := by simpa using hin.2
        have hin1 := hin.1
        have hin2 := hin.2
        clear hin
        go_wp2_with fail
        refine (hp _ kd nn s t hin1 hin2 hSk hTk).mono ?_
        rintro e w1 ⟨rfl, b1⟩
        have hbl2 := halloc.trans (b1.mono (by have := hbl.size; simp; omega))
        clear halloc b1
        go_wp2_with fail
        go_roundw
        case rel => exact ⟨k + 1, by omega, by go_num, hbl2⟩
        case measure => simp [intOf]; omega
      · go_wp2_with fail
        all_goals
          go_roundw
          case rel => exact ⟨k + 1, by omega, by go_num, halloc⟩
          case measure => simp [intOf]; omega
    · clear c0 c1 c2 c3 hS hTt
      go_wp2_with fail
      go_ret
      exact ⟨rfl, hbl⟩

set_option maxRecDepth 100000 in
/-- No step: a slice of length 0, a nil one too. -/
theorem upTo_none (lo hi : Int) (w : World) (ao : Option Addr) (cap : Nat) :
    Calls Tryz.prog 15 #[.slice ao 0 cap, .int .i64 lo, .int .i64 hi] w fun e w' => e = .returned (.int .i64 (-1)) ∧ Below w.heap.size w w' := by
  go_enter Tryz.func15, Tryz.ntmps15
  go_wp2_with fail
  refine wp_loop_rounds 1 ?_
  rw [rounds_succ]
  go_wp2_with fail
  go_ret
  exact ⟨rfl, Below.refl _ _⟩

end Go.Proofs.YthcppbmkacbbiaaGreat
