import Derived.Test.YthcppbmkacbbiaaGreatChecked
import Derived.Test.YthcppbmkacbbiaaGreatShelf
import Derived.Test.YthcppbmkacbbiaaGreatRefS
namespace Go.Proofs.YthcppbmkacbbiaaGreat
open Go.RowKit

/-- What applied writes. -/
def appl (c : UInt8) (T : List (List UInt8)) : List UInt8 := c :: 40 :: (Lib.join T [44] ++ [41])

theorem appl_bytes (c : UInt8) (x : List UInt8) : (⟨#[c]⟩ ++ ⟨#[40]⟩ ++ ⟨x.toArray⟩ ++ ⟨#[41]⟩ : ByteArray) = ⟨(c :: 40 :: (x ++ [41])).toArray⟩ := by
  have e1 : (⟨#[c]⟩ : ByteArray) = ⟨[c].toArray⟩ := rfl
  have e2 : (⟨#[40]⟩ : ByteArray) = ⟨[40].toArray⟩ := rfl
  have e3 : (⟨#[41]⟩ : ByteArray) = ⟨[41].toArray⟩ := rfl
  rw [e1, e2, e3, ba_append, ba_append, ba_append]
  simp

set_option maxRecDepth 100000 in
set_option maxHeartbeats 1000000 in
theorem applied_any (c : UInt8) (hc : c = 80 ∨ c = 81 ∨ c = 102 ∨ c = 103) (T : List (List UInt8)) (bk cap : Nat) (w : World) (hT : T.length ≤ 10) (hcap : T.length ≤ cap) (hlen : (Lib.join T [44]).length ≤ 2000) (hbk : bk < w.heap.size)
    (hcells : ∀ j (hj : j < T.length), w.cell? ⟨bk, j, none⟩ = some (str T[j])) :
    Calls Tryz.prog 100 #[.int .u8 c.toNat, .slice (some ⟨bk, 0, none⟩) T.length cap] w fun e w' => e = .returned (str (appl c T)) ∧ Below w.heap.size w w' := by
  have HJ : Hid (Calls Tryz.prog 101 #[.slice (some ⟨bk, 0, none⟩) T.length cap, .string ⟨#[44]⟩] w fun e w' => e = .returned (.string ⟨(Lib.join T [44]).toArray⟩) ∧ Below w.heap.size w w') := by
    have e1 : (T.map (fun t => (⟨t.toArray⟩ : ByteArray))).map (·.data.toList) = T := by simp [List.map_map, Function.comp_def]
    have e2 : (T.map (fun t => (⟨t.toArray⟩ : ByteArray))).length = T.length := by simp
    have h := Tryz.strings_Join bk 0 cap (T.map (fun t => (⟨t.toArray⟩ : ByteArray))) ⟨#[44]⟩ w (fun j x hx => by
      rw [List.getElem?_map] at hx
      by_cases hj : j < T.length
      · rw [List.getElem?_eq_getElem hj] at hx
        simp at hx
        subst hx
        rw [Nat.zero_add]; exact hcells j hj
      · rw [List.getElem?_eq_none (by omega)] at hx; simp at hx) hbk (by omega) (by omega) (by rw [e1]; exact Nat.le_trans hlen (by omega))
    rw [e1, e2] at h
    exact h
  unfold appl
  generalize Lib.join T [44] = x at HJ hlen
  clear hcells
  have u1 : Utf8.encode 80 = ⟨#[80]⟩ := by kernel_rfl
  have u2 : Utf8.encode 81 = ⟨#[81]⟩ := by kernel_rfl
  have u3 : Utf8.encode 102 = ⟨#[102]⟩ := by kernel_rfl
  have u4 : Utf8.encode 103 = ⟨#[103]⟩ := by kernel_rfl
  rcases hc with rfl | rfl | rfl | rfl
  all_goals
    go_enter Tryz.func100, Tryz.ntmps100
    go_wp2_with fail
    refine (unhide HJ).mono ?_
    rintro e w1 ⟨rfl, h1⟩
    go_wp2_with fail
    go_ret
    refine ⟨?_, h1⟩
    exact congrArg (fun b => Ending.returned (.string b)) (appl_bytes _ x)

end Go.Proofs.YthcppbmkacbbiaaGreat
