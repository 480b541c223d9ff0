import Derived.Test.YthcppbmkacbbiaaGreatAstM
import Derived.Test.YthcppbmkacbbiaaGreatLawO
import Derived.SizedLaws
namespace Go.Proofs.YthcppbmkacbbiaaGreat
open Go.ChangeShapes Go.WideShapes Go.ChangeAt Go.RowKit
open Go.ChangeMaps (open_string shut_string)

theorem ba_cat (a b : ByteArray) : a ++ b = ⟨(a.data.toList ++ b.data.toList).toArray⟩ := by
  apply ByteArray.ext
  simp

theorem size_of (a : Array UInt8) : (⟨a⟩ : ByteArray).size = a.size := rfl

theorem whole_bytes (s : ByteArray) (h1 : 0 ≤ kc s) (h2 : 0 ≤ kc (⟨#[33]⟩ ++ s)) (h3 : 0 ≤ kc (⟨#[40]⟩ ++ s ++ ⟨#[124, 33]⟩ ++ s ++ ⟨#[41]⟩)) (h4 : 0 ≤ kc (⟨#[40]⟩ ++ s ++ ⟨#[38, 33]⟩ ++ s ++ ⟨#[41]⟩)) :
    kc s + kc (⟨#[33]⟩ ++ s) = kc (⟨#[40]⟩ ++ s ++ ⟨#[124, 33]⟩ ++ s ++ ⟨#[41]⟩) ∧ kc (⟨#[40]⟩ ++ s ++ ⟨#[38, 33]⟩ ++ s ++ ⟨#[41]⟩) = 0 ∧ 0 < kc (⟨#[40]⟩ ++ s ++ ⟨#[124, 33]⟩ ++ s ++ ⟨#[41]⟩) := by
  have e0 : s = ⟨s.data.toList.toArray⟩ := by simp
  have e1 : (⟨#[33]⟩ : ByteArray) ++ s = ⟨(33 :: s.data.toList).toArray⟩ := by rw [ba_cat]; rfl
  have e2 : (⟨#[40]⟩ : ByteArray) ++ s ++ ⟨#[124, 33]⟩ ++ s ++ ⟨#[41]⟩ = ⟨(40 :: (s.data.toList ++ 124 :: ((33 :: s.data.toList) ++ [41]))).toArray⟩ := by simp only [ba_cat]; simp
  have e3 : (⟨#[40]⟩ : ByteArray) ++ s ++ ⟨#[38, 33]⟩ ++ s ++ ⟨#[41]⟩ = ⟨(40 :: (s.data.toList ++ 38 :: ((33 :: s.data.toList) ++ [41]))).toArray⟩ := by simp only [ba_cat]; simp
  rw [e1] at h2 ⊢
  rw [e2] at h3 ⊢
  rw [e3] at h4 ⊢
  have w := whole_law s.data.toList (by rw [← e0]; exact h1) h2 h3 h4
  rw [← e0] at w
  exact w

set_option maxRecDepth 100000 in
set_option maxHeartbeats 1000000 in
theorem whole_walk (w : World) (s : ByteArray) (hs : s.size ≤ 140737488355328) :
    Calls Tryz.prog 7 #[.string s] w fun e w' => e = .returned (.bool true) ∧ Below w.heap.size w w' := by
  have H0 := hide counted_any
  have HK := hide kcount_any
  have HL := hide (whole_bytes s)
  have q1 := kc_bound s
  have q2 := kc_bound (⟨#[33]⟩ ++ s)
  have q3 := kc_bound (⟨#[40]⟩ ++ s ++ ⟨#[124, 33]⟩ ++ s ++ ⟨#[41]⟩)
  have q4 := kc_bound (⟨#[40]⟩ ++ s ++ ⟨#[38, 33]⟩ ++ s ++ ⟨#[41]⟩)
  have K1 := hide (fun w => unhide HK w s (by unfold maxLen; omega))
  have K2 := hide (fun w => unhide HK w (⟨#[33]⟩ ++ s) (by unfold maxLen; simp only [ByteArray.size_append, size_of]; simp; omega))
  have K3 := hide (fun w => unhide HK w (⟨#[40]⟩ ++ s ++ ⟨#[124, 33]⟩ ++ s ++ ⟨#[41]⟩) (by unfold maxLen; simp only [ByteArray.size_append, size_of]; simp; omega))
  have K4 := hide (fun w => unhide HK w (⟨#[40]⟩ ++ s ++ ⟨#[38, 33]⟩ ++ s ++ ⟨#[41]⟩) (by unfold maxLen; simp only [ByteArray.size_append, size_of]; simp; omega))
  generalize kc s = n1 at HL q1 K1
  generalize kc (⟨#[33]⟩ ++ s) = n2 at HL q2 K2
  generalize kc (⟨#[40]⟩ ++ s ++ ⟨#[124, 33]⟩ ++ s ++ ⟨#[41]⟩) = n3 at HL q3 K3
  generalize kc (⟨#[40]⟩ ++ s ++ ⟨#[38, 33]⟩ ++ s ++ ⟨#[41]⟩) = n4 at HL q4 K4
  clear HK
  go_enter Tryz.func7, Tryz.ntmps7
  go_wp2_with fail
  refine (unhide H0 _).mono ?_
  rintro e w1 ⟨rfl, b1⟩
  go_wp2_with fail
  refine (unhide K1 _).mono ?_
  rintro e w2 ⟨rfl, b2⟩
  go_wp2_with fail
  refine (unhide K2 _).mono ?_
  rintro e w3 ⟨rfl, b3⟩
  go_wp2_with fail
  refine (unhide K3 _).mono ?_
  rintro e w4 ⟨rfl, b4⟩
  go_wp2_with fail
  refine (unhide K4 _).mono ?_
  rintro e w5 ⟨rfl, b5⟩
  have b : Below w.heap.size w w5 := (((b1.trans (b2.mono b1.size)).trans (b3.mono (Nat.le_trans b1.size b2.size))).trans (b4.mono (Nat.le_trans (Nat.le_trans b1.size b2.size) b3.size))).trans (b5.mono (Nat.le_trans (Nat.le_trans (Nat.le_trans b1.size b2.size) b3.size) b4.size))
  clear b1 b2 b3 b4 b5 K1 K2 K3 K4 H0
  by_cases h1 : n1 < 0
  · go_wp2_with fail
    go_ret
    exact ⟨rfl, b⟩
  · by_cases h2 : n2 < 0
    · go_wp2_with fail
      go_ret
      exact ⟨rfl, b⟩
    · by_cases h3 : n3 < 0
      · go_wp2_with fail
        go_ret
        exact ⟨rfl, b⟩
      · by_cases h4 : n4 < 0
        · go_wp2_with fail
          go_ret
          exact ⟨rfl, b⟩
        · obtain ⟨l1, l2, l3⟩ := unhide HL (by omega) (by omega) (by omega) (by omega)
          have e1 : (n1 + n2 == n3) = true := by simpa using l1
          have e2 : (n4 == 0) = true := by simpa using l2
          have e3 : decide (0 < n3) = true := by simpa using l3
          have L1 := hide l1
          have L2 := hide l2
          clear l1 l2
          go_wp2_with fail
          go_ret
          exact ⟨by simp [unhide L1, unhide L2], b⟩

set_option maxRecDepth 100000 in
theorem whole_lifted (os : Os) (started : os.Started) (H : Type) (enc : TypeId × Value → H) :
    ReturnsInHanded {} Tryz.checked os 7 .any (Rows.wholeSpec.pre6 enc Tryz.prog Tryz.f7 Rows.wholeRow.domain false) (Rows.wholeSpec.post enc Tryz.prog Tryz.f7 false true false false) := by
  refine returnsInHanded_of_change_sized (C := Tryz.checked) ownK started (by kernel_rfl) Tryz.func7
    (ChangeSpec.witness6 (enc := enc) (C := Tryz.checked) false ⟨#[], #[.string ⟨#[]⟩], []⟩ 8 (by kernel_rfl) (by kernel_rfl) (by kernel_rfl) (by kernel_rfl)) ?_
  intro W base args ds gs before hval0 hW hcnd hz _
  have hval : ∀ (j : Nat) t v, Tryz.f7.params[j]? = some t → args[j]? = some v → Value.okWide Tryz.prog W .any base t v := hval0
  have hW' := hW
  obtain ⟨p, q, hA0, hV, rfl, hfz, hnd⟩ := hW
  have hA : DataW.TrodAll enc Tryz.prog W 0 (fun _ => true) true Tryz.f7.params.toList args.toList ds p := hA0
  rw [Tryz.params7] at hA hval
  obtain ⟨v0, vs0, d0, ds0, p0, q0, hargs, rfl, rfl, h0, r0⟩ := trodAll_cons hA
  obtain ⟨rfl, rfl, rfl⟩ := trodAll_nil r0
  obtain rfl : args = #[v0] := by cases args; simp_all
  obtain ⟨rfl, rfl⟩ := trodVars_none hV
  have k0 := h0
  have lt0 : ∀ x ∈ p0, x.block < W.heap.size := by obtain ⟨m, hm⟩ := k0; exact DataW.trod_lt m _ _ _ hm
  obtain ⟨s, rfl, rfl, rfl, hs⟩ := open_string Tryz.underlying9 (hval 0 9 v0 rfl rfl) h0
  have hsz : s.size ≤ 140737488355328 := by
    have h1 := sized_string (j := 0) (t := 9) hz (by show (Tryz.f7.params.toList ++ _)[0]? = _; rw [Tryz.params7]; rfl) rfl
    have h2 := reachBytes_lt
    have h3 : s.data.toList.length = s.size := by simp
    omega
  clear hA0 hval0
  refine (whole_walk W s hsz).mono fun e W' ⟨he, bel⟩ => ?_
  subst he
  exact ⟨_, rfl, _, _, _, [], _, [], hW', trodAll_mk1 (shut_bool Tryz.underlying4 _), (trodAll_cons_mk (Below.trod laidOutL (by kernel_rfl) (of_decide_eq_true (by kernel_rfl)) k0 bel lt0) trodAll_mk0), rfl, bel.frame _, fun h => by cases h⟩

/-- The statement. -/
theorem whole_holds : Rows.WholeSaid :=
  OpenClaim.holds_of_wide 7 Tryz.f7 rfl rfl rfl rfl rfl rfl rfl ⟨rfl, rfl, rfl, rfl, rfl⟩ rfl rfl rfl rfl rfl (by kernel_rfl) Tryz.func7 (by kernel_rfl)
    (of_decide_eq_true (by kernel_rfl)) (by unfold Func.isWrapper; first | (rw [if_pos (by decide +kernel)]; kernel_rfl) | (rw [if_neg (by decide +kernel)]; exact ⟨rfl, rfl⟩))
    (fun os started H enc _ => whole_lifted os started H enc)

#print axioms whole_holds

end Go.Proofs.YthcppbmkacbbiaaGreat
