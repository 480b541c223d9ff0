import Derived.Test.YthcppbmkacbbiaaGreatWysM
import Derived.Test.YthcppbmkacbbiaaGreatLawO
namespace Go.Proofs.YthcppbmkacbbiaaGreat
open Go.ChangeShapes Go.WideShapes Go.ChangeAt Go.RowKit
open Nx

theorem wf_i64_range {n : Int} (h : (Lit.int .i64 n).wf = true) : -9223372036854775808 ≤ n ∧ n ≤ 9223372036854775807 := by
  simp [Lit.wf, IntKind.min, IntKind.max, IntKind.bits, IntKind.signed] at h
  omega

set_option maxRecDepth 100000 in
set_option maxHeartbeats 1000000 in
theorem named_walk (w : World) (n m : Int) (h1 : -9223372036854775808 ≤ n) (h2 : n ≤ 9223372036854775807) (h3 : -9223372036854775808 ≤ m) (h4 : m ≤ 9223372036854775807) :
    Calls Tryz.prog 9 #[.int .i64 n, .int .i64 m] w fun e w' => e = .returned (.bool true) ∧ Below w.heap.size w w' := by
  have P1 := hide (fun w => pick_any w n 5 (by omega) (by omega) h1 h2)
  have P2 := hide (fun w => pick_any w m 5 (by omega) (by omega) h3 h4)
  go_enter Tryz.func9, Tryz.ntmps9
  go_wp2_with fail
  refine (unhide P1 _).mono ?_
  rintro e w1 ⟨⟨x, hx, rfl⟩, rfl⟩
  go_wp2_with fail
  refine (unhide P2 _).mono ?_
  rintro e w1 ⟨⟨y, hy, rfl⟩, rfl⟩
  obtain ⟨X, hX⟩ : ∃ X : Nat, x + 1 = X := ⟨_, rfl⟩
  have hcast : (1 + (x : Int)) = (X : Int) := by omega
  rw [hcast]
  have hX1 : 1 ≤ X := by omega
  have hX5 : X ≤ 5 := by omega
  have HX := hide hX
  clear hcast hX P1 P2
  by_cases hyX : (X : Int) < (y : Int)
  · have hX4 : X ≤ 4 := by omega
    go_wp2_with fail
    go_loop [7, 8] (fun sv iv => ∃ i : Nat, i + 1 ≤ X ∧ iv = .int .i64 ((i + 1 : Nat) : Int) ∧ sv = .string (nmA i)) (fun _ iv => X - (intOf iv).toNat)
    case atStart => exact ⟨0, hX1, rfl, rfl⟩
    case round =>
      obtain ⟨i, hi, rfl, rfl⟩ := hrel
      by_cases hlt : i + 1 < X
      · have hbi : ((i + 1 : Nat) : Int) < (X : Int) := by omega
        have hs1 := nmA_size i
        have hs3 : (nmA i).size ≤ 100 := by omega
        generalize hA : nmA i = sA at hs3
        have HA := hide hA
        clear hA hs1
        go_wp2_with fail
        refine ⟨⟨i + 1, hlt, by go_num, by rw [← unhide HA]; rfl⟩, by simp [intOf]; omega⟩
      · have hbi : ¬ ((i + 1 : Nat) : Int) < (X : Int) := by omega
        have hiX : i = X - 1 := by omega
        subst hiX
        go_wp2_with fail
        go_loop [7, 10] (fun sv iv => ∃ j : Nat, j ≤ X ∧ iv = .int .i64 j ∧ sv = .string (nmB X j)) (fun _ iv => X - (intOf iv).toNat)
        case atStart => exact ⟨0, Nat.zero_le _, rfl, rfl⟩
        case round =>
          obtain ⟨j, hj, rfl, rfl⟩ := hrel
          by_cases hjl : j < X
          · have hbj : (j : Int) < (X : Int) := by omega
            have hs1 := nmB_size X j
            have hs3 : (nmB X j).size ≤ 200 := by omega
            generalize hB : nmB X j = sB at hs3
            have HB := hide hB
            clear hB hs1
            go_wp2_with fail
            refine ⟨⟨j + 1, hjl, by go_num, by rw [← unhide HB]; rfl⟩, by simp [intOf]; omega⟩
          · have hjj : j = X := by omega
            subst hjj
            have hbj : ¬ (j : Int) < (j : Int) := by omega
            have hnc : ctell (nmB j j) = (((wy j j [] : Nat) : Int), 0) := by
              have q := named_counts ⟨j - 1, by omega⟩ ⟨j, by omega⟩ (by show j ≤ j - 1 + 1; omega)
              simp only [show j - 1 + 1 = j by omega] at q
              exact q
            have hcn := fun w => count_any w (nmB j j) (by have := nmB_size j j; unfold maxLen; omega)
            rw [hnc] at hcn
            have hwn := fun w => ways_any j j [] (.slice none 0 0) w (by rw [List.length_nil]; omega) (by rw [List.length_nil]; omega) (by simp [cm]) (World.ownsRow_nil _ _ _ _)
            simp only [List.length_nil, Nat.zero_add] at hwn
            generalize nmB j j = sB at hcn
            generalize wy j j [] = wv at hcn hwn
            have HCN := hide hcn
            have HWN := hide hwn
            clear hcn hwn hnc
            go_wp2_with fail
            refine (unhide HCN _).mono ?_
            rintro e w2 ⟨rfl, hb2⟩
            go_wp2_with fail
            refine (unhide HWN _).mono ?_
            rintro e w3 ⟨rfl, hb3⟩
            go_wp2_with fail
            go_ret
            exact ⟨rfl, hb2.trans (hb3.mono hb2.size)⟩
  · have hY : y ≤ X := by omega
    go_wp2_with fail
    go_loop [7, 8] (fun sv iv => ∃ i : Nat, i + 1 ≤ X ∧ iv = .int .i64 ((i + 1 : Nat) : Int) ∧ sv = .string (nmA i)) (fun _ iv => X - (intOf iv).toNat)
    case atStart => exact ⟨0, hX1, rfl, rfl⟩
    case round =>
      obtain ⟨i, hi, rfl, rfl⟩ := hrel
      by_cases hlt : i + 1 < X
      · have hbi : ((i + 1 : Nat) : Int) < (X : Int) := by omega
        have hs1 := nmA_size i
        have hs3 : (nmA i).size ≤ 100 := by omega
        generalize hA : nmA i = sA at hs3
        have HA := hide hA
        clear hA hs1
        go_wp2_with fail
        refine ⟨⟨i + 1, hlt, by go_num, by rw [← unhide HA]; rfl⟩, by simp [intOf]; omega⟩
      · have hbi : ¬ ((i + 1 : Nat) : Int) < (X : Int) := by omega
        have hiX : i = X - 1 := by omega
        subst hiX
        go_wp2_with fail
        go_loop [7, 10] (fun sv iv => ∃ j : Nat, j ≤ y ∧ iv = .int .i64 j ∧ sv = .string (nmB X j)) (fun _ iv => y - (intOf iv).toNat)
        case atStart => exact ⟨0, Nat.zero_le _, rfl, rfl⟩
        case round =>
          obtain ⟨j, hj, rfl, rfl⟩ := hrel
          by_cases hjl : j < y
          · have hbj : (j : Int) < (y : Int) := by omega
            have hs1 := nmB_size X j
            have hs3 : (nmB X j).size ≤ 200 := by omega
            generalize hB : nmB X j = sB at hs3
            have HB := hide hB
            clear hB hs1
            go_wp2_with fail
            refine ⟨⟨j + 1, hjl, by go_num, by rw [← unhide HB]; rfl⟩, by simp [intOf]; omega⟩
          · have hjj : j = y := by omega
            subst hjj
            have hbj : ¬ (j : Int) < (j : Int) := by omega
            have hnc : ctell (nmB X j) = (((wy X j [] : Nat) : Int), 0) := by
              have q := named_counts ⟨X - 1, by omega⟩ ⟨j, by omega⟩ (by show j ≤ X - 1 + 1; omega)
              simp only [show X - 1 + 1 = X by omega] at q
              exact q
            have hcn := fun w => count_any w (nmB X j) (by have := nmB_size X j; unfold maxLen; omega)
            rw [hnc] at hcn
            have hwn := fun w => ways_any X j [] (.slice none 0 0) w (by rw [List.length_nil]; omega) (by rw [List.length_nil]; omega) (by simp [cm]) (World.ownsRow_nil _ _ _ _)
            simp only [List.length_nil, Nat.zero_add] at hwn
            generalize nmB X j = sB at hcn
            generalize wy X j [] = wv at hcn hwn
            have HCN := hide hcn
            have HWN := hide hwn
            clear hcn hwn hnc
            go_wp2_with fail
            refine (unhide HCN _).mono ?_
            rintro e w2 ⟨rfl, hb2⟩
            go_wp2_with fail
            refine (unhide HWN _).mono ?_
            rintro e w3 ⟨rfl, hb3⟩
            go_wp2_with fail
            go_ret
            exact ⟨rfl, hb2.trans (hb3.mono hb2.size)⟩

set_option maxRecDepth 100000 in
theorem named_lifted (os : Os) (started : os.Started) (H : Type) (enc : TypeId × Value → H) :
    ReturnsInHanded {} Tryz.checked os 9 .any (Rows.namedSpec.pre6 enc Tryz.prog Tryz.f9 Rows.namedRow.domain false) (Rows.namedSpec.post enc Tryz.prog Tryz.f9 false true false false) := by
  refine returnsInHanded_of_change (C := Tryz.checked) ownK started (by kernel_rfl) Tryz.func9
    (ChangeSpec.witness6 (enc := enc) (C := Tryz.checked) false ⟨#[], #[.int .i64 0, .int .i64 0], []⟩ 8 (by kernel_rfl) (by kernel_rfl) (by kernel_rfl) (by kernel_rfl)) ?_
  intro W base args ds gs before hval0 hW hcnd _
  have hval : ∀ (j : Nat) t v, Tryz.f9.params[j]? = some t → args[j]? = some v → Value.okWide Tryz.prog W .any base t v := hval0
  have hW' := hW
  obtain ⟨p, q, hA0, hV, rfl, hfz, hnd⟩ := hW
  have hA : DataW.TrodAll enc Tryz.prog W 0 (fun _ => true) true Tryz.f9.params.toList args.toList ds p := hA0
  rw [Tryz.params9] at hA hval
  obtain ⟨v0, vs0, d0, ds0, p0, q0, hargs, rfl, rfl, h0, r0⟩ := trodAll_cons hA
  obtain ⟨v1, vs1, d1, ds1, p1, q1, hargs1, rfl, rfl, h1, r1⟩ := trodAll_cons r0
  obtain ⟨rfl, rfl, rfl⟩ := trodAll_nil r1
  obtain rfl : args = #[v0, v1] := by cases args; simp_all
  obtain ⟨rfl, rfl⟩ := trodVars_none hV
  have k0 := h0
  have k1 := h1
  have lt0 : ∀ x ∈ p0, x.block < W.heap.size := by obtain ⟨m, hm⟩ := k0; exact DataW.trod_lt m _ _ _ hm
  have lt1 : ∀ x ∈ p1, x.block < W.heap.size := by obtain ⟨m, hm⟩ := k1; exact DataW.trod_lt m _ _ _ hm
  obtain ⟨n, rfl, rfl, rfl, hn⟩ := open_int Tryz.underlying3 (hval 0 3 v0 rfl rfl) h0
  obtain ⟨m, rfl, rfl, rfl, hm⟩ := open_int Tryz.underlying3 (hval 1 3 v1 rfl rfl) h1
  have b0 := wf_i64_range hn
  have b1 := wf_i64_range hm
  clear hA0 hval0
  refine (named_walk W n m b0.1 b0.2 b1.1 b1.2).mono fun e W' ⟨he, bel⟩ => ?_
  subst he
  exact ⟨_, rfl, _, _, _, [], _, [], hW', trodAll_mk1 (shut_bool Tryz.underlying4 _), (trodAll_cons_mk (Below.trod laidOutL (by kernel_rfl) (of_decide_eq_true (by kernel_rfl)) k0 bel lt0) (trodAll_cons_mk (Below.trod laidOutL (by kernel_rfl) (of_decide_eq_true (by kernel_rfl)) k1 bel lt1) trodAll_mk0)), rfl, bel.frame _, fun h => by cases h⟩

/-- The statement. -/
theorem named_holds : Rows.NamedSaid :=
  OpenClaim.holds_of_wide 9 Tryz.f9 rfl rfl rfl rfl rfl rfl rfl ⟨rfl, rfl, rfl, rfl, rfl⟩ rfl rfl rfl rfl rfl (by kernel_rfl) Tryz.func9 (by kernel_rfl)
    (of_decide_eq_true (by kernel_rfl)) (by unfold Func.isWrapper; first | (rw [if_pos (by decide +kernel)]; kernel_rfl) | (rw [if_neg (by decide +kernel)]; exact ⟨rfl, rfl⟩))
    (fun os started H enc _ => named_lifted os started H enc)

#print axioms named_holds

end Go.Proofs.YthcppbmkacbbiaaGreat
