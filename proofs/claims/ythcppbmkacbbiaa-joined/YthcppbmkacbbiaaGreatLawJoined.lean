import Derived.Test.YthcppbmkacbbiaaGreatJnd
import Derived.Test.YthcppbmkacbbiaaGreatLawO
import Derived.Test.YthcppbmkacbbiaaGreatCandK
import Derived.SizedLaws
namespace Go.Proofs.YthcppbmkacbbiaaGreat
open Go.ChangeShapes Go.WideShapes Go.ChangeAt Go.RowKit
open Go.ChangeMaps (open_string shut_string)

theorem size_ofJ (a : Array UInt8) : (⟨a⟩ : ByteArray).size = a.size := rfl

theorem chk_size {s : ByteArray} (h : (chk s).1 = 0) : s.size ≤ 100 := Classical.byContradiction fun hn => chk_long (fun q => hn q.1) h

theorem below_nx {b : Nat} {w w1 w2 : World} (h : Below b w w1) (g : Below w1.heap.size w1 w2) (hb : b ≤ w.heap.size) : Below b w w2 := h.trans (g.mono (Nat.le_trans hb h.size))

set_option maxRecDepth 100000 in
set_option maxHeartbeats 4000000 in
theorem joined_walk (w : World) (p q : ByteArray) (hs : p.size ≤ 140737488355328) (ht : q.size ≤ 140737488355328) :
    Calls Tryz.prog 8 #[.string p, .string q] w fun e w' => e = .returned (.bool true) ∧ Below w.heap.size w w' := by
  have H0 := hide counted_any
  have C1 := hide (fun w => check_any w p (by unfold maxLen; omega))
  have C2 := hide (fun w => check_any w q (by unfold maxLen; omega))
  have HL : Hid ((chk p).1 = 0 → (chk q).1 = 0 → _) := fun hp hq => joined_law p q hp hq (chk_size hp) (chk_size hq)
  have HA : Hid ((chk p).1 = 0 → (chk q).1 = 0 → (0 ≤ kc (⟨#[40]⟩ ++ p ++ ⟨#[38]⟩ ++ q ++ ⟨#[41]⟩) ↔ 0 ≤ kc (⟨#[40]⟩ ++ p ++ ⟨#[124]⟩ ++ q ++ ⟨#[41]⟩)) ∧ (0 ≤ kc (⟨#[40]⟩ ++ p ++ ⟨#[38]⟩ ++ q ++ ⟨#[41]⟩) ↔ 0 ≤ kc (⟨#[40]⟩ ++ p ++ ⟨#[62]⟩ ++ q ++ ⟨#[41]⟩)) ∧ (0 ≤ kc (⟨#[40]⟩ ++ p ++ ⟨#[38]⟩ ++ q ++ ⟨#[41]⟩) ↔ 0 ≤ kc (⟨#[40]⟩ ++ p ++ ⟨#[45]⟩ ++ q ++ ⟨#[41]⟩)) ∧
      (0 ≤ kc (⟨#[33, 40, 33]⟩ ++ p ++ ⟨#[124, 33]⟩ ++ q ++ ⟨#[41]⟩) ↔ 0 ≤ kc (⟨#[33, 40, 33]⟩ ++ p ++ ⟨#[38, 33]⟩ ++ q ++ ⟨#[41]⟩))) := fun hp hq => by
    obtain ⟨a, b⟩ := joined_alike p q hp hq (chk_size hp) (chk_size hq)
    exact ⟨⟨a 38 124 (by decide) (by decide), a 124 38 (by decide) (by decide)⟩, ⟨a 38 62 (by decide) (by decide), a 62 38 (by decide) (by decide)⟩, ⟨a 38 45 (by decide) (by decide), a 45 38 (by decide) (by decide)⟩, ⟨b 124 38 (by decide) (by decide), b 38 124 (by decide) (by decide)⟩⟩
  have q0 := kc_bound (⟨#[40]⟩ ++ p ++ ⟨#[38]⟩ ++ q ++ ⟨#[41]⟩)
  have K0 := hide (fun w => kcount_any w (⟨#[40]⟩ ++ p ++ ⟨#[38]⟩ ++ q ++ ⟨#[41]⟩) (by unfold maxLen; simp only [ByteArray.size_append, size_ofJ]; simp; omega))
  have q1 := kc_bound (⟨#[33, 40, 33]⟩ ++ p ++ ⟨#[124, 33]⟩ ++ q ++ ⟨#[41]⟩)
  have K1 := hide (fun w => kcount_any w (⟨#[33, 40, 33]⟩ ++ p ++ ⟨#[124, 33]⟩ ++ q ++ ⟨#[41]⟩) (by unfold maxLen; simp only [ByteArray.size_append, size_ofJ]; simp; omega))
  have q2 := kc_bound (⟨#[40]⟩ ++ p ++ ⟨#[124]⟩ ++ q ++ ⟨#[41]⟩)
  have K2 := hide (fun w => kcount_any w (⟨#[40]⟩ ++ p ++ ⟨#[124]⟩ ++ q ++ ⟨#[41]⟩) (by unfold maxLen; simp only [ByteArray.size_append, size_ofJ]; simp; omega))
  have q3 := kc_bound (⟨#[33, 40, 33]⟩ ++ p ++ ⟨#[38, 33]⟩ ++ q ++ ⟨#[41]⟩)
  have K3 := hide (fun w => kcount_any w (⟨#[33, 40, 33]⟩ ++ p ++ ⟨#[38, 33]⟩ ++ q ++ ⟨#[41]⟩) (by unfold maxLen; simp only [ByteArray.size_append, size_ofJ]; simp; omega))
  have q4 := kc_bound (⟨#[40]⟩ ++ p ++ ⟨#[62]⟩ ++ q ++ ⟨#[41]⟩)
  have K4 := hide (fun w => kcount_any w (⟨#[40]⟩ ++ p ++ ⟨#[62]⟩ ++ q ++ ⟨#[41]⟩) (by unfold maxLen; simp only [ByteArray.size_append, size_ofJ]; simp; omega))
  have q5 := kc_bound (⟨#[40, 33]⟩ ++ p ++ ⟨#[124]⟩ ++ q ++ ⟨#[41]⟩)
  have K5 := hide (fun w => kcount_any w (⟨#[40, 33]⟩ ++ p ++ ⟨#[124]⟩ ++ q ++ ⟨#[41]⟩) (by unfold maxLen; simp only [ByteArray.size_append, size_ofJ]; simp; omega))
  have q6 := kc_bound (⟨#[40]⟩ ++ p ++ ⟨#[45]⟩ ++ q ++ ⟨#[41]⟩)
  have K6 := hide (fun w => kcount_any w (⟨#[40]⟩ ++ p ++ ⟨#[45]⟩ ++ q ++ ⟨#[41]⟩) (by unfold maxLen; simp only [ByteArray.size_append, size_ofJ]; simp; omega))
  have q7 := kc_bound (⟨#[40, 40]⟩ ++ p ++ ⟨#[62]⟩ ++ q ++ ⟨#[41, 38, 40]⟩ ++ q ++ ⟨#[62]⟩ ++ p ++ ⟨#[41, 41]⟩)
  have K7 := hide (fun w => kcount_any w (⟨#[40, 40]⟩ ++ p ++ ⟨#[62]⟩ ++ q ++ ⟨#[41, 38, 40]⟩ ++ q ++ ⟨#[62]⟩ ++ p ++ ⟨#[41, 41]⟩) (by unfold maxLen; simp only [ByteArray.size_append, size_ofJ]; simp; omega))
  generalize kc (⟨#[40]⟩ ++ p ++ ⟨#[38]⟩ ++ q ++ ⟨#[41]⟩) = n0 at HL HA q0 K0
  generalize kc (⟨#[33, 40, 33]⟩ ++ p ++ ⟨#[124, 33]⟩ ++ q ++ ⟨#[41]⟩) = n1 at HL HA q1 K1
  generalize kc (⟨#[40]⟩ ++ p ++ ⟨#[124]⟩ ++ q ++ ⟨#[41]⟩) = n2 at HL HA q2 K2
  generalize kc (⟨#[33, 40, 33]⟩ ++ p ++ ⟨#[38, 33]⟩ ++ q ++ ⟨#[41]⟩) = n3 at HL HA q3 K3
  generalize kc (⟨#[40]⟩ ++ p ++ ⟨#[62]⟩ ++ q ++ ⟨#[41]⟩) = n4 at HL HA q4 K4
  generalize kc (⟨#[40, 33]⟩ ++ p ++ ⟨#[124]⟩ ++ q ++ ⟨#[41]⟩) = n5 at HL HA q5 K5
  generalize kc (⟨#[40]⟩ ++ p ++ ⟨#[45]⟩ ++ q ++ ⟨#[41]⟩) = n6 at HL HA q6 K6
  generalize kc (⟨#[40, 40]⟩ ++ p ++ ⟨#[62]⟩ ++ q ++ ⟨#[41, 38, 40]⟩ ++ q ++ ⟨#[62]⟩ ++ p ++ ⟨#[41, 41]⟩) = n7 at HL HA q7 K7
  generalize chk p = c1 at C1 HL HA
  generalize chk q = c2 at C2 HL HA
  obtain ⟨E1, P1⟩ := c1
  obtain ⟨E2, P2⟩ := c2
  simp only at C1 C2 HL HA
  go_enter Tryz.func8, Tryz.ntmps8
  go_wp2_with fail
  refine (unhide H0 _).mono ?_
  rintro e w1 ⟨rfl, b1⟩
  go_wp2_with fail
  refine (unhide C1 _).mono ?_
  rintro e w2 ⟨rfl, b2⟩
  go_wp2_with fail
  refine (unhide C2 _).mono ?_
  rintro e w3 ⟨rfl, b3⟩
  have b := below_nx (below_nx b1 b2 (Nat.le_refl _)) b3 (Nat.le_refl _)
  clear b1 b2 b3 C1 C2 H0
  by_cases h1 : E1 = 0
  · by_cases h2 : E2 = 0
    · have hl := unhide HL h1 h2
      have HA2 := hide (unhide HA h1 h2)
      have x1 : (E1 != 0) = false := by simpa using h1
      have x2 : (E2 != 0) = false := by simpa using h2
      have HL2 := hide hl
      clear hl HL HA
      subst h1
      subst h2
      go_wp2_with fail
      refine (unhide K0 _).mono ?_
      rintro e x0 ⟨rfl, d0⟩
      have b := below_nx b d0 (Nat.le_refl _)
      clear d0 K0
      go_wp2_with fail
      refine (unhide K1 _).mono ?_
      rintro e x1 ⟨rfl, d1⟩
      have b := below_nx b d1 (Nat.le_refl _)
      clear d1 K1
      go_wp2_with fail
      refine (unhide K2 _).mono ?_
      rintro e x2 ⟨rfl, d2⟩
      have b := below_nx b d2 (Nat.le_refl _)
      clear d2 K2
      go_wp2_with fail
      refine (unhide K3 _).mono ?_
      rintro e x3 ⟨rfl, d3⟩
      have b := below_nx b d3 (Nat.le_refl _)
      clear d3 K3
      go_wp2_with fail
      refine (unhide K4 _).mono ?_
      rintro e x4 ⟨rfl, d4⟩
      have b := below_nx b d4 (Nat.le_refl _)
      clear d4 K4
      go_wp2_with fail
      refine (unhide K5 _).mono ?_
      rintro e x5 ⟨rfl, d5⟩
      have b := below_nx b d5 (Nat.le_refl _)
      clear d5 K5
      go_wp2_with fail
      refine (unhide K6 _).mono ?_
      rintro e x6 ⟨rfl, d6⟩
      have b := below_nx b d6 (Nat.le_refl _)
      clear d6 K6
      go_wp2_with fail
      refine (unhide K7 _).mono ?_
      rintro e x7 ⟨rfl, d7⟩
      have b := below_nx b d7 (Nat.le_refl _)
      clear d7 K7
      obtain ⟨l0, l1, l2, l3, l4⟩ := unhide HL2
      obtain ⟨m1, m2, m3, m4⟩ := unhide HA2
      clear HL2 HA2 hs ht
      by_cases hA : 0 ≤ n0
      · have hA2 := m1.1 hA
        have hA4 := m2.1 hA
        have hA6 := m3.1 hA
        have hle := l4 hA hA2
        clear m1 m2 m3 l4
        by_cases hB : 0 ≤ n1
        · have e1 := l0 hA hB
          have e2 := l1 hA2 (m4.1 hB)
          have hB3 := m4.1 hB
          clear l0 l1 m4
          subst e1
          subst e2
          by_cases hC : 0 ≤ n5
          · have e3 := l2 hA4 hC
            subst e3
            clear l2
            by_cases hD : 0 ≤ n7
            · have e4 := l3 hA6 hD
              subst e4
              clear l3
              go_wp2_with fail
              go_ret
              exact ⟨by simp, b⟩
            · clear l3
              go_wp2_with fail
              go_ret
              exact ⟨by simp, b⟩
          · clear l2
            by_cases hD : 0 ≤ n7
            · have e4 := l3 hA6 hD
              subst e4
              clear l3
              go_wp2_with fail
              go_ret
              exact ⟨by simp, b⟩
            · clear l3
              go_wp2_with fail
              go_ret
              exact ⟨by simp, b⟩
        · have hB3 : ¬ 0 ≤ n3 := fun h => hB (m4.2 h)
          clear l0 l1 m4
          by_cases hC : 0 ≤ n5
          · have e3 := l2 hA4 hC
            subst e3
            clear l2
            by_cases hD : 0 ≤ n7
            · have e4 := l3 hA6 hD
              subst e4
              clear l3
              go_wp2_with fail
              go_ret
              exact ⟨by simp, b⟩
            · clear l3
              go_wp2_with fail
              go_ret
              exact ⟨by simp, b⟩
          · clear l2
            by_cases hD : 0 ≤ n7
            · have e4 := l3 hA6 hD
              subst e4
              clear l3
              go_wp2_with fail
              go_ret
              exact ⟨by simp, b⟩
            · clear l3
              go_wp2_with fail
              go_ret
              exact ⟨by simp, b⟩
      · have hA2 : ¬ 0 ≤ n2 := fun h => hA (m1.2 h)
        have hA4 : ¬ 0 ≤ n4 := fun h => hA (m2.2 h)
        have hA6 : ¬ 0 ≤ n6 := fun h => hA (m3.2 h)
        have hA0 : n0 < 0 := by omega
        clear l0 l1 l2 l3 l4 m1 m2 m3 m4
        go_wp2_with fail
        go_ret
        exact ⟨by simp, b⟩
    · have x2 : (E2 != 0) = true := by simpa using h2
      go_wp2_with fail
      go_ret
      exact ⟨rfl, b⟩
  · have x1 : (E1 != 0) = true := by simpa using h1
    go_wp2_with fail
    go_ret
    exact ⟨rfl, b⟩

set_option maxRecDepth 100000 in
theorem joined_lifted (os : Os) (started : os.Started) (H : Type) (enc : TypeId × Value → H) :
    ReturnsInHanded {} Tryz.checked os 8 .any (Rows.joinedSpec.pre6 enc Tryz.prog Tryz.f8 Rows.joinedRow.domain false) (Rows.joinedSpec.post enc Tryz.prog Tryz.f8 false true false false) := by
  refine returnsInHanded_of_change_sized (C := Tryz.checked) ownK started (by kernel_rfl) Tryz.func8
    (ChangeSpec.witness6 (enc := enc) (C := Tryz.checked) false ⟨#[], #[.string ⟨#[]⟩, .string ⟨#[]⟩], []⟩ 8 (by kernel_rfl) (by kernel_rfl) (by kernel_rfl) (by kernel_rfl)) ?_
  intro W base args ds gs before hval0 hW hcnd hz _
  have hval : ∀ (j : Nat) t v, Tryz.f8.params[j]? = some t → args[j]? = some v → Value.okWide Tryz.prog W .any base t v := hval0
  have hW' := hW
  obtain ⟨p, q, hA0, hV, rfl, hfz, hnd⟩ := hW
  have hA : DataW.TrodAll enc Tryz.prog W 0 (fun _ => true) true Tryz.f8.params.toList args.toList ds p := hA0
  rw [Tryz.params8] at hA hval
  obtain ⟨v0, vs0, d0, ds0, p0, q0, hargs, rfl, rfl, h0, r0⟩ := trodAll_cons hA
  obtain ⟨v1, vs1, d1, ds1, p1, q1, hargs1, rfl, rfl, h1, r1⟩ := trodAll_cons r0
  obtain ⟨rfl, rfl, rfl⟩ := trodAll_nil r1
  obtain rfl : args = #[v0, v1] := by cases args; simp_all
  obtain ⟨rfl, rfl⟩ := trodVars_none hV
  have k0 := h0
  have k1 := h1
  have lt0 : ∀ x ∈ p0, x.block < W.heap.size := by obtain ⟨m, hm⟩ := k0; exact DataW.trod_lt m _ _ _ hm
  have lt1 : ∀ x ∈ p1, x.block < W.heap.size := by obtain ⟨m, hm⟩ := k1; exact DataW.trod_lt m _ _ _ hm
  obtain ⟨s, rfl, rfl, rfl, hs⟩ := open_string Tryz.underlying9 (hval 0 9 v0 rfl rfl) h0
  obtain ⟨t, rfl, rfl, rfl, ht⟩ := open_string Tryz.underlying9 (hval 1 9 v1 rfl rfl) h1
  have h2 := reachBytes_lt
  have hsz : s.size ≤ 140737488355328 := by
    have h1 := sized_string (j := 0) (t := 9) hz (by show (Tryz.f8.params.toList ++ _)[0]? = _; rw [Tryz.params8]; rfl) rfl
    have h3 : s.data.toList.length = s.size := by simp
    omega
  have htz : t.size ≤ 140737488355328 := by
    have h1 := sized_string (j := 1) (t := 9) hz (by show (Tryz.f8.params.toList ++ _)[1]? = _; rw [Tryz.params8]; rfl) rfl
    have h3 : t.data.toList.length = t.size := by simp
    omega
  clear hA0 hval0
  refine (joined_walk W s t hsz htz).mono fun e W' ⟨he, bel⟩ => ?_
  subst he
  exact ⟨_, rfl, _, _, _, [], _, [], hW', trodAll_mk1 (shut_bool Tryz.underlying4 _), (trodAll_cons_mk (Below.trod laidOutL (by kernel_rfl) (of_decide_eq_true (by kernel_rfl)) k0 bel lt0) (trodAll_cons_mk (Below.trod laidOutL (by kernel_rfl) (of_decide_eq_true (by kernel_rfl)) k1 bel lt1) trodAll_mk0)), rfl, bel.frame _, fun h => by cases h⟩

/-- The statement. -/
theorem joined_holds : Rows.JoinedSaid :=
  OpenClaim.holds_of_wide 8 Tryz.f8 rfl rfl rfl rfl rfl rfl rfl ⟨rfl, rfl, rfl, rfl, rfl⟩ rfl rfl rfl rfl rfl (by kernel_rfl) Tryz.func8 (by kernel_rfl)
    (of_decide_eq_true (by kernel_rfl)) (by unfold Func.isWrapper; first | (rw [if_pos (by decide +kernel)]; kernel_rfl) | (rw [if_neg (by decide +kernel)]; exact ⟨rfl, rfl⟩))
    (fun os started H enc _ => joined_lifted os started H enc)

#print axioms joined_holds

end Go.Proofs.YthcppbmkacbbiaaGreat
