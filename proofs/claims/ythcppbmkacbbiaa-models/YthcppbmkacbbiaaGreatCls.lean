import Derived.Test.YthcppbmkacbbiaaGreatKeysM
import Derived.LoopN
namespace Go.Proofs.YthcppbmkacbbiaaGreat
open Go.RowKit Go.Maps Go.WideMaps

theorem keyI {i : Nat} (h : i ≤ 1000) : keyOf Tryz.prog 3 (.int .i64 i) = some (.int .i64 i) := by
  have hw : (Lit.int .i64 i).wf = true := WalkArith.wf_i64 (by omega)
  simp [keyOf, mapKey, Tryz.underlying3, hw]

theorem lawI : Keyed Tryz.prog 3 := int_keyed Tryz.underlying3

/-- Block b holds classes: each number below n leads to the one that stands for it, if that is another. -/
def CMap (w : World) (b : Nat) (f : Nat → Nat) (n c : Nat) : Prop :=
  ∃ (D : DataW Unit) (nn : Nat), nn ≤ c ∧ w.ownsMap Tryz.prog 3 (plainElem Tryz.prog 3) b nn D ∧
    ∀ i, i < n → Maps.has D (.int .i64 i) = decide (f i ≠ i) ∧ (f i ≠ i → D.atKey (.int .i64 i) (.lit (.int .i64 0)) = .lit (.int .i64 (f i)))

theorem CMap.lt {w : World} {b n c : Nat} {f : Nat → Nat} (h : CMap w b f n c) : b < w.heap.size := by
  obtain ⟨D, nn, _, h1, _⟩ := h; exact h1.lt

theorem CMap.kept {w w' : World} {b n c : Nat} {f : Nat → Nat} (h : CMap w b f n c) (hb : w'.heap[b]? = w.heap[b]?) : CMap w' b f n c := by
  obtain ⟨D, nn, h0, ⟨es, clock, h1, h2⟩, h3⟩ := h
  exact ⟨D, nn, h0, ⟨es, clock, hb.trans h1, h2⟩, h3⟩

theorem CMap.congr {w : World} {b n c : Nat} {f g : Nat → Nat} (h : CMap w b f n c) (e : ∀ i, i < n → f i = g i) : CMap w b g n c := by
  obtain ⟨D, nn, h0, h1, h2⟩ := h
  exact ⟨D, nn, h0, h1, fun i hi => by rw [← e i hi]; exact h2 i hi⟩

set_option maxHeartbeats 1000000 in
theorem of_any (w : World) (b n c : Nat) (f : Nat → Nat) (i : Nat) (hM : CMap w b f n c) (hi : i < n) (hn : n ≤ 1000) (hle : f i ≤ i) (hff : f (f i) = f i) :
    Calls Tryz.prog 82 #[.map (some b), .int .i64 i] w fun e w' => e = .returned (.int .i64 (f i)) ∧ w' = w := by
  obtain ⟨D, nn, h0, hown, hall⟩ := hM
  by_cases e : f i = i
  · have hk := hall i hi
    have hhas : Maps.has D (.int .i64 i) = false := by rw [hk.1]; simp [e]
    have hkey : keyOf Tryz.prog 3 (.int .i64 i) = some (.int .i64 i) := keyI (by omega)
    have E := hide e
    clear hall hk e hff hle
    go_enter Tryz.func82, Tryz.ntmps82
    go_wp2_with fail
    refine wp_loop_rounds 1 ?_
    rw [rounds_succ]
    go_wp2_with (at_lookup; refine wpList_lookup_own_ok_int _ rfl _ _ 98 rfl 3 3 .i64 lawI Tryz.underlying98 Tryz.underlying3 (zeroE _) b nn D rfl hown _ (.int .i64 i) rfl hkey ?_; intro c0 hat hwc)
    go_ret
    exact ⟨ret_int (by rw [unhide E]), rfl⟩
  · have hk := hall i hi
    have hk2 := hall (f i) (by omega)
    have hhas : Maps.has D (.int .i64 i) = true := by rw [hk.1]; simp [e]
    have hhas2 : Maps.has D (.int .i64 (f i)) = false := by rw [hk2.1]; simp [hff]
    have hkey : keyOf Tryz.prog 3 (.int .i64 i) = some (.int .i64 i) := keyI (by omega)
    have hkey2 : keyOf Tryz.prog 3 (.int .i64 (f i)) = some (.int .i64 (f i)) := keyI (by omega)
    have HAT := hide (hk.2 e)
    clear hall hk hk2 e hff hle
    generalize f i = j at hhas2 hkey2 HAT
    go_enter Tryz.func82, Tryz.ntmps82
    go_wp2_with fail
    refine wp_loop_rounds 2 ?_
    rw [rounds_succ]
    go_wp2_with (at_lookup; refine wpList_lookup_own_ok_int _ rfl _ _ 98 rfl 3 3 .i64 lawI Tryz.underlying98 Tryz.underlying3 (zeroE _) b nn D rfl hown _ (.int .i64 i) rfl hkey ?_; intro c0 hat hwc; have hc0 : c0 = (j : Int) := by {have h := hat.symm.trans (unhide HAT); simpa using h}; subst hc0; clear hat hwc)
    rw [rounds_succ]
    go_wp2_with (at_lookup; refine wpList_lookup_own_ok_int _ rfl _ _ 98 rfl 3 3 .i64 lawI Tryz.underlying98 Tryz.underlying3 (zeroE _) b nn D rfl hown _ (.int .i64 j) rfl hkey2 ?_; intro c0 hat hwc)
    go_ret
    exact ⟨rfl, rfl⟩

set_option maxHeartbeats 1000000 in
theorem same_any (w : World) (b n c : Nat) (f : Nat → Nat) (i j : Nat) (hM : CMap w b f n c) (hi : i < n) (hj : j < n) (hn : n ≤ 1000) (hle : ∀ i, i < n → f i ≤ i ∧ f (f i) = f i) :
    Calls Tryz.prog 80 #[.map (some b), .int .i64 i, .int .i64 j] w fun e w' => e = .returned (.bool (decide (f i = f j))) ∧ w' = w := by
  have h1 := of_any w b n c f i hM hi hn (hle i hi).1 (hle i hi).2
  have h2 := of_any w b n c f j hM hj hn (hle j hj).1 (hle j hj).2
  generalize f i = x at h1 ⊢
  generalize f j = y at h2 ⊢
  go_enter Tryz.func80, Tryz.ntmps80
  go_wp2_with fail
  refine h1.mono ?_
  rintro e w1 ⟨rfl, rfl⟩
  go_wp2_with fail
  refine h2.mono ?_
  rintro e w2 ⟨rfl, rfl⟩
  go_wp2_with fail
  go_ret
  refine ⟨?_, rfl⟩
  by_cases e : x = y
  · subst e; simp
  · have : (x : Int) ≠ y := by omega
    simp [e, this]

set_option maxHeartbeats 1000000 in
/-- Two numbers that stand for themselves are joined. -/
theorem join_any (w : World) (b n c : Nat) (f : Nat → Nat) (i j : Nat) (hM : CMap w b f n c) (hi : i < n) (hj : j < n) (hn : n ≤ 500) (hc : c ≤ 500) (hne : i ≠ j) (fi : f i = i) (fj : f j = j) :
    Calls Tryz.prog 126 #[.map (some b), .int .i64 i, .int .i64 j] w fun e w' => (∃ v, e = .returned v) ∧ w.grownBy w' (some b) ∧ CMap w' b (fun k => if k = j then i else f k) n (c + 1) := by
  have h1 := of_any w b n c f i hM hi (by omega) (by omega) (by rw [fi, fi])
  have h2 := of_any w b n c f j hM hj (by omega) (by omega) (by rw [fj, fj])
  rw [fi] at h1
  rw [fj] at h2
  obtain ⟨D, nn, h0, hown, hall⟩ := hM
  have htidy := hown.tidy lawI
  have hb : ((i : Int) != (j : Int)) = true := by simp; omega
  have hkey : keyOf Tryz.prog 3 (.int .i64 j) = some (.int .i64 j) := keyI (by omega)
  have HALL := hide hall
  clear hall fi fj
  go_enter Tryz.func126, Tryz.ntmps126
  go_wp2_with fail
  refine h1.mono ?_
  rintro e w1 ⟨rfl, rfl⟩
  go_wp2_with fail
  refine h2.mono ?_
  rintro e w2 ⟨rfl, rfl⟩
  go_wp2_with (at_mapUpdate; refine wpList_mapUpdate_own _ rfl _ _ _ 98 rfl 3 3 lawI Tryz.underlying98 _ b nn D rfl hown (by unfold maxLen; omega) _ _ (.int .i64 j) rfl rfl hkey _ [] (plainElem_int Tryz.underlying3 (WalkArith.wf_i64 (by omega))) ?_; intro w1 hown1 hgrow1)
  go_end0
  refine ⟨⟨_, rfl⟩, hgrow1, _, nn + 1, by omega, hown1, fun k hk => ?_⟩
  by_cases e : k = j
  · subst e
    simp only [if_true]
    rw [has_put_same htidy.isMap (lawI.key hkey), atKey_put_same htidy.isMap (lawI.key hkey)]
    simp [hne]
  · have e1 : (fun q => if q = j then i else f q) k = f k := if_neg e
    simp only [e1]
    rw [has_put_other (by simp; omega), atKey_put_other (by simp; omega)]
    exact unhide HALL k hk

end Go.Proofs.YthcppbmkacbbiaaGreat
