import Derived.Test.YthcppbmkacbbiaaGreatCandR
namespace Go.Proofs.YthcppbmkacbbiaaGreat
open Go.RowKit Go.Maps Go.WideMaps
open Rdg (Key put RT RT2 RF RP RQ)

theorem row_lift {w w' : World} {base b e k n : Nat} {v : Value} {xs : List Value} (h : w.ownsRow base e k v n xs) (hb : Below b w w') (hlt : w.heap.size ≤ b) : w'.ownsRow base e k v n xs :=
  h.kept (row := none) ⟨hb.os, hb.tape, hb.output, hb.size, fun j hj _ => hb.block j (Nat.lt_of_lt_of_le hj hlt)⟩ (by
    cases v <;> first | exact Or.inl rfl | skip
    rename_i p n c
    cases p
    · exact Or.inl rfl
    · exact Or.inr (by simp [Value.ownBlock]))

theorem row_put {w : World} {base e k n X i : Nat} {v x : Value} {xs : List Value} (h : w.ownsRow base e k v n xs) (hX : X < base) : (w.setCell ⟨X, i, none⟩ x).ownsRow base e k v n xs := by
  have hg : w.grownBy (w.setCell ⟨X, i, none⟩ x) (some X) := ⟨rfl, rfl, rfl, by simp [World.setCell], fun j _ hj => Below.heap_setCell _ _ _ _ (fun e => hj (by rw [e]))⟩
  refine h.kept hg ?_
  rcases h.2 with ⟨rfl, _⟩ | ⟨g, cap, cur, rfl, hb, _⟩
  · exact Or.inl rfl
  · refine Or.inr (fun e => ?_)
    simp only [Value.ownBlock, Option.some.injEq] at e
    omega

section
variable (w : World) (s : ByteArray)

set_option linter.unusedSimpArgs false in
set_option maxRecDepth 100000 in
set_option maxHeartbeats 1000000 in
theorem read_ok (hs : s.size ≤ 100) (a1 : Nat) (ts : List Key) (cs : List (Int × Nat)) (ps : List Key) (m : Nat) (HR : Hid (Rdg.rdP (pk s) (s.size + 1) 0 0 [] [] [] = .ok (a1, ts, cs, ps, m))) (heq : a1 = s.size) (h7 : ts.length ≤ 7) (h4 : cs.length ≤ 4)
    (hnT : ts.Nodup) (hnC : cs.Nodup) (hnP : ps.Nodup) (hp : ps.length ≤ 100) (hvT : ∀ x ∈ ts, ∃ l, keyOf Tryz.prog 87 (kvT x) = some l) (hvC : ∀ x ∈ cs, ∃ l, keyOf Tryz.prog 90 (kvC x) = some l) (hvP : ∀ x ∈ ps, ∃ l, keyOf Tryz.prog 93 (kvT x) = some l) :
    Calls Tryz.prog 30 #[.string s] w fun e w' => ∃ GT GC GP, e = .returned (.tuple #[fv GT GC GP ts.length cs.length ps.length, .int .i64 0, .int .i64 0]) ∧ Below w.heap.size w w' ∧ FR w' (w.heap.size + 1) GT GC GP ts cs ps := by
  have hmm := @run_makeMap Tryz.prog
  have hb : decide ((100 : Int) < (s.size : Int)) = false := by simp; omega
  go_enter Tryz.func30, Tryz.ntmps30
  go_wp2_with fail
  refine (formula_any _ _ _ _ s hs (s.size + 1) (start w s) 0 0 [] [] [] (by omega) (by omega) (by simp) (by simp) (by simp) (by omega) (start_ci w s)).mono ?_
  rw [unhide HR]
  rintro e w1 ⟨k1, rfl, h1⟩
  go_wp2_with fail
  refine (end_yes w1 _ _ _ _ s a1 0 ts cs ps heq h1).mono ?_
  rintro e w2 ⟨rfl, h2, k2⟩
  have k3 := k1.trans k2
  have r0 := res_cell k3 0
  have r1 := res_cell k3 1
  have r2 := res_cell k3 2
  have q0 := res_frozen k3 0
  have q1 := res_frozen k3 1
  have q2 := res_frozen k3 2
  simp at r0 r1 r2
  have c4 := h2.c4
  have c5 := h2.c5
  have c6 := h2.c6
  have hltB := h2.lt
  have mt := hide h2.mt
  have mc := hide h2.mc
  have mp := hide h2.mp
  obtain ⟨D, hown, hsz, hall, _⟩ := h2.mt
  obtain ⟨D2, hown2, hsz2, hall2, _⟩ := h2.mc
  have HSZ := hide hsz
  have HSZ2 := hide hsz2
  clear hall hall2 hsz hsz2
  have hb7 : decide ((7 : Int) < (Maps.size D : Int)) = false := by rw [unhide HSZ]; simp; omega
  have hb4 : decide ((4 : Int) < (Maps.size D2 : Int)) = false := by rw [unhide HSZ2]; simp; omega
  have hl2 := fun ty => hown2.len Tryz.underlying78 ty
  go_wp2_with (at_len; refine wpList_len_own _ rfl (.tmp 33) 76 rfl 87 3 Tryz.underlying76 _ _ ts.length D rfl hown ?_)
  have hsz3 : w.heap.size + 5 ≤ w2.heap.size := by have := k3.size; rw [start_size] at this; exact this
  clear hb7 hb4 hl2 hown hown2
  refine wp_region_held (S := fun W' => W'.cell? ⟨w.heap.size + 1 + 1 + 1 + 1, 4, none⟩ = some (.map (some (w.heap.size + 1))) ∧ W'.cell? ⟨w.heap.size + 1 + 1 + 1 + 1, 5, none⟩ = some (.map (some (w.heap.size + 1 + 1))) ∧ W'.cell? ⟨w.heap.size + 1 + 1 + 1 + 1, 6, none⟩ = some (.map (some (w.heap.size + 1 + 1 + 1)))) rfl ?_
  have hS0 : w2.drew.cell? ⟨w.heap.size + 1 + 1 + 1 + 1, 4, none⟩ = some (.map (some (w.heap.size + 1))) ∧ w2.drew.cell? ⟨w.heap.size + 1 + 1 + 1 + 1, 5, none⟩ = some (.map (some (w.heap.size + 1 + 1))) ∧ w2.drew.cell? ⟨w.heap.size + 1 + 1 + 1 + 1, 6, none⟩ = some (.map (some (w.heap.size + 1 + 1 + 1))) := ⟨c4, c5, c6⟩
  change wpAnyH Tryz.prog .any _ _ _ 13 #[false, false, false, false, false, false, false, false, false, false, false, false, false] _ w2.drew
  refine wpAnyH_take (i := 0) (v := .pointer (some ⟨w.heap.size + 1 + 1 + 1 + 1, 4, none⟩)) rfl (by kernel_rfl) (by kernel_rfl) (by kernel_rfl) (fun _ _ _ h => h) (Or.inl ⟨by rfl, fun w' hS => ?_⟩) hS0 ?_
  · obtain ⟨s4, s5, s6⟩ := hS
    go_simp
  simp only [List.getElem_toArray, List.getElem_cons_zero, List.getElem_cons_succ, Act.put, List.setIfInBounds_toArray, List.set_cons_zero, List.set_cons_succ]
  refine wpAnyH_take (i := 1) (v := .map (some (w.heap.size + 1))) rfl (by kernel_rfl) (by kernel_rfl) (by kernel_rfl) (fun _ _ _ h => h) (Or.inl ⟨by rfl, fun w' hS => ?_⟩) hS0 ?_
  · obtain ⟨s4, s5, s6⟩ := hS
    go_simp
  simp only [List.getElem_toArray, List.getElem_cons_zero, List.getElem_cons_succ, Act.put, List.setIfInBounds_toArray, List.set_cons_zero, List.set_cons_succ]
  refine wpAnyH_take (i := 3) (v := .pointer (some ⟨w.heap.size + 1 + 1 + 1 + 1, 5, none⟩)) rfl (by kernel_rfl) (by kernel_rfl) (by kernel_rfl) (fun _ _ _ h => h) (Or.inl ⟨by rfl, fun w' hS => ?_⟩) hS0 ?_
  · obtain ⟨s4, s5, s6⟩ := hS
    go_simp
  simp only [List.getElem_toArray, List.getElem_cons_zero, List.getElem_cons_succ, Act.put, List.setIfInBounds_toArray, List.set_cons_zero, List.set_cons_succ]
  refine wpAnyH_take (i := 4) (v := .map (some (w.heap.size + 1 + 1))) rfl (by kernel_rfl) (by kernel_rfl) (by kernel_rfl) (fun _ _ _ h => h) (Or.inl ⟨by rfl, fun w' hS => ?_⟩) hS0 ?_
  · obtain ⟨s4, s5, s6⟩ := hS
    go_simp
  simp only [List.getElem_toArray, List.getElem_cons_zero, List.getElem_cons_succ, Act.put, List.setIfInBounds_toArray, List.set_cons_zero, List.set_cons_succ]
  refine wpAnyH_take (i := 6) (v := .pointer (some ⟨w.heap.size + 1 + 1 + 1 + 1, 6, none⟩)) rfl (by kernel_rfl) (by kernel_rfl) (by kernel_rfl) (fun _ _ _ h => h) (Or.inl ⟨by rfl, fun w' hS => ?_⟩) hS0 ?_
  · obtain ⟨s4, s5, s6⟩ := hS
    go_simp
  simp only [List.getElem_toArray, List.getElem_cons_zero, List.getElem_cons_succ, Act.put, List.setIfInBounds_toArray, List.set_cons_zero, List.set_cons_succ]
  refine wpAnyH_take (i := 7) (v := .map (some (w.heap.size + 1 + 1 + 1))) rfl (by kernel_rfl) (by kernel_rfl) (by kernel_rfl) (fun _ _ _ h => h) (Or.inl ⟨by rfl, fun w' hS => ?_⟩) hS0 ?_
  · obtain ⟨s4, s5, s6⟩ := hS
    go_simp
  simp only [List.getElem_toArray, List.getElem_cons_zero, List.getElem_cons_succ, Act.put, List.setIfInBounds_toArray, List.set_cons_zero, List.set_cons_succ]
  refine wpAnyH_one (i := 2) (by kernel_rfl) rfl (by rfl) (fun K hK => ?_)
  go_simp
  refine (listT_any (w.heap.size + 1) ts _ (by omega) hnT (by exact (unhide mt).kept rfl) hvT).mono ?_
  rintro e w3 ⟨GT, rfl, hGT, bT, rowT⟩
  have hST : w3.cell? ⟨w.heap.size + 1 + 1 + 1 + 1, 4, none⟩ = some (.map (some (w.heap.size + 1))) ∧ w3.cell? ⟨w.heap.size + 1 + 1 + 1 + 1, 5, none⟩ = some (.map (some (w.heap.size + 1 + 1))) ∧ w3.cell? ⟨w.heap.size + 1 + 1 + 1 + 1, 6, none⟩ = some (.map (some (w.heap.size + 1 + 1 + 1))) := ⟨(bT.cell (p := ⟨w.heap.size + 1 + 1 + 1 + 1, 4, none⟩) (World.block_lt_of_cell? _ _ hS0.1)).trans hS0.1, (bT.cell (p := ⟨w.heap.size + 1 + 1 + 1 + 1, 5, none⟩) (World.block_lt_of_cell? _ _ hS0.2.1)).trans hS0.2.1, (bT.cell (p := ⟨w.heap.size + 1 + 1 + 1 + 1, 6, none⟩) (World.block_lt_of_cell? _ _ hS0.2.2)).trans hS0.2.2⟩
  refine hK.out _ _ hST ?_
  clear hK K
  simp only [List.getElem_toArray, List.getElem_cons_zero, List.getElem_cons_succ, Act.put, List.setIfInBounds_toArray, List.set_cons_zero, List.set_cons_succ]
  have mc3 : MapIs w3 90 (w.heap.size + 1 + 1) kvC cs := (unhide mc).kept (bT.block _ (unhide mc).lt)
  refine wpAnyH_one (i := 5) (by kernel_rfl) rfl (by rfl) (fun K hK => ?_)
  go_simp
  refine (listC_any (w.heap.size + 1 + 1) cs w3 (by omega) hnC mc3 hvC).mono ?_
  rintro e w4 ⟨GC, rfl, hGC, bC, rowC⟩
  have hSC : w4.cell? ⟨w.heap.size + 1 + 1 + 1 + 1, 4, none⟩ = some (.map (some (w.heap.size + 1))) ∧ w4.cell? ⟨w.heap.size + 1 + 1 + 1 + 1, 5, none⟩ = some (.map (some (w.heap.size + 1 + 1))) ∧ w4.cell? ⟨w.heap.size + 1 + 1 + 1 + 1, 6, none⟩ = some (.map (some (w.heap.size + 1 + 1 + 1))) := ⟨(bC.cell (p := ⟨w.heap.size + 1 + 1 + 1 + 1, 4, none⟩) (World.block_lt_of_cell? _ _ hST.1)).trans hST.1, (bC.cell (p := ⟨w.heap.size + 1 + 1 + 1 + 1, 5, none⟩) (World.block_lt_of_cell? _ _ hST.2.1)).trans hST.2.1, (bC.cell (p := ⟨w.heap.size + 1 + 1 + 1 + 1, 6, none⟩) (World.block_lt_of_cell? _ _ hST.2.2)).trans hST.2.2⟩
  refine hK.out _ _ hSC ?_
  clear hK K
  simp only [List.getElem_toArray, List.getElem_cons_zero, List.getElem_cons_succ, Act.put, List.setIfInBounds_toArray, List.set_cons_zero, List.set_cons_succ]
  have mp4 : MapIs w4 93 (w.heap.size + 1 + 1 + 1) kvT ps := (unhide mp).kept ((bC.block _ (Nat.lt_of_lt_of_le (unhide mp).lt bT.size)).trans (bT.block _ (unhide mp).lt))
  refine wpAnyH_one (i := 8) (by kernel_rfl) rfl (by rfl) (fun K hK => ?_)
  go_simp
  refine (listP_any (w.heap.size + 1 + 1 + 1) ps w4 (by omega) hnP mp4 hvP).mono ?_
  rintro e w5 ⟨GP, rfl, hGP, bP, rowP⟩
  have hSP : w5.cell? ⟨w.heap.size + 1 + 1 + 1 + 1, 4, none⟩ = some (.map (some (w.heap.size + 1))) ∧ w5.cell? ⟨w.heap.size + 1 + 1 + 1 + 1, 5, none⟩ = some (.map (some (w.heap.size + 1 + 1))) ∧ w5.cell? ⟨w.heap.size + 1 + 1 + 1 + 1, 6, none⟩ = some (.map (some (w.heap.size + 1 + 1 + 1))) := ⟨(bP.cell (p := ⟨w.heap.size + 1 + 1 + 1 + 1, 4, none⟩) (World.block_lt_of_cell? _ _ hSC.1)).trans hSC.1, (bP.cell (p := ⟨w.heap.size + 1 + 1 + 1 + 1, 5, none⟩) (World.block_lt_of_cell? _ _ hSC.2.1)).trans hSC.2.1, (bP.cell (p := ⟨w.heap.size + 1 + 1 + 1 + 1, 6, none⟩) (World.block_lt_of_cell? _ _ hSC.2.2)).trans hSC.2.2⟩
  refine hK.out _ _ hSP ?_
  clear hK K
  simp only [List.getElem_toArray, List.getElem_cons_zero, List.getElem_cons_succ, Act.put, List.setIfInBounds_toArray, List.set_cons_zero, List.set_cons_succ]
  have sT := bT.size
  have sC := bC.size
  have sP := bP.size
  have sT' : w2.heap.size ≤ w3.heap.size := sT
  have hb5 : Below w2.heap.size w2 w5 := (⟨bT.os, bT.tape, bT.output, bT.size, bT.block⟩ : Below w2.heap.size w2 w3).trans ((bC.mono sT').trans (bP.mono (Nat.le_trans sT' sC)))
  have r0' : w5.cell? ⟨w.heap.size, 0, none⟩ = some (.slice none 0 0) := (hb5.cell (p := ⟨w.heap.size, 0, none⟩) (by show w.heap.size < w2.heap.size; omega)).trans r0
  have r1' : w5.cell? ⟨w.heap.size, 1, none⟩ = some (.slice none 0 0) := (hb5.cell (p := ⟨w.heap.size, 1, none⟩) (by show w.heap.size < w2.heap.size; omega)).trans r1
  have r2' : w5.cell? ⟨w.heap.size, 2, none⟩ = some (.slice none 0 0) := (hb5.cell (p := ⟨w.heap.size, 2, none⟩) (by show w.heap.size < w2.heap.size; omega)).trans r2
  have q0' : w5.frozen? ⟨w.heap.size, 0, none⟩ = false := (World.frozen?_of_block (hb5.block _ (by show w.heap.size < w2.heap.size; omega))).trans q0
  have q1' : w5.frozen? ⟨w.heap.size, 1, none⟩ = false := (World.frozen?_of_block (hb5.block _ (by show w.heap.size < w2.heap.size; omega))).trans q1
  have q2' : w5.frozen? ⟨w.heap.size, 2, none⟩ = false := (World.frozen?_of_block (hb5.block _ (by show w.heap.size < w2.heap.size; omega))).trans q2
  refine wpAnyH_one (i := 9) (by kernel_rfl) rfl (by rfl) (fun K hK => ?_)
  go_simp
  refine hK.out _ _ hSP ?_
  clear hK K
  simp only [List.getElem_toArray, List.getElem_cons_zero, List.getElem_cons_succ, Act.put, List.setIfInBounds_toArray, List.set_cons_zero, List.set_cons_succ]
  refine wpAnyH_one (i := 10) (by kernel_rfl) rfl (by rfl) (fun K hK => ?_)
  go_simp
  have hSF : ∀ (a b c : Value), (((w5.setCell ⟨w.heap.size, 0, none⟩ a).setCell ⟨w.heap.size, 1, none⟩ b).setCell ⟨w.heap.size, 2, none⟩ c).cell? ⟨w.heap.size + 1 + 1 + 1 + 1, 4, none⟩ = some (.map (some (w.heap.size + 1))) ∧
      (((w5.setCell ⟨w.heap.size, 0, none⟩ a).setCell ⟨w.heap.size, 1, none⟩ b).setCell ⟨w.heap.size, 2, none⟩ c).cell? ⟨w.heap.size + 1 + 1 + 1 + 1, 5, none⟩ = some (.map (some (w.heap.size + 1 + 1))) ∧
      (((w5.setCell ⟨w.heap.size, 0, none⟩ a).setCell ⟨w.heap.size, 1, none⟩ b).setCell ⟨w.heap.size, 2, none⟩ c).cell? ⟨w.heap.size + 1 + 1 + 1 + 1, 6, none⟩ = some (.map (some (w.heap.size + 1 + 1 + 1))) := fun a b c => by
    have hk : ∀ (u : World) (i j : Nat) (x : Value), (u.setCell ⟨w.heap.size, i, none⟩ x).cell? ⟨w.heap.size + 1 + 1 + 1 + 1, j, none⟩ = u.cell? ⟨w.heap.size + 1 + 1 + 1 + 1, j, none⟩ := fun u i j x => World.cell?_of_block (Below.heap_setCell _ _ _ _ (by show w.heap.size + 1 + 1 + 1 + 1 ≠ w.heap.size; omega))
    simp only [hk]
    exact hSP
  refine hK.out _ _ (hSF _ _ _) ?_
  clear hK K
  simp only [List.getElem_toArray, List.getElem_cons_zero, List.getElem_cons_succ, Act.put, List.setIfInBounds_toArray, List.set_cons_zero, List.set_cons_succ]
  refine wpAnyH_one (i := 11) (by kernel_rfl) rfl (by rfl) (fun K hK => ?_)
  go_simp
  refine hK.out _ _ (hSF _ _ _) ?_
  clear hK K
  simp only [List.getElem_toArray, List.getElem_cons_zero, List.getElem_cons_succ, Act.put, List.setIfInBounds_toArray, List.set_cons_zero, List.set_cons_succ]
  refine wpAnyH_one (i := 12) (by kernel_rfl) rfl (by rfl) (fun K hK => ?_)
  go_simp
  refine hK.out _ _ (hSF _ _ _) (wpAnyH_done (by kernel_rfl) ?_ _)
  clear hK K
  go_wp2_with fail
  have hbw : Below w.heap.size w w5 := (res_below k3).trans (hb5.mono (by omega))
  refine bodyPost_ret (v := .tuple #[fv GT GC GP ts.length cs.length ps.length, .int .i64 0, .int .i64 0]) (by simp [results, Tryz.results30, go_sem, fv, r0', r1', r2']) rfl ⟨GT, GC, GP, rfl, ?_, ?_⟩
  · exact ((hbw.setCell (Nat.le_refl _) _).setCell (Nat.le_refl _) _).setCell (Nat.le_refl _) _
  · have gT : w.heap.size + 1 ≤ w2.heap.size := by omega
    have g3 : w.heap.size + 1 ≤ w3.heap.size := by omega
    have g4 : w.heap.size + 1 ≤ w4.heap.size := by omega
    refine ⟨row_put (row_put (row_put (row_base (row_lift (row_lift rowT bC (Nat.le_refl _)) bP (Nat.le_refl _)) gT) (by omega)) (by omega)) (by omega),
      row_put (row_put (row_put (row_base (row_lift rowC bP (Nat.le_refl _)) g3) (by omega)) (by omega)) (by omega), row_put (row_put (row_put (row_base rowP g4) (by omega)) (by omega)) (by omega)⟩
end

end Go.Proofs.YthcppbmkacbbiaaGreat
