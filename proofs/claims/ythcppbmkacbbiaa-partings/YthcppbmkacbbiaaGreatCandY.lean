import Derived.Test.YthcppbmkacbbiaaGreatCandX
import Derived.Test.YthcppbmkacbbiaaGreatRdnM
namespace Go.Proofs.YthcppbmkacbbiaaGreat
open Go.RowKit Go.Maps Go.WideMaps
open Rdg (Key put)

theorem ctx_length (ts : List Key) (cs : List (Int × Nat)) : (ctx ts cs).length = cs.length := by simp [ctx]

theorem join_sp (T : List (List UInt8)) (bk cap : Nat) (w : World) (hT : T.length ≤ 10) (hcap : T.length ≤ cap) (hlen : (spc T).length ≤ 2000) (hbk : bk < w.heap.size) (hcells : ∀ j (hj : j < T.length), w.cell? ⟨bk, j, none⟩ = some (str T[j])) :
    Calls Tryz.prog 101 #[.slice (some ⟨bk, 0, none⟩) T.length cap, .string ⟨#[32]⟩] w fun e w' => e = .returned (.string ⟨(spc T).toArray⟩) ∧ Below w.heap.size w w' := by
  have e1 : (T.map (fun t => (⟨t.toArray⟩ : ByteArray))).map (·.data.toList) = T := by simp [List.map_map, Function.comp_def]
  have e2 : (T.map (fun t => (⟨t.toArray⟩ : ByteArray))).length = T.length := by simp
  have h := Tryz.strings_Join bk 0 cap (T.map (fun t => (⟨t.toArray⟩ : ByteArray))) ⟨#[32]⟩ w (fun j x hx => by
    rw [List.getElem?_map] at hx
    by_cases hj : j < T.length
    · rw [List.getElem?_eq_getElem hj] at hx
      simp at hx
      subst hx
      rw [Nat.zero_add]; exact hcells j hj
    · rw [List.getElem?_eq_none (by omega)] at hx; simp at hx) hbk (by omega) (by omega) (by rw [e1]; exact Nat.le_trans hlen (by omega))
  rw [e1, e2] at h
  exact h

theorem tx_below' {b : Nat} {w wr W2 w4 : World} {G : Nat} (hb : Below b w wr) (hg : wr.grownBy W2 none) (r2 : W2.grownBy w4 (some G)) (hG : b ≤ G) (hbs : b ≤ w.heap.size := by first | exact Nat.le_refl _ | omega) : Below b w w4 :=
  (hb.grown hg (Nat.le_trans hbs hb.size) (fun k e => by cases e)).grown r2 (Nat.le_trans hbs (Nat.le_trans hb.size hg.size)) (fun k e => by cases e; exact hG)

set_option linter.unusedSimpArgs false in
set_option maxRecDepth 100000 in
set_option maxHeartbeats 1000000 in
theorem text_any (GT GC GP np : Nat) (ts : List Key) (cs : List (Int × Nat)) (w : World) (hl : ts.length ≤ 7) (hrt : RowsT w GT ts) (hrc : RowsC w GC cs) (hi : Rdg.Inv ts) (HLEN : ∀ i, ((Rdg.texts ts).getD i []).length ≤ 100)
    (hlc : cs.length ≤ 4) (hic : Rdg.InvC ts cs) (HLENC : ∀ t ∈ ctx ts cs, t.length ≤ 100) :
    Calls Tryz.prog 57 #[fv GT GC GP ts.length cs.length np] w fun e w' => e = .returned (str (spc (Rdg.texts ts) ++ 47 :: spc (ctx ts cs))) ∧ Below w.heap.size w w' := by
  obtain ⟨wb, hwb⟩ : ∃ wb, w.alloc (.cells #[.slice (some ⟨GT, 0, none⟩) ts.length ts.length, .slice (some ⟨GC, 0, none⟩) cs.length cs.length, .slice (some ⟨GP, 0, none⟩) np np] 54) = wb := ⟨_, rfl⟩
  have hbb : Below w.heap.size w wb := by rw [← hwb]; exact (Below.refl _ w).alloc (Nat.le_refl _) _
  have hsb : wb.heap.size = w.heap.size + 1 := by rw [← hwb]; simp
  have hcb : wb.cell? ⟨w.heap.size, 1, none⟩ = some (.slice (some ⟨GC, 0, none⟩) cs.length cs.length) := by rw [← hwb]; simp [go_sem]
  have HTT := hide (termTexts_any GT GC GP cs.length np ts wb hl (hrt.below hbb hrt.1) hi HLEN)
  have hrcb := hrc.below hbb hrc.1
  have HIC := hide hic
  have HRC := hide hrcb
  have HSB := hide hsb
  have hlC : GC < w.heap.size := hrc.1
  clear hrt hrc hi hic hrcb hsb
  unfold fv at HTT ⊢
  rw [← hwb] at HTT
  have HWB := hide hwb
  clear hwb
  go_enter Tryz.func57, Tryz.ntmps57
  go_wp2_with fail
  refine (unhide HTT).mono ?_
  rw [unhide HWB]
  rintro e wt ⟨G1, rfl, hG1a, hG1b, hbt, hcy⟩
  have hsb := unhide HSB
  obtain ⟨i0, hin, hz0, hz1, hz2⟩ := info_parts infoS
  obtain ⟨w1, hmk, hrow, hg1⟩ := run_make_own (P := Tryz.prog) wt wt.heap.size 116 9 i0 (.string ⟨#[]⟩) 1 Tryz.underlying116 hin hz0 hz1 .i64 .i64 cs.length (by rw [hz2]; omega) (by unfold maxLen; omega) (Nat.le_refl _)
  have hct : wt.cell? ⟨w.heap.size, 1, none⟩ = some (.slice (some ⟨GC, 0, none⟩) cs.length cs.length) := (hbt.cell (p := ⟨w.heap.size, 1, none⟩) (by show w.heap.size < wb.heap.size; omega)).trans hcb
  have hc1 : w1.cell? ⟨w.heap.size, 1, none⟩ = some (.slice (some ⟨GC, 0, none⟩) cs.length cs.length) := hg1.cell hct (by simp)
  have hb1 : Below wt.heap.size wt w1 := ⟨hg1.os, hg1.tape, hg1.output, hg1.size, fun j hj => hg1.block j hj (by simp)⟩
  have hbw : Below w.heap.size w wt := hbb.trans (hbt.mono (by omega))
  have HCY := hide hcy
  have hst : w.heap.size + 1 ≤ wt.heap.size := by have := hbt.size; omega
  have HRT2 : Hid (RowsC wt GC cs) := (unhide HRC).below hbt (by omega)
  clear hcy HTT hsb hcb
  go_wp2_with fail
  have hrow0 : w1.ownsRow 0 9 1 (.slice (some ⟨wt.heap.size, 0, none⟩) 0 cs.length) 0 [] := row_base hrow (Nat.zero_le _)
  clear hmk hrow
  go_loopw [4, 16] (fun t i wr => ∃ k : Nat, k ≤ cs.length ∧ i = .int .i64 k ∧ t = .slice (some ⟨wt.heap.size, 0, none⟩) k cs.length ∧ wr.ownsRow 0 9 1 (.slice (some ⟨wt.heap.size, 0, none⟩) k cs.length) k (((ctx ts cs).take k).map str) ∧ Below wt.heap.size wt wr) (fun _ i _ => cs.length - (intOf i).toNat)
  case atStart => exact ⟨0, Nat.zero_le _, rfl, rfl, hrow0, hb1⟩
  case round =>
    obtain ⟨k, hk, rfl, rfl, hrw, hb⟩ := hrel
    by_cases hlt : k < cs.length
    · have hbd : (k : Int) < (cs.length : Int) := by omega
      obtain ⟨c0, c1⟩ := ((unhide HRT2).below hb (by omega)).2 k hlt
      have hfit : k + 1 ≤ cs.length := hlt
      have hok : Rdg.okC ts.length cs[k] := (unhide HIC) _ (List.getElem_mem hlt)
      have htx : (ctx ts cs).getD k [] = Rdg.rendC (Rdg.texts ts) cs[k] := by simp [ctx, List.getD_eq_getElem?_getD, hlt]
      have hts : ((ctx ts cs).take (k + 1)).map str = ((ctx ts cs).take k).map str ++ [str ((ctx ts cs).getD k [])] := by
        have hk' : k < (ctx ts cs).length := by rw [ctx_length]; exact hlt
        rw [List.take_add_one, List.getElem?_eq_getElem hk', List.map_append, List.getD_eq_getElem?_getD, List.getElem?_eq_getElem hk']; rfl
      have HTX := hide htx
      have HTS := hide hts
      have hap : Hid (∀ W2 : World, wr.grownBy W2 none → W2.ownsRow 0 9 1 (.slice (some ⟨wt.heap.size, 0, none⟩) k cs.length) k (((ctx ts cs).take k).map str)) := fun W2 h => hrw.kept h (Or.inr (by simp [Value.ownBlock]))
      have hGr : wt.heap.size < wr.heap.size := (hrw.lt wt.heap.size rfl).2
      clear htx hts
      generalize cs[k] = key at c0 c1 hok HTX
      obtain ⟨kl, kf⟩ := key
      simp only at c0 c1
      obtain ⟨h8, hkf⟩ := hok
      simp only at h8 hkf
      have g4 : ((kf : Nat) : Int) < (ts.length : Int) := by omega
      have cG : wr.cell? ⟨G1, kf, none⟩ = some (str ((Rdg.texts ts).getD kf [])) := (hb.cell (p := ⟨G1, kf, none⟩) hG1b).trans (unhide HCY kf hkf)
      have hlt1 : ((Rdg.texts ts).getD kf []).length ≤ 100 := HLEN kf
      rcases h8 with rfl | rfl
      · have htx2 : Rdg.rendC (Rdg.texts ts) (80, kf) = appl 80 [(Rdg.texts ts).getD kf []] := by simp [appl, Rdg.rendC, Lib.join_one]
        rw [htx2] at HTX
        clear htx2
        generalize (Rdg.texts ts).getD kf [] = t1 at HTX cG hlt1
        unfold str at cG
        have HAP : Hid (∀ (W : World) (n : Nat), W.heap.size = n → Calls Tryz.prog 100 #[.int .u8 80, .slice (some ⟨n, 0, none⟩) 1 1] (W.alloc (.cells #[.string ⟨t1.toArray⟩] 9)) fun e w' => e = .returned (str (appl 80 [t1])) ∧ W.grownBy w' none) := fun W n hn => by
          subst hn
          have h := applied_any 80 (by decide) [t1] W.heap.size 1 (W.alloc (.cells #[.string ⟨t1.toArray⟩] 9)) (by simp) (by simp) (by rw [Lib.join_one]; omega) (by simp) (fun j hj => by
            obtain rfl : j = 0 := by simp at hj; omega
            simp [go_sem, str])
          exact h.mono fun e w' ⟨h1, h2⟩ => ⟨h1, ⟨h2.os, h2.tape, h2.output, Nat.le_trans (by simp) h2.size, fun q hq _ => (h2.block q (by simp; omega)).trans (Below.heap_alloc W _ q hq)⟩⟩
        generalize appl 80 [t1] = tn at HTX HAP
        go_wp2_with fail
        have hga : wr.grownBy (wr.alloc (.cells #[.int .u8 80, .int .i64 kf] 90)) none := World.grownBy_alloc _ _ none
        refine wp_region_held (S := fun W' => W'.cell? ⟨wr.heap.size, 0, none⟩ = some (.int .u8 80) ∧ W'.cell? ⟨wr.heap.size, 1, none⟩ = some (.int .i64 kf) ∧ W'.cell? ⟨G1, kf, none⟩ = some (.string ⟨t1.toArray⟩)) rfl ?_
        obtain ⟨W1, hW1⟩ : ∃ W1, wr.alloc (.cells #[.int .u8 80, .int .i64 kf] 90) = W1 := ⟨_, rfl⟩
        have hS0 : W1.drew.cell? ⟨wr.heap.size, 0, none⟩ = some (.int .u8 80) ∧ W1.drew.cell? ⟨wr.heap.size, 1, none⟩ = some (.int .i64 kf) ∧ W1.drew.cell? ⟨G1, kf, none⟩ = some (.string ⟨t1.toArray⟩) := by
          rw [← hW1]
          exact ⟨by simp [go_sem], by simp [go_sem], hga.cell cG (by simp)⟩
        have hg1 : wr.grownBy W1.drew none := by rw [← hW1]; exact ⟨rfl, rfl, rfl, by simp, fun j hj _ => Below.heap_alloc _ _ _ hj⟩
        rw [hW1] at hga ⊢
        clear hW1
        change wpAnyH Tryz.prog .any _ _ _ 13 #[false, false, false, false, false, false, false, false, false, false, false, false, false] _ W1.drew
        refine wpAnyH_take (i := 0) (v := .slice (some ⟨wt.heap.size, 0, none⟩) k cs.length) rfl (by kernel_rfl) (by kernel_rfl) (by kernel_rfl) (fun _ _ _ h => h) (Or.inl ⟨by rfl, fun w' hS => ?_⟩) hS0 ?_
        · obtain ⟨s1, s2, s3⟩ := hS
          go_simp
        simp only [List.getElem_toArray, List.getElem_cons_zero, List.getElem_cons_succ, Act.put, List.setIfInBounds_toArray, List.set_cons_zero, List.set_cons_succ]
        refine wpAnyH_take (i := 1) (v := .pointer (some ⟨wr.heap.size, 0, none⟩)) rfl (by kernel_rfl) (by kernel_rfl) (by kernel_rfl) (fun _ _ _ h => h) (Or.inl ⟨by rfl, fun w' hS => ?_⟩) hS0 ?_
        · obtain ⟨s1, s2, s3⟩ := hS
          go_simp
        simp only [List.getElem_toArray, List.getElem_cons_zero, List.getElem_cons_succ, Act.put, List.setIfInBounds_toArray, List.set_cons_zero, List.set_cons_succ]
        refine wpAnyH_take (i := 2) (v := .int .u8 80) rfl (by kernel_rfl) (by kernel_rfl) (by kernel_rfl) (fun _ _ _ h => h) (Or.inl ⟨by rfl, fun w' hS => ?_⟩) hS0 ?_
        · obtain ⟨s1, s2, s3⟩ := hS
          go_simp
        simp only [List.getElem_toArray, List.getElem_cons_zero, List.getElem_cons_succ, Act.put, List.setIfInBounds_toArray, List.set_cons_zero, List.set_cons_succ]
        refine wpAnyH_take (i := 3) (v := .slice (some ⟨G1, 0, none⟩) ts.length ts.length) rfl (by kernel_rfl) (by kernel_rfl) (by kernel_rfl) (fun _ _ _ h => h) (Or.inl ⟨by rfl, fun w' hS => ?_⟩) hS0 ?_
        · obtain ⟨s1, s2, s3⟩ := hS
          go_simp
        simp only [List.getElem_toArray, List.getElem_cons_zero, List.getElem_cons_succ, Act.put, List.setIfInBounds_toArray, List.set_cons_zero, List.set_cons_succ]
        refine wpAnyH_take (i := 4) (v := .pointer (some ⟨wr.heap.size, 1, none⟩)) rfl (by kernel_rfl) (by kernel_rfl) (by kernel_rfl) (fun _ _ _ h => h) (Or.inl ⟨by rfl, fun w' hS => ?_⟩) hS0 ?_
        · obtain ⟨s1, s2, s3⟩ := hS
          go_simp
        simp only [List.getElem_toArray, List.getElem_cons_zero, List.getElem_cons_succ, Act.put, List.setIfInBounds_toArray, List.set_cons_zero, List.set_cons_succ]
        refine wpAnyH_take (i := 5) (v := .int .i64 kf) rfl (by kernel_rfl) (by kernel_rfl) (by kernel_rfl) (fun _ _ _ h => h) (Or.inl ⟨by rfl, fun w' hS => ?_⟩) hS0 ?_
        · obtain ⟨s1, s2, s3⟩ := hS
          go_simp
        simp only [List.getElem_toArray, List.getElem_cons_zero, List.getElem_cons_succ, Act.put, List.setIfInBounds_toArray, List.set_cons_zero, List.set_cons_succ]
        refine wpAnyH_take (i := 6) (v := .pointer (some ⟨G1, kf, none⟩)) rfl (by kernel_rfl) (by kernel_rfl) (by kernel_rfl) (fun _ _ _ h => h) (Or.inl ⟨by rfl, fun w' hS => ?_⟩) hS0 ?_
        · obtain ⟨s1, s2, s3⟩ := hS
          go_simp
        simp only [List.getElem_toArray, List.getElem_cons_zero, List.getElem_cons_succ, Act.put, List.setIfInBounds_toArray, List.set_cons_zero, List.set_cons_succ]
        refine wpAnyH_take (i := 7) (v := .string ⟨t1.toArray⟩) rfl (by kernel_rfl) (by kernel_rfl) (by kernel_rfl) (fun _ _ _ h => h) (Or.inl ⟨by rfl, fun w' hS => ?_⟩) hS0 ?_
        · obtain ⟨s1, s2, s3⟩ := hS
          go_simp
        simp only [List.getElem_toArray, List.getElem_cons_zero, List.getElem_cons_succ, Act.put, List.setIfInBounds_toArray, List.set_cons_zero, List.set_cons_succ]
        have hSt : Hid (∀ W' : World, W1.drew.grownBy W' none → W'.cell? ⟨wr.heap.size, 0, none⟩ = some (.int .u8 80) ∧ W'.cell? ⟨wr.heap.size, 1, none⟩ = some (.int .i64 kf) ∧ W'.cell? ⟨G1, kf, none⟩ = some (.string ⟨t1.toArray⟩)) := fun W' hg => ⟨hg.cell hS0.1 (by simp), hg.cell hS0.2.1 (by simp), hg.cell hS0.2.2 (by simp)⟩
        refine wpAnyH_one (i := 8) (by kernel_rfl) rfl (by rfl) (fun K hK => ?_)
        go_simp
        refine hK.out _ _ (unhide hSt _ (World.grownBy_alloc W1.drew (.cells #[.string ⟨t1.toArray⟩] 9) none)) ?_
        clear hK K
        simp only [List.getElem_toArray, List.getElem_cons_zero, List.getElem_cons_succ, Act.put, List.setIfInBounds_toArray, List.set_cons_zero, List.set_cons_succ]
        refine wpAnyH_one (i := 9) (by kernel_rfl) rfl (by rfl) (fun K hK => ?_)
        go_simp
        refine (unhide HAP W1.drew _ rfl).mono ?_
        rintro e w3 ⟨rfl, hg3⟩
        refine hK.out _ _ (unhide hSt _ hg3) ?_
        clear hK K HAP
        unfold str
        simp only [List.getElem_toArray, List.getElem_cons_zero, List.getElem_cons_succ, Act.put, List.setIfInBounds_toArray, List.set_cons_zero, List.set_cons_succ]
        refine wpAnyH_one (i := 10) (by kernel_rfl) rfl (by rfl) (fun K hK => ?_)
        go_simp
        have hg4 : W1.drew.grownBy (w3.alloc (.cells #[.string ⟨tn.toArray⟩] 9)) none := hg3.trans (World.grownBy_alloc _ _ none)
        refine hK.out _ _ (unhide hSt _ hg4) ?_
        clear hK K
        simp only [List.getElem_toArray, List.getElem_cons_zero, List.getElem_cons_succ, Act.put, List.setIfInBounds_toArray, List.set_cons_zero, List.set_cons_succ]
        have hg5 : wr.grownBy (w3.alloc (.cells #[.string ⟨tn.toArray⟩] 9)) none := hg1.trans hg4
        refine wpAnyH_one (i := 11) (by kernel_rfl) rfl (by rfl) (fun K hK => ?_)
        refine step_fits (.tmp 20) (.tmp 30) 116 rfl 0 9 i0 1 Tryz.underlying116 hin hz1 _ _ _ _ rfl (unhide hap _ hg5) _ 1 1 [str tn] rfl rfl (news_at _ _ _ _ rfl) (one_str _) hfit ?_
        intro w4 r1 r2
        have q0 := unhide hSt _ hg4
        have hne : wr.heap.size ≠ wt.heap.size := by omega
        have hne2 : G1 ≠ wt.heap.size := by omega
        have hS4 : w4.cell? ⟨wr.heap.size, 0, none⟩ = some (.int .u8 80) ∧ w4.cell? ⟨wr.heap.size, 1, none⟩ = some (.int .i64 kf) ∧ w4.cell? ⟨G1, kf, none⟩ = some (.string ⟨t1.toArray⟩) := ⟨r2.cell q0.1 (by simpa using hne), r2.cell q0.2.1 (by simpa using hne), r2.cell q0.2.2 (by simpa using hne2)⟩
        refine hK.out _ _ hS4 ?_
        clear hK K
        simp only [List.getElem_toArray, List.getElem_cons_zero, List.getElem_cons_succ, Act.put, List.setIfInBounds_toArray, List.set_cons_zero, List.set_cons_succ]
        refine wpAnyH_one (i := 12) (by kernel_rfl) rfl (by rfl) (fun K hK => ?_)
        go_simp
        refine hK.out _ _ hS4 (wpAnyH_done (by kernel_rfl) ?_ _)
        clear hK K
        go_wp2_with fail
        exact ⟨⟨k + 1, hfit, by go_num, rfl, by rw [unhide HTS, unhide HTX]; exact r1, tx_below' hb hg5 r2 (Nat.le_refl _)⟩, by simp [intOf]; omega⟩
      · have htx2 : Rdg.rendC (Rdg.texts ts) (81, kf) = appl 81 [(Rdg.texts ts).getD kf []] := by simp [appl, Rdg.rendC, Lib.join_one]
        rw [htx2] at HTX
        clear htx2
        generalize (Rdg.texts ts).getD kf [] = t1 at HTX cG hlt1
        unfold str at cG
        have HAP : Hid (∀ (W : World) (n : Nat), W.heap.size = n → Calls Tryz.prog 100 #[.int .u8 81, .slice (some ⟨n, 0, none⟩) 1 1] (W.alloc (.cells #[.string ⟨t1.toArray⟩] 9)) fun e w' => e = .returned (str (appl 81 [t1])) ∧ W.grownBy w' none) := fun W n hn => by
          subst hn
          have h := applied_any 81 (by decide) [t1] W.heap.size 1 (W.alloc (.cells #[.string ⟨t1.toArray⟩] 9)) (by simp) (by simp) (by rw [Lib.join_one]; omega) (by simp) (fun j hj => by
            obtain rfl : j = 0 := by simp at hj; omega
            simp [go_sem, str])
          exact h.mono fun e w' ⟨h1, h2⟩ => ⟨h1, ⟨h2.os, h2.tape, h2.output, Nat.le_trans (by simp) h2.size, fun q hq _ => (h2.block q (by simp; omega)).trans (Below.heap_alloc W _ q hq)⟩⟩
        generalize appl 81 [t1] = tn at HTX HAP
        go_wp2_with fail
        have hga : wr.grownBy (wr.alloc (.cells #[.int .u8 81, .int .i64 kf] 90)) none := World.grownBy_alloc _ _ none
        refine wp_region_held (S := fun W' => W'.cell? ⟨wr.heap.size, 0, none⟩ = some (.int .u8 81) ∧ W'.cell? ⟨wr.heap.size, 1, none⟩ = some (.int .i64 kf) ∧ W'.cell? ⟨G1, kf, none⟩ = some (.string ⟨t1.toArray⟩)) rfl ?_
        obtain ⟨W1, hW1⟩ : ∃ W1, wr.alloc (.cells #[.int .u8 81, .int .i64 kf] 90) = W1 := ⟨_, rfl⟩
        have hS0 : W1.drew.cell? ⟨wr.heap.size, 0, none⟩ = some (.int .u8 81) ∧ W1.drew.cell? ⟨wr.heap.size, 1, none⟩ = some (.int .i64 kf) ∧ W1.drew.cell? ⟨G1, kf, none⟩ = some (.string ⟨t1.toArray⟩) := by
          rw [← hW1]
          exact ⟨by simp [go_sem], by simp [go_sem], hga.cell cG (by simp)⟩
        have hg1 : wr.grownBy W1.drew none := by rw [← hW1]; exact ⟨rfl, rfl, rfl, by simp, fun j hj _ => Below.heap_alloc _ _ _ hj⟩
        rw [hW1] at hga ⊢
        clear hW1
        change wpAnyH Tryz.prog .any _ _ _ 13 #[false, false, false, false, false, false, false, false, false, false, false, false, false] _ W1.drew
        refine wpAnyH_take (i := 0) (v := .slice (some ⟨wt.heap.size, 0, none⟩) k cs.length) rfl (by kernel_rfl) (by kernel_rfl) (by kernel_rfl) (fun _ _ _ h => h) (Or.inl ⟨by rfl, fun w' hS => ?_⟩) hS0 ?_
        · obtain ⟨s1, s2, s3⟩ := hS
          go_simp
        simp only [List.getElem_toArray, List.getElem_cons_zero, List.getElem_cons_succ, Act.put, List.setIfInBounds_toArray, List.set_cons_zero, List.set_cons_succ]
        refine wpAnyH_take (i := 1) (v := .pointer (some ⟨wr.heap.size, 0, none⟩)) rfl (by kernel_rfl) (by kernel_rfl) (by kernel_rfl) (fun _ _ _ h => h) (Or.inl ⟨by rfl, fun w' hS => ?_⟩) hS0 ?_
        · obtain ⟨s1, s2, s3⟩ := hS
          go_simp
        simp only [List.getElem_toArray, List.getElem_cons_zero, List.getElem_cons_succ, Act.put, List.setIfInBounds_toArray, List.set_cons_zero, List.set_cons_succ]
        refine wpAnyH_take (i := 2) (v := .int .u8 81) rfl (by kernel_rfl) (by kernel_rfl) (by kernel_rfl) (fun _ _ _ h => h) (Or.inl ⟨by rfl, fun w' hS => ?_⟩) hS0 ?_
        · obtain ⟨s1, s2, s3⟩ := hS
          go_simp
        simp only [List.getElem_toArray, List.getElem_cons_zero, List.getElem_cons_succ, Act.put, List.setIfInBounds_toArray, List.set_cons_zero, List.set_cons_succ]
        refine wpAnyH_take (i := 3) (v := .slice (some ⟨G1, 0, none⟩) ts.length ts.length) rfl (by kernel_rfl) (by kernel_rfl) (by kernel_rfl) (fun _ _ _ h => h) (Or.inl ⟨by rfl, fun w' hS => ?_⟩) hS0 ?_
        · obtain ⟨s1, s2, s3⟩ := hS
          go_simp
        simp only [List.getElem_toArray, List.getElem_cons_zero, List.getElem_cons_succ, Act.put, List.setIfInBounds_toArray, List.set_cons_zero, List.set_cons_succ]
        refine wpAnyH_take (i := 4) (v := .pointer (some ⟨wr.heap.size, 1, none⟩)) rfl (by kernel_rfl) (by kernel_rfl) (by kernel_rfl) (fun _ _ _ h => h) (Or.inl ⟨by rfl, fun w' hS => ?_⟩) hS0 ?_
        · obtain ⟨s1, s2, s3⟩ := hS
          go_simp
        simp only [List.getElem_toArray, List.getElem_cons_zero, List.getElem_cons_succ, Act.put, List.setIfInBounds_toArray, List.set_cons_zero, List.set_cons_succ]
        refine wpAnyH_take (i := 5) (v := .int .i64 kf) rfl (by kernel_rfl) (by kernel_rfl) (by kernel_rfl) (fun _ _ _ h => h) (Or.inl ⟨by rfl, fun w' hS => ?_⟩) hS0 ?_
        · obtain ⟨s1, s2, s3⟩ := hS
          go_simp
        simp only [List.getElem_toArray, List.getElem_cons_zero, List.getElem_cons_succ, Act.put, List.setIfInBounds_toArray, List.set_cons_zero, List.set_cons_succ]
        refine wpAnyH_take (i := 6) (v := .pointer (some ⟨G1, kf, none⟩)) rfl (by kernel_rfl) (by kernel_rfl) (by kernel_rfl) (fun _ _ _ h => h) (Or.inl ⟨by rfl, fun w' hS => ?_⟩) hS0 ?_
        · obtain ⟨s1, s2, s3⟩ := hS
          go_simp
        simp only [List.getElem_toArray, List.getElem_cons_zero, List.getElem_cons_succ, Act.put, List.setIfInBounds_toArray, List.set_cons_zero, List.set_cons_succ]
        refine wpAnyH_take (i := 7) (v := .string ⟨t1.toArray⟩) rfl (by kernel_rfl) (by kernel_rfl) (by kernel_rfl) (fun _ _ _ h => h) (Or.inl ⟨by rfl, fun w' hS => ?_⟩) hS0 ?_
        · obtain ⟨s1, s2, s3⟩ := hS
          go_simp
        simp only [List.getElem_toArray, List.getElem_cons_zero, List.getElem_cons_succ, Act.put, List.setIfInBounds_toArray, List.set_cons_zero, List.set_cons_succ]
        have hSt : Hid (∀ W' : World, W1.drew.grownBy W' none → W'.cell? ⟨wr.heap.size, 0, none⟩ = some (.int .u8 81) ∧ W'.cell? ⟨wr.heap.size, 1, none⟩ = some (.int .i64 kf) ∧ W'.cell? ⟨G1, kf, none⟩ = some (.string ⟨t1.toArray⟩)) := fun W' hg => ⟨hg.cell hS0.1 (by simp), hg.cell hS0.2.1 (by simp), hg.cell hS0.2.2 (by simp)⟩
        refine wpAnyH_one (i := 8) (by kernel_rfl) rfl (by rfl) (fun K hK => ?_)
        go_simp
        refine hK.out _ _ (unhide hSt _ (World.grownBy_alloc W1.drew (.cells #[.string ⟨t1.toArray⟩] 9) none)) ?_
        clear hK K
        simp only [List.getElem_toArray, List.getElem_cons_zero, List.getElem_cons_succ, Act.put, List.setIfInBounds_toArray, List.set_cons_zero, List.set_cons_succ]
        refine wpAnyH_one (i := 9) (by kernel_rfl) rfl (by rfl) (fun K hK => ?_)
        go_simp
        refine (unhide HAP W1.drew _ rfl).mono ?_
        rintro e w3 ⟨rfl, hg3⟩
        refine hK.out _ _ (unhide hSt _ hg3) ?_
        clear hK K HAP
        unfold str
        simp only [List.getElem_toArray, List.getElem_cons_zero, List.getElem_cons_succ, Act.put, List.setIfInBounds_toArray, List.set_cons_zero, List.set_cons_succ]
        refine wpAnyH_one (i := 10) (by kernel_rfl) rfl (by rfl) (fun K hK => ?_)
        go_simp
        have hg4 : W1.drew.grownBy (w3.alloc (.cells #[.string ⟨tn.toArray⟩] 9)) none := hg3.trans (World.grownBy_alloc _ _ none)
        refine hK.out _ _ (unhide hSt _ hg4) ?_
        clear hK K
        simp only [List.getElem_toArray, List.getElem_cons_zero, List.getElem_cons_succ, Act.put, List.setIfInBounds_toArray, List.set_cons_zero, List.set_cons_succ]
        have hg5 : wr.grownBy (w3.alloc (.cells #[.string ⟨tn.toArray⟩] 9)) none := hg1.trans hg4
        refine wpAnyH_one (i := 11) (by kernel_rfl) rfl (by rfl) (fun K hK => ?_)
        refine step_fits (.tmp 20) (.tmp 30) 116 rfl 0 9 i0 1 Tryz.underlying116 hin hz1 _ _ _ _ rfl (unhide hap _ hg5) _ 1 1 [str tn] rfl rfl (news_at _ _ _ _ rfl) (one_str _) hfit ?_
        intro w4 r1 r2
        have q0 := unhide hSt _ hg4
        have hne : wr.heap.size ≠ wt.heap.size := by omega
        have hne2 : G1 ≠ wt.heap.size := by omega
        have hS4 : w4.cell? ⟨wr.heap.size, 0, none⟩ = some (.int .u8 81) ∧ w4.cell? ⟨wr.heap.size, 1, none⟩ = some (.int .i64 kf) ∧ w4.cell? ⟨G1, kf, none⟩ = some (.string ⟨t1.toArray⟩) := ⟨r2.cell q0.1 (by simpa using hne), r2.cell q0.2.1 (by simpa using hne), r2.cell q0.2.2 (by simpa using hne2)⟩
        refine hK.out _ _ hS4 ?_
        clear hK K
        simp only [List.getElem_toArray, List.getElem_cons_zero, List.getElem_cons_succ, Act.put, List.setIfInBounds_toArray, List.set_cons_zero, List.set_cons_succ]
        refine wpAnyH_one (i := 12) (by kernel_rfl) rfl (by rfl) (fun K hK => ?_)
        go_simp
        refine hK.out _ _ hS4 (wpAnyH_done (by kernel_rfl) ?_ _)
        clear hK K
        go_wp2_with fail
        exact ⟨⟨k + 1, hfit, by go_num, rfl, by rw [unhide HTS, unhide HTX]; exact r1, tx_below' hb hg5 r2 (Nat.le_refl _)⟩, by simp [intOf]; omega⟩
    · have hkk : k = cs.length := by omega
      have HKK := hide hkk
      clear hkk
      have hbd : ¬ (k : Int) < (cs.length : Int) := by omega
      have hkk := unhide HKK
      have hcX : ∀ j (hj : j < (ctx ts cs).length), wr.cell? ⟨wt.heap.size, j, none⟩ = some (str (ctx ts cs)[j]) := fun j hj => by
        rw [ctx_length] at hj
        rw [hrw.cellAt j (by omega)]
        simp [hj, ctx_length, hkk]
      have hcT : ∀ j (hj : j < (Rdg.texts ts).length), wr.cell? ⟨G1, j, none⟩ = some (str (Rdg.texts ts)[j]) := fun j hj => by
        have h1 := (hb.cell (p := ⟨G1, j, none⟩) hG1b).trans (unhide HCY j (by rw [Rdg.texts_length] at hj; exact hj))
        rw [h1]; simp [List.getD_eq_getElem?_getD, hj]
      have hlT : (spc (Rdg.texts ts)).length ≤ 1000 := by
        have h := spc_len (Rdg.texts ts) (fun t ht => by obtain ⟨j, hj, rfl⟩ := List.getElem_of_mem ht; have h := HLEN j; simpa [List.getD_eq_getElem?_getD, hj] using h) (Rdg.texts ts).length (Nat.le_refl _)
        rw [List.take_length, Rdg.texts_length] at h; omega
      have hlC2 : (spc (ctx ts cs)).length ≤ 1000 := by
        have h := spc_len (ctx ts cs) HLENC (ctx ts cs).length (Nat.le_refl _)
        rw [List.take_length, ctx_length] at h; omega
      have hGr : wt.heap.size < wr.heap.size := (hrw.lt wt.heap.size rfl).2
      have HJ1 : Hid (Calls Tryz.prog 101 #[.slice (some ⟨G1, 0, none⟩) ts.length ts.length, .string ⟨#[32]⟩] wr fun e w' => e = .returned (.string ⟨(spc (Rdg.texts ts)).toArray⟩) ∧ Below wr.heap.size wr w') := by
        have h := join_sp (Rdg.texts ts) G1 ts.length wr (by rw [Rdg.texts_length]; omega) (by rw [Rdg.texts_length]; exact Nat.le_refl _) (by omega) (by omega) hcT
        rw [Rdg.texts_length] at h
        exact h
      have HJ2 : Hid (∀ w3, Below wr.heap.size wr w3 → Calls Tryz.prog 101 #[.slice (some ⟨wt.heap.size, 0, none⟩) cs.length cs.length, .string ⟨#[32]⟩] w3 fun e w' => e = .returned (.string ⟨(spc (ctx ts cs)).toArray⟩) ∧ Below wr.heap.size wr w') := fun w3 h3 => by
        have h := join_sp (ctx ts cs) wt.heap.size cs.length w3 (by rw [ctx_length]; omega) (by rw [ctx_length]; exact Nat.le_refl _) (by omega) (Nat.lt_of_lt_of_le hGr h3.size) (fun j hj => (h3.cell (p := ⟨wt.heap.size, j, none⟩) hGr).trans (hcX j hj))
        rw [ctx_length] at h
        exact h.mono fun e w' ⟨h1, h2⟩ => ⟨h1, h3.trans (h2.mono h3.size)⟩
      clear hcX hcT
      obtain ⟨xT, hxT⟩ : ∃ xT, spc (Rdg.texts ts) = xT := ⟨_, rfl⟩
      obtain ⟨xC, hxC⟩ : ∃ xC, spc (ctx ts cs) = xC := ⟨_, rfl⟩
      rw [hxT] at HJ1 hlT
      rw [hxC] at HJ2 hlC2
      have HXT := hide hxT
      have HXC := hide hxC
      clear hxT hxC
      subst hkk
      go_wp2_with fail
      refine (unhide HJ1).mono ?_
      rintro e w3 ⟨rfl, hb3⟩
      go_wp2_with fail
      refine (unhide HJ2 _ hb3).mono ?_
      rintro e w5 ⟨rfl, hb5⟩
      go_wp2_with fail
      go_ret
      refine ⟨?_, ?_⟩
      · rw [unhide HXT, unhide HXC]
        have e47 : (⟨#[47]⟩ : ByteArray) = ⟨[47].toArray⟩ := rfl
        have e : (⟨xT.toArray⟩ ++ ⟨#[47]⟩ ++ ⟨xC.toArray⟩ : ByteArray) = ⟨(xT ++ 47 :: xC).toArray⟩ := by rw [e47, ba_append, ba_append]; simp
        exact congrArg (fun b => Ending.returned (.string b)) e
      · have hbW : Below w.heap.size w wr := hbw.trans (hb.mono (by omega))
        exact hbW.trans (hb5.mono hbW.size)

end Go.Proofs.YthcppbmkacbbiaaGreat
