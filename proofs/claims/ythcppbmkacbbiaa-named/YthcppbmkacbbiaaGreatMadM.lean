import Derived.Test.YthcppbmkacbbiaaGreatAlkTM
import Derived.Test.YthcppbmkacbbiaaGreatCandR
import Derived.Test.YthcppbmkacbbiaaGreatClsM
import Derived.RangeFuncBox
namespace Go.Proofs.YthcppbmkacbbiaaGreat
open Go.RowKit Go.Maps Go.WideMaps
open Rdg (Key put)

attribute [local go_sem] Oper.semAt_some

/-- What the terms are made of, by classes. -/
def mkd (f : Nat → Nat) (ts : List Key) : List Key := ts.map fun k => (k.1, f k.2.1, f k.2.2)
theorem mkd_length (f : Nat → Nat) (ts : List Key) : (mkd f ts).length = ts.length := by simp [mkd]

theorem newsT_at (w : World) (a : Int) (b c : Nat) (t : TypeId) (n : Nat) (hn : w.heap.size = n) : ∀ j u, (ecT (a, b, c))[j]? = some u → (w.alloc (.cells #[.int .u8 a, .int .i64 b, .int .i64 c] t)).cell? ((⟨n, 0, none⟩ : Addr).add j) = some u := by
  subst hn
  exact newsT w a b c t

/-- What lies while made goes through the terms. -/
structure MG (w : World) (b : Nat) (f : Nat → Nat) (n c : Nat) (W : World) : Prop where
  m : CMap W b f n c
  below : Below w.heap.size w W

theorem MG.grow {w : World} {b n c : Nat} {f : Nat → Nat} {W W' : World} {row : Option Nat} (h : MG w b f n c W) (hg : W.grownBy W' row) (hr : ∀ r, row = some r → r ≠ b ∧ w.heap.size ≤ r) : MG w b f n c W' :=
  ⟨h.m.kept (hg.block b h.m.lt (fun e => (hr b e.symm).1 rfl)), h.below.grown hg h.below.size (fun k e => (hr k e).2)⟩

set_option linter.unusedSimpArgs false in
set_option maxRecDepth 100000 in
set_option maxHeartbeats 2000000 in
theorem made_any (GT GC GP nc np b c : Nat) (f : Nat → Nat) (ts : List Key) (w : World) (hl : ts.length ≤ 7) (hrt : RowsT w GT ts) (hi : Rdg.Inv ts) (hf : ∀ i, i < ts.length → f i ≤ i ∧ f (f i) = f i) (hM : CMap w b f ts.length c) :
    Calls Tryz.prog 79 #[fv GT GC GP ts.length nc np, .map (some b)] w fun e w' => ∃ G, e = .returned (.slice (some ⟨G, 0, none⟩) ts.length ts.length) ∧ w.heap.size ≤ G ∧ RowsT w' G (mkd f ts) ∧ Below w.heap.size w w' := by
  refine (callsIn_wide (n := 5)).1 ?_
  unfold fv
  obtain ⟨wb, hwb⟩ : ∃ wb, w.alloc (.cells #[.slice (some ⟨GT, 0, none⟩) ts.length ts.length, .slice (some ⟨GC, 0, none⟩) nc nc, .slice (some ⟨GP, 0, none⟩) np np] 54) = wb := ⟨_, rfl⟩
  have hsb : wb.heap.size = w.heap.size + 1 := by rw [← hwb]; simp
  have hgb : w.grownBy wb none := by rw [← hwb]; exact World.grownBy_alloc _ _ none
  have hbb : Below w.heap.size w wb := ⟨hgb.os, hgb.tape, hgb.output, hgb.size, fun j hj => hgb.block j hj (by simp)⟩
  have hc0 : wb.cell? ⟨w.heap.size, 0, none⟩ = some (.slice (some ⟨GT, 0, none⟩) ts.length ts.length) := by rw [← hwb]; simp [go_sem]
  obtain ⟨i0, hin, hz0, hz1, hz2⟩ := info_parts infoT
  obtain ⟨w1, hmk, hrow, hg1⟩ := run_make_own (P := Tryz.prog) wb wb.heap.size 50 87 i0 _ 3 Tryz.underlying50 hin hz0 hz1 .i64 .i64 ts.length (by rw [hz2]; omega) (by unfold maxLen; omega) (Nat.le_refl _)
  have hb1 : Below w.heap.size w w1 := hbb.trans ⟨hg1.os, hg1.tape, hg1.output, hg1.size, fun j hj => hg1.block j (by omega) (by simp)⟩
  have hltB := hM.lt
  have hlG := hrt.1
  have hCG1 : MG w b f ts.length c w1 := ⟨(hM.kept (hgb.block b hltB (by simp))).kept (hg1.block b (by omega) (by simp)), hb1⟩
  have hk0 : w1.cell? ⟨w.heap.size, 0, none⟩ = some (.slice (some ⟨GT, 0, none⟩) ts.length ts.length) := hg1.cell hc0 (by simp)
  have hlt1 : w.heap.size + 1 < w1.heap.size := by have h := (hrow.lt wb.heap.size rfl).2; omega
  have HSB := hide hsb
  rw [hsb] at hrow
  have hmk' : Hid _ := hmk
  have HI := hide hi
  have HRT := hide hrt
  have HF := hide hf
  have HWB := hide hwb
  rw [← hwb] at hmk
  have hszb : (w.alloc (.cells #[.slice (some ⟨GT, 0, none⟩) ts.length ts.length, .slice (some ⟨GC, 0, none⟩) nc nc, .slice (some ⟨GP, 0, none⟩) np np] 54)).heap.size = w.heap.size + 1 := by simp
  rw [hszb] at hmk
  clear hmk' hwb hi hrt hf hsb hszb hgb hc0 hg1 hM
  refine callsIn_of_wp_marks Tryz.func79 rfl trivial ?_ rfl
  simp only [Tryz.ntmps79, List.size_toArray, List.length_cons, List.length_nil, Nat.reduceAdd, Nat.reduceSub, Array.replicate_succ, Array.replicate_zero, List.push_toArray, List.append_toArray, List.nil_append, List.cons_append]
  gi_wp2
  have hrow0 : w1.ownsRow 0 87 3 (.slice (some ⟨w.heap.size + 1, 0, none⟩) 0 ts.length) 0 [] := row_base hrow (Nat.zero_le _)
  clear hmk hrow hk0
  gi_loopw [5, 15] (fun t i wr => ∃ k : Nat, k ≤ ts.length ∧ i = .int .i64 k ∧ t = .slice (some ⟨w.heap.size + 1, 0, none⟩) k ts.length ∧ wr.ownsRow 0 87 3 (.slice (some ⟨w.heap.size + 1, 0, none⟩) k ts.length) k (((mkd f ts).flatMap ecT).take (k * 3)) ∧ MG w b f ts.length c wr) (fun _ i _ => ts.length - (intOf i).toNat)
  case atStart => exact ⟨0, Nat.zero_le _, rfl, rfl, by rw [Nat.zero_mul, List.take_zero]; exact hrow0, hCG1⟩
  case round =>
    obtain ⟨k, hk, rfl, rfl, hrw, hcg⟩ := hrel
    by_cases hlt : k < ts.length
    · have hbd : (k : Int) < (ts.length : Int) := by omega
      obtain ⟨c0, c1, c2⟩ := ((unhide HRT).below hcg.below hlG).2 k hlt
      have hfit : k + 1 ≤ ts.length := hlt
      have hkey := (unhide HI).key k hlt
      have hb1' : ts[k].2.1 < ts.length ∧ ts[k].2.2 < ts.length := by
        rcases hkey with ⟨_, _, h3, h4⟩ | ⟨_, h2, h3⟩ | ⟨_, h2, h3⟩ <;> omega
      have htk := take_flat ecT_len (mkd f ts) k (by rw [mkd_length]; exact hlt)
      have hmk : (mkd f ts)[k]'(by rw [mkd_length]; exact hlt) = (ts[k].1, f ts[k].2.1, f ts[k].2.2) := by simp [mkd]
      rw [hmk] at htk
      have hap : Hid (∀ W2 : World, wr.grownBy W2 none → W2.ownsRow 0 87 3 (.slice (some ⟨w.heap.size + 1, 0, none⟩) k ts.length) k (((mkd f ts).flatMap ecT).take (k * 3))) := fun W2 h => hrw.kept h (Or.inr (by simp [Value.ownBlock]))
      have hGr : w.heap.size + 1 < wr.heap.size := (hrw.lt (w.heap.size + 1) rfl).2
      have HTK := hide htk
      have hcb := hide hcg
      clear htk hmk hkey hrw
      generalize ts[k] = key at c0 c1 c2 hb1' HTK
      obtain ⟨tl, tf, tsd⟩ := key
      simp only at c0 c1 c2 hb1' HTK
      obtain ⟨hb1, hb2⟩ := hb1'
      have HF1 := hide ((unhide HF) tf hb1)
      have HF2 := hide ((unhide HF) tsd hb2)
      have hof : ∀ W2 : World, wr.grownBy W2 none → Calls Tryz.prog 82 #[.map (some b), .int .i64 tf] W2 fun e w' => e = .returned (.int .i64 (f tf)) ∧ w' = W2 := fun W2 h => of_any W2 b ts.length c f tf ((unhide hcb).m.kept (h.block b (unhide hcb).m.lt (by simp))) hb1 (by omega) (unhide HF1).1 (unhide HF1).2
      have hof2 : ∀ W2 : World, wr.grownBy W2 none → Calls Tryz.prog 82 #[.map (some b), .int .i64 tsd] W2 fun e w' => e = .returned (.int .i64 (f tsd)) ∧ w' = W2 := fun W2 h => of_any W2 b ts.length c f tsd ((unhide hcb).m.kept (h.block b (unhide hcb).m.lt (by simp))) hb2 (by omega) (unhide HF2).1 (unhide HF2).2
      have HO1 := hide hof
      have HO2 := hide hof2
      clear hof hof2 hcg
      generalize f tf = x1 at HO1 HTK
      generalize f tsd = x2 at HO2 HTK
      gi_wp2
      · refine wpIn_norm ?_
        have hga : wr.grownBy (wr.alloc (.cells #[.int .u8 tl, .int .i64 tf, .int .i64 tsd] 87)) none := World.grownBy_alloc _ _ none
        obtain ⟨W1, hW1⟩ : ∃ W1, wr.alloc (.cells #[.int .u8 tl, .int .i64 tf, .int .i64 tsd] 87) = W1 := ⟨_, rfl⟩
        have hS0 : W1.drew.cell? ⟨wr.heap.size, 0, none⟩ = some (.int .u8 tl) ∧ W1.drew.cell? ⟨wr.heap.size, 1, none⟩ = some (.int .i64 tf) ∧ W1.drew.cell? ⟨wr.heap.size, 2, none⟩ = some (.int .i64 tsd) := by
          rw [← hW1]
          exact ⟨by simp [go_sem], by simp [go_sem], by simp [go_sem]⟩
        have hg1 : wr.grownBy W1.drew none := by rw [← hW1]; exact ⟨rfl, rfl, rfl, by simp, fun j hj _ => Below.heap_alloc _ _ _ hj⟩
        rw [hW1] at hga ⊢
        clear hW1
        refine region_outH (fun W' => W'.cell? ⟨wr.heap.size, 0, none⟩ = some (.int .u8 tl) ∧ W'.cell? ⟨wr.heap.size, 1, none⟩ = some (.int .i64 tf) ∧ W'.cell? ⟨wr.heap.size, 2, none⟩ = some (.int .i64 tsd)) 15 #[false, false, false, false, false, false, false, false, false, false, false, false, false, false, false] (by kernel_rfl) rfl rfl ?_
        refine wpAnyH_take (i := 0) (v := .slice (some ⟨w.heap.size + 1, 0, none⟩) k ts.length) rfl (by kernel_rfl) (by kernel_rfl) (by kernel_rfl) (fun _ _ _ h => (by cases h.1)) (Or.inl ⟨by rfl, fun w' hS => ?_⟩) hS0 ?_
        · obtain ⟨s1, s2, s3⟩ := hS
          go_simp
        simp only [List.getElem_toArray, List.getElem_cons_zero, List.getElem_cons_succ, Act.put, List.setIfInBounds_toArray, List.set_cons_zero, List.set_cons_succ]
        refine wpAnyH_take (i := 1) (v := .pointer (some ⟨wr.heap.size, 0, none⟩)) rfl (by kernel_rfl) (by kernel_rfl) (by kernel_rfl) (fun _ _ _ h => (by cases h.1)) (Or.inl ⟨by rfl, fun w' hS => ?_⟩) hS0 ?_
        · obtain ⟨s1, s2, s3⟩ := hS
          go_simp
        simp only [List.getElem_toArray, List.getElem_cons_zero, List.getElem_cons_succ, Act.put, List.setIfInBounds_toArray, List.set_cons_zero, List.set_cons_succ]
        refine wpAnyH_take (i := 2) (v := .int .u8 tl) rfl (by kernel_rfl) (by kernel_rfl) (by kernel_rfl) (fun _ _ _ h => (by cases h.1)) (Or.inl ⟨by rfl, fun w' hS => ?_⟩) hS0 ?_
        · obtain ⟨s1, s2, s3⟩ := hS
          go_simp
        simp only [List.getElem_toArray, List.getElem_cons_zero, List.getElem_cons_succ, Act.put, List.setIfInBounds_toArray, List.set_cons_zero, List.set_cons_succ]
        refine wpAnyH_take (i := 3) (v := .map (some b)) rfl (by kernel_rfl) (by kernel_rfl) (by kernel_rfl) (fun _ _ _ h => (by cases h.1)) (Or.inl ⟨by rfl, fun w' hS => ?_⟩) hS0 ?_
        · obtain ⟨s1, s2, s3⟩ := hS
          go_simp
        simp only [List.getElem_toArray, List.getElem_cons_zero, List.getElem_cons_succ, Act.put, List.setIfInBounds_toArray, List.set_cons_zero, List.set_cons_succ]
        refine wpAnyH_take (i := 4) (v := .pointer (some ⟨wr.heap.size, 1, none⟩)) rfl (by kernel_rfl) (by kernel_rfl) (by kernel_rfl) (fun _ _ _ h => (by cases h.1)) (Or.inl ⟨by rfl, fun w' hS => ?_⟩) hS0 ?_
        · obtain ⟨s1, s2, s3⟩ := hS
          go_simp
        simp only [List.getElem_toArray, List.getElem_cons_zero, List.getElem_cons_succ, Act.put, List.setIfInBounds_toArray, List.set_cons_zero, List.set_cons_succ]
        refine wpAnyH_take (i := 5) (v := .int .i64 tf) rfl (by kernel_rfl) (by kernel_rfl) (by kernel_rfl) (fun _ _ _ h => (by cases h.1)) (Or.inl ⟨by rfl, fun w' hS => ?_⟩) hS0 ?_
        · obtain ⟨s1, s2, s3⟩ := hS
          go_simp
        simp only [List.getElem_toArray, List.getElem_cons_zero, List.getElem_cons_succ, Act.put, List.setIfInBounds_toArray, List.set_cons_zero, List.set_cons_succ]
        refine wpAnyH_take (i := 7) (v := .map (some b)) rfl (by kernel_rfl) (by kernel_rfl) (by kernel_rfl) (fun _ _ _ h => (by cases h.1)) (Or.inl ⟨by rfl, fun w' hS => ?_⟩) hS0 ?_
        · obtain ⟨s1, s2, s3⟩ := hS
          go_simp
        simp only [List.getElem_toArray, List.getElem_cons_zero, List.getElem_cons_succ, Act.put, List.setIfInBounds_toArray, List.set_cons_zero, List.set_cons_succ]
        refine wpAnyH_take (i := 8) (v := .pointer (some ⟨wr.heap.size, 2, none⟩)) rfl (by kernel_rfl) (by kernel_rfl) (by kernel_rfl) (fun _ _ _ h => (by cases h.1)) (Or.inl ⟨by rfl, fun w' hS => ?_⟩) hS0 ?_
        · obtain ⟨s1, s2, s3⟩ := hS
          go_simp
        simp only [List.getElem_toArray, List.getElem_cons_zero, List.getElem_cons_succ, Act.put, List.setIfInBounds_toArray, List.set_cons_zero, List.set_cons_succ]
        refine wpAnyH_take (i := 9) (v := .int .i64 tsd) rfl (by kernel_rfl) (by kernel_rfl) (by kernel_rfl) (fun _ _ _ h => (by cases h.1)) (Or.inl ⟨by rfl, fun w' hS => ?_⟩) hS0 ?_
        · obtain ⟨s1, s2, s3⟩ := hS
          go_simp
        simp only [List.getElem_toArray, List.getElem_cons_zero, List.getElem_cons_succ, Act.put, List.setIfInBounds_toArray, List.set_cons_zero, List.set_cons_succ]
        have hSt : Hid (∀ W' : World, W1.drew.grownBy W' none → W'.cell? ⟨wr.heap.size, 0, none⟩ = some (.int .u8 tl) ∧ W'.cell? ⟨wr.heap.size, 1, none⟩ = some (.int .i64 tf) ∧ W'.cell? ⟨wr.heap.size, 2, none⟩ = some (.int .i64 tsd)) := fun W' hg => ⟨hg.cell hS0.1 (by simp), hg.cell hS0.2.1 (by simp), hg.cell hS0.2.2 (by simp)⟩
        refine wpAnyH_one (i := 6) (by kernel_rfl) rfl (by rfl) (fun K hK => ?_)
        go_simp
        refine (unhide HO1 _ hg1).mono ?_
        rintro e w2 ⟨rfl, rfl⟩
        refine hK.out _ _ hS0 ?_
        clear hK K
        simp only [List.getElem_toArray, List.getElem_cons_zero, List.getElem_cons_succ, Act.put, List.setIfInBounds_toArray, List.set_cons_zero, List.set_cons_succ]
        refine wpAnyH_one (i := 10) (by kernel_rfl) rfl (by rfl) (fun K hK => ?_)
        go_simp
        refine (unhide HO2 _ hg1).mono ?_
        rintro e w2 ⟨rfl, rfl⟩
        refine hK.out _ _ hS0 ?_
        clear hK K
        simp only [List.getElem_toArray, List.getElem_cons_zero, List.getElem_cons_succ, Act.put, List.setIfInBounds_toArray, List.set_cons_zero, List.set_cons_succ]
        refine wpAnyH_one (i := 11) (by kernel_rfl) rfl (by rfl) (fun K hK => ?_)
        go_simp
        refine hK.out _ _ hS0 ?_
        clear hK K
        simp only [List.getElem_toArray, List.getElem_cons_zero, List.getElem_cons_succ, Act.put, List.setIfInBounds_toArray, List.set_cons_zero, List.set_cons_succ]
        refine wpAnyH_one (i := 12) (by kernel_rfl) rfl (by rfl) (fun K hK => ?_)
        go_simp
        have hg4 : W1.drew.grownBy (W1.drew.alloc (.cells #[.int .u8 tl, .int .i64 x1, .int .i64 x2] 87)) none := World.grownBy_alloc _ _ none
        refine hK.out _ _ (unhide hSt _ hg4) ?_
        clear hK K
        simp only [List.getElem_toArray, List.getElem_cons_zero, List.getElem_cons_succ, Act.put, List.setIfInBounds_toArray, List.set_cons_zero, List.set_cons_succ]
        have hg5 := hg1.trans hg4
        refine wpAnyH_one (i := 13) (by kernel_rfl) rfl (by rfl) (fun K hK => ?_)
        refine step_fits (.tmp 19) (.tmp 31) 50 rfl 0 87 i0 3 Tryz.underlying50 hin hz1 _ _ _ _ rfl (unhide hap _ hg5) _ 1 1 (ecT (tl, x1, x2)) rfl rfl (newsT_at _ _ _ _ _ _ rfl) (oneT _) hfit ?_
        intro w4 r1 r2
        have q0 := unhide hSt _ hg4
        have hne : wr.heap.size ≠ w.heap.size + 1 := by omega
        have hS4 : w4.cell? ⟨wr.heap.size, 0, none⟩ = some (.int .u8 tl) ∧ w4.cell? ⟨wr.heap.size, 1, none⟩ = some (.int .i64 tf) ∧ w4.cell? ⟨wr.heap.size, 2, none⟩ = some (.int .i64 tsd) := ⟨r2.cell q0.1 (by simpa using hne), r2.cell q0.2.1 (by simpa using hne), r2.cell q0.2.2 (by simpa using hne)⟩
        refine hK.out _ _ hS4 ?_
        clear hK K
        simp only [List.getElem_toArray, List.getElem_cons_zero, List.getElem_cons_succ, Act.put, List.setIfInBounds_toArray, List.set_cons_zero, List.set_cons_succ]
        refine wpAnyH_one (i := 14) (by kernel_rfl) rfl (by rfl) (fun K hK => ?_)
        go_simp
        refine hK.out _ _ hS4 (wpAnyH_done (by kernel_rfl) ⟨rfl, ?_⟩ _)
        clear hK K
        gi_wp2
        exact ⟨⟨k + 1, hfit, by go_num, rfl, by rw [unhide HTK]; exact r1, ((unhide hcb).grow hg5 (fun r e => by cases e)).grow r2 (fun r e => by cases e; exact ⟨by omega, by omega⟩)⟩, by simp [intOf]; omega⟩
    · have hkk : k = ts.length := by omega
      have hbd : ¬ (k : Int) < (ts.length : Int) := by omega
      subst hkk
      have hfl : ((mkd f ts).flatMap ecT).take (ts.length * 3) = (mkd f ts).flatMap ecT := List.take_of_length_le (by rw [flat_len ecT_len, mkd_length]; exact Nat.le_refl _)
      rw [hfl] at hrw
      have hrt2 : RowsT wr (w.heap.size + 1) (mkd f ts) := by
        refine ⟨(hrw.lt (w.heap.size + 1) rfl).2, fun i hi => ?_⟩
        have hi' : i < ts.length := by rw [mkd_length] at hi; exact hi
        have hcc : ∀ c, c < 3 → wr.cell? ⟨w.heap.size + 1, i * 3 + c, none⟩ = (ecT (mkd f ts)[i])[c]? := fun c hc => by
          rw [hrw.cellAt (i * 3 + c) (by omega)]
          exact flat_get (k := 3) (fun _ => rfl) (by decide) (mkd f ts) i hi c hc
        exact ⟨hcc 0 (by decide), hcc 1 (by decide), hcc 2 (by decide)⟩
      have hbel := hcg.below
      clear hfl hrw hcg
      gi_wp2
      refine ⟨_, results_tmp rfl _ _ _, w.heap.size + 1, rfl, by omega, hrt2, hbel⟩

end Go.Proofs.YthcppbmkacbbiaaGreat

namespace Go.Proofs.YthcppbmkacbbiaaGreat
open Go.RowKit Go.Maps Go.WideMaps
open Rdg (Key put)

attribute [local go_sem] Oper.semAt_some

/-- What lies while congruent goes through its pairs. -/
structure CG (w : World) (X1 X2 b : Nat) (f : Nat → Nat) (n c : Nat) (v : Bool) (W : World) : Prop where
  x1 : W.cell? ⟨X1, 0, none⟩ = some (.map (some b))
  x2 : W.cell? ⟨X2, 0, none⟩ = some (.bool v)
  f2 : W.frozen? ⟨X2, 0, none⟩ = false
  m : CMap W b f n c
  below : Below w.heap.size w W

theorem CG.keep {w : World} {X1 X2 b n c : Nat} {f : Nat → Nat} {v : Bool} {W W' : World} {row : Option Nat} {B : Nat} (h : CG w X1 X2 b f n c v W) (hg : W.grownBy W' row) (hb : b < B) (hw : w.heap.size ≤ B)
    (hr : ∀ r, row = some r → B ≤ r ∧ ∃ o : Obj, W.heap[r]? = some o ∧ o.isCells = false) : CG w X1 X2 b f n c v W' := by
  have hr' : ∀ r, row = some r → ∃ o : Obj, W.heap[r]? = some o ∧ o.isCells = false := fun r e => (hr r e).2
  exact ⟨cell_own h.x1 hg hr', cell_own h.x2 hg hr', (frozen_own h.x2 hg hr').trans h.f2, h.m.kept (hg.block _ h.m.lt (fun e => by have := (hr b e.symm).1; omega)), ownFrom_below (β := Unit) (Nat.le_refl _) hw () W W' row h.below hg hr⟩

theorem CG.grow {w : World} {X1 X2 b n c : Nat} {f : Nat → Nat} {v : Bool} {W W' : World} {row : Option Nat} (h : CG w X1 X2 b f n c v W) (hg : W.grownBy W' row) (hr : ∀ r, row = some r → r ≠ X1 ∧ r ≠ X2 ∧ r ≠ b ∧ w.heap.size ≤ r) : CG w X1 X2 b f n c v W' :=
  ⟨hg.cell h.x1 (fun e => (hr X1 e.symm).1 rfl), hg.cell h.x2 (fun e => (hr X2 e.symm).2.1 rfl), (World.frozen?_of_block (hg.block X2 (World.block_lt_of_cell? W _ h.x2) (fun e => (hr X2 e.symm).2.1 rfl))).trans h.f2,
   h.m.kept (hg.block b h.m.lt (fun e => (hr b e.symm).2.2.1 rfl)), h.below.grown hg h.below.size (fun k e => (hr k e).2.2.2)⟩

theorem CG.set {w : World} {X1 X2 b n c : Nat} {f : Nat → Nat} {v : Bool} {W : World} (h : CG w X1 X2 b f n c v W) (v' : Bool) (h1 : X1 ≠ X2) (h2 : b ≠ X2) (h3 : w.heap.size ≤ X2) : CG w X1 X2 b f n c v' (W.setCell ⟨X2, 0, none⟩ (.bool v')) :=
  ⟨(World.cell?_of_block (Below.heap_setCell _ _ _ _ h1)).trans h.x1, cell_same _ h.x2, by rw [World.frozen?_setCell]; exact h.f2, h.m.kept (Below.heap_setCell _ _ _ _ h2), h.below.setCell h3 _⟩

set_option linter.unusedSimpArgs false in
set_option maxRecDepth 100000 in
set_option maxHeartbeats 2000000 in
theorem congruent_any (GT GC GP nc np b c : Nat) (f : Nat → Nat) (ts : List Key) (w : World) (hl : ts.length ≤ 7) (hrt : RowsT w GT ts) (hi : Rdg.Inv ts) (hf : ∀ i, i < ts.length → f i ≤ i ∧ f (f i) = f i) (hM : CMap w b f ts.length c) :
    Calls Tryz.prog 48 #[fv GT GC GP ts.length nc np, .map (some b)] w fun e w' => e = .returned (.bool (decide (∀ p ∈ prs (mkd f ts) ts.length, f p.1 = f p.2))) ∧ Below w.heap.size w w' := by
  refine (callsIn_wide (n := 5)).1 ?_
  have HMD : Hid (∀ W : World, Below w.heap.size w W → Calls Tryz.prog 79 #[fv GT GC GP ts.length nc np, .map (some b)] W fun e w' => ∃ G, e = .returned (.slice (some ⟨G, 0, none⟩) ts.length ts.length) ∧ W.heap.size ≤ G ∧ RowsT w' G (mkd f ts) ∧ Below W.heap.size W w') := fun W h =>
    made_any GT GC GP nc np b c f ts W hl (hrt.below h hrt.1) hi hf (hM.kept (h.block b hM.lt))
  unfold fv at HMD ⊢
  refine callsIn_of_wp_marks Tryz.func48 rfl trivial ?_ rfl
  simp only [Tryz.ntmps48, List.size_toArray, List.length_cons, List.length_nil, Nat.reduceAdd, Nat.reduceSub, Array.replicate_succ, Array.replicate_zero, List.push_toArray, List.append_toArray, List.nil_append, List.cons_append]
  gi_wp2
  obtain ⟨wb, hwb⟩ : ∃ wb, ((w.alloc (.cells #[.slice (some ⟨GT, 0, none⟩) ts.length ts.length, .slice (some ⟨GC, 0, none⟩) nc nc, .slice (some ⟨GP, 0, none⟩) np np] 54)).alloc (.cells #[.map (some b)] 98)).alloc (.cells #[.bool false] 4) = wb := ⟨_, rfl⟩
  have hsb : wb.heap.size = w.heap.size + 3 := by rw [← hwb]; simp
  have hgb : w.grownBy wb none := by rw [← hwb]; exact ((World.grownBy_alloc _ _ none).trans (World.grownBy_alloc _ _ none)).trans (World.grownBy_alloc _ _ none)
  have hbb : Below w.heap.size w wb := ⟨hgb.os, hgb.tape, hgb.output, hgb.size, fun j hj => hgb.block j hj (by simp)⟩
  have hc1 : wb.cell? ⟨w.heap.size + 1, 0, none⟩ = some (.map (some b)) := by rw [← hwb]; simp [go_sem]
  have hc2 : wb.cell? ⟨w.heap.size + 1 + 1, 0, none⟩ = some (.bool false) := by rw [← hwb]; simp [go_sem]
  have hf2 : wb.frozen? ⟨w.heap.size + 1 + 1, 0, none⟩ = false := by rw [← hwb]; simp [go_sem]
  have hltB := hM.lt
  have hcgb : CG w (w.heap.size + 1) (w.heap.size + 1 + 1) b f ts.length c false wb := ⟨hc1, hc2, hf2, hM.kept (hgb.block b hltB (by simp)), hbb⟩
  rw [hwb]
  have hsb' : w.heap.size + 3 ≤ wb.heap.size := by omega
  have HI := hide hi
  have HF := hide hf
  clear hwb hgb hc1 hc2 hf2 hi hf hM hrt hsb
  refine ⟨trivial, (callsIn_wide.2 (unhide HMD wb hbb)).mono ?_⟩
  rintro e wr ⟨G, rfl, hGle, hrt2, hb1⟩
  have hgr : wb.grownBy wr none := ⟨hb1.os, hb1.tape, hb1.output, hb1.size, fun j hj _ => hb1.block j hj⟩
  have hcg := hcgb.grow hgr (fun r e => by cases e)
  have hwr : wb.heap.size ≤ wr.heap.size := hb1.size
  have HR2 := hide hrt2
  have hcb := hide hcg
  have hbe := hide hbb
  clear hrt2 hcg hcgb hgr hb1 hbb HMD
  gi_wp2
  refine ⟨trivial, (callsIn_wide.2 (alikeT_any (some ⟨G, 0, none⟩) ts.length ts.length wr)).mono ?_⟩
  rintro e w2 ⟨rfl, rfl⟩
  gi_wp2
  obtain ⟨w2, hw2⟩ : ∃ w2, wr.alloc (.cells #[.slice (some ⟨G, 0, none⟩) ts.length ts.length] 50) = w2 := ⟨_, rfl⟩
  have hg2 : wr.grownBy w2 none := by rw [← hw2]; exact World.grownBy_alloc _ _ none
  have hs2 : w2.heap.size = wr.heap.size + 1 := by rw [← hw2]; simp
  have hX2 : w2.cell? ⟨wr.heap.size, 0, none⟩ = some (.slice (some ⟨G, 0, none⟩) ts.length ts.length) := by rw [← hw2]; simp [go_sem]
  have hcg2 := (unhide hcb).grow hg2 (fun r e => by cases e)
  have hvm : ∀ x ∈ mkd f ts, ∃ l, keyOf Tryz.prog 87 (kvT x) = some l := by
    intro x hx
    obtain ⟨q, hq, rfl⟩ := List.mem_map.1 hx
    obtain ⟨i, hi, rfl⟩ := List.getElem_of_mem hq
    have hkey := (unhide HI).key i hi
    have hb' : ts[i].2.1 < ts.length ∧ ts[i].2.2 < ts.length ∧ 0 ≤ ts[i].1 ∧ ts[i].1 ≤ 255 := by
      rcases hkey with ⟨_, _, h3, h4⟩ | ⟨_, h2, h3⟩ | ⟨_, h2, h3⟩ <;> omega
    have e1 := (unhide HF _ hb'.1).1
    have e2 := (unhide HF _ hb'.2.1).1
    exact keyT _ (by simp; omega) (by simp; omega) (by simp; omega)
  have hrt3 : RowsT w2 (G) (mkd f ts) := (unhide HR2).same (hg2.block _ (unhide HR2).1 (by simp))
  have hltr : G < wr.heap.size := (unhide HR2).1
  have hseq := alikiT_all 4 (by omega) wr.heap.size (G) ts.length w2.heap.size (mkd f ts) w2 (Nat.le_refl _) (by rw [mkd_length]; omega) (by rw [mkd_length]; exact hX2) hrt3 hvm
  rw [mkd_length] at hseq
  rw [hw2]
  have hs2a : wr.heap.size + 1 ≤ w2.heap.size := by omega
  clear hw2 hX2 hrt3 hvm hs2 HR2
  have hbw2 : w.heap.size ≤ w2.heap.size := hcg2.below.size
  have HP : Hid (∀ p ∈ (prs (mkd f ts) ts.length), p.1 < ts.length ∧ p.2 < ts.length) := fun p hp => by
    have h := (prs_mem (mkd f ts) ts.length (by rw [mkd_length]; exact Nat.le_refl _) p).1 hp
    exact ⟨by omega, h.1⟩
  have hI0 : CG w (w.heap.size + 1) (w.heap.size + 1 + 1) b f ts.length c false w2 ∧ Hid (∀ p ∈ (prs (mkd f ts) ts.length).take 0, f p.1 = f p.2) := ⟨hcg2, fun p hp => by simp at hp⟩
  have hown : OwnFrom w2.heap.size (fun (k : Nat) W => CG w (w.heap.size + 1) (w.heap.size + 1 + 1) b f ts.length c false W ∧ Hid (∀ p ∈ (prs (mkd f ts) ts.length).take k, f p.1 = f p.2)) := fun k W W' row h hg hr => ⟨h.1.keep hg (B := w2.heap.size) (by omega) hbw2 hr, h.2⟩
  have hownx : OwnFrom w2.heap.size (fun (_ : Unit) W => CG w (w.heap.size + 1) (w.heap.size + 1 + 1) b f ts.length c false W ∧ Hid (∃ p ∈ (prs (mkd f ts) ts.length), f p.1 ≠ f p.2)) := fun k W W' row h hg hr => ⟨h.1.keep hg (B := w2.heap.size) (by omega) hbw2 hr, h.2⟩
  refine wpIn_rangeFunc_seqx rfl (by omega) rfl trivial (fun _ _ => by simp [go_sem]) hseq KA.trans ?_ (Below.refl _ _) ?_ _ (fun W => CG w (w.heap.size + 1) (w.heap.size + 1 + 1) b f ts.length c false W ∧ Hid (∃ p ∈ (prs (mkd f ts) ts.length), f p.1 ≠ f p.2)) hown hownx hI0
    (fun k a' W => ∃ hk : k < (prs (mkd f ts) ts.length).length, a' = { tmps := #[.agg #[.slice (some ⟨GT, 0, none⟩) ts.length ts.length, .slice (some ⟨GC, 0, none⟩) nc nc, .slice (some ⟨GP, 0, none⟩) np np], .map (some b), .pointer (some ⟨w.heap.size, 0, none⟩), .pointer (some ⟨w.heap.size + 1, 0, none⟩), .pointer (some ⟨w.heap.size + 1 + 1, 0, none⟩),
      .int .i64 ((prs (mkd f ts) ts.length)[k]).1, .int .i64 ((prs (mkd f ts) ts.length)[k]).2, .agg #[.slice (some ⟨GT, 0, none⟩) ts.length ts.length, .slice (some ⟨GC, 0, none⟩) nc nc, .slice (some ⟨GP, 0, none⟩) np np], .map (some b), .slice (some ⟨G, 0, none⟩) ts.length ts.length, .func (.func 127) #[] #[.pointer (some ⟨wr.heap.size, 0, none⟩)], .int .i64 ((prs (mkd f ts) ts.length)[k]).1, .int .i64 ((prs (mkd f ts) ts.length)[k]).2, undef, undef, undef, undef, undef], defers := [] }) ?own ?assign ?body ?done ?stop
  · intro W l o o' hlw ho hc hwk
    refine ⟨fun j x hj hx hxc => (World.putObj_heap_other (fun e => ?_)).trans hx, World.putObj_heap_other (by omega), World.putObj_heap_other (by omega)⟩
    subst e
    rw [ho] at hx
    cases hx
    rcases hxc with h | h
    · rw [hc] at h; cases h
    · rw [hwk] at h; cases h
  · intro k hk; simp
  case own =>
    rintro k a' ⟨⟩ W W' row h hg hr
    exact h
  case assign =>
    intro l k hk W K hI hK
    have hk' : k < (prs (mkd f ts) ts.length).length := by simpa using hk
    have e1 : ((prs (mkd f ts) ts.length).map fun p : Nat × Nat => #[Value.int .i64 p.1, Value.int .i64 p.2])[k]'hk = #[.int .i64 ((prs (mkd f ts) ts.length)[k]).1, .int .i64 ((prs (mkd f ts) ts.length)[k]).2] := by simp
    rw [e1]
    have hK2 := hK _ W ((KeepsOthers.refl _).from _) ⟨fun j o hj ho hc => ho, rfl, rfl⟩ hI ⟨hk', rfl⟩
    clear hK
    generalize (prs (mkd f ts) ts.length)[k] = pr at hK2 ⊢
    gi_wp2
    exact hK2
  case body =>
    rintro l k a' W hk hl' hI ⟨hk', rfl⟩
    have hix := hI.1.x1
    have hx2 := hI.1.x2
    have hf2 := hI.1.f2
    have hpm := unhide HP _ (List.getElem_mem hk')
    have hsm := same_any W b ts.length c f ((prs (mkd f ts) ts.length)[k]).1 ((prs (mkd f ts) ts.length)[k]).2 hI.1.m hpm.1 hpm.2 (by omega) (unhide HF)
    have hmem := hide (List.getElem_mem hk')
    have htk : (prs (mkd f ts) ts.length).take (k + 1) = (prs (mkd f ts) ts.length).take k ++ [(prs (mkd f ts) ts.length)[k]] := by rw [List.take_add_one, List.getElem?_eq_getElem hk']; rfl
    have HTK := hide htk
    have hIb := hide hI
    clear hI htk hpm hI0 hown hownx hseq
    generalize (prs (mkd f ts) ts.length)[k] = pr at hsm hmem HTK ⊢
    obtain ⟨x, y⟩ := pr
    simp only at hsm ⊢
    by_cases he : f x = f y
    · have HE := hide he
      rw [decide_eq_true he] at hsm
      clear he
      gi_wp2
      refine ⟨trivial, CallsIn.inRound l (callsIn_wide.2 (hsm.mono ?_))⟩
      rintro e w3 ⟨rfl, rfl⟩
      gi_wp2
      refine ⟨(KeepsOthers.refl _).from _, ⟨fun j o hj ho hc => ho, rfl, rfl⟩, (unhide hIb).1, ?_⟩
      intro p hp
      rw [unhide HTK] at hp
      rcases List.mem_append.1 hp with h | h
      · exact unhide (unhide hIb).2 p h
      · rw [List.mem_singleton.1 h]; exact unhide HE
    · have HE := hide he
      rw [decide_eq_false he] at hsm
      clear he
      gi_wp2
      refine ⟨trivial, CallsIn.inRound l (callsIn_wide.2 (hsm.mono ?_))⟩
      rintro e w3 ⟨rfl, rfl⟩
      gi_wp2
      refine ⟨⟨by simp [World.setCell], fun j o hj ho hc => (Below.heap_setCell _ _ _ _ (by show j ≠ w.heap.size + 1 + 1; omega)).trans ho⟩, (unhide hIb).1.set false (by omega) (by omega) (by omega), ?_⟩
      exact ⟨_, unhide hmem, unhide HE⟩
  case done =>
    intro D W hD hI hdef
    have hx2 := hI.1.x2
    have hf2 := hI.1.f2
    gi_wp2
    have hcs := hI.1.set true (by omega) (by omega) (by omega)
    have hdef' : (W.setCell ⟨w.heap.size + 1 + 1, 0, none⟩ (.bool true)).heap[D]? = some (.deferred (some [])) := (Below.heap_setCell _ _ _ _ (by show D ≠ w.heap.size + 1 + 1; omega)).trans hdef
    have hcp := hcs.keep (grownBy_putObj' _ D (.deferred none)) (B := w2.heap.size) (by omega) hbw2 (fun r e => by cases e; exact ⟨hD, _, hdef', rfl⟩)
    have hx3 := hcp.x2
    refine ⟨by simp, .inl ⟨_, _, rfl, run_takeDeferred hdef', ?_⟩⟩
    refine ⟨.bool true, by simp [results, Tryz.results48, go_sem, hx3], ?_, hcp.below⟩
    have hall := unhide hI.2
    rw [List.take_of_length_le (by simp)] at hall
    rw [decide_eq_true hall]
  case stop =>
    intro D W hD hI hdef
    have hx2 := hI.1.x2
    gi_wp2
    have hcp := hI.1.keep (grownBy_putObj' _ D (.deferred none)) (B := w2.heap.size) (by omega) hbw2 (fun r e => by cases e; exact ⟨hD, _, hdef, rfl⟩)
    have hx3 := hcp.x2
    refine ⟨by simp, .inl ⟨_, _, rfl, run_takeDeferred hdef, ?_⟩⟩
    refine ⟨.bool false, by simp [results, Tryz.results48, go_sem, hx3], ?_, hcp.below⟩
    obtain ⟨p, hp, hne⟩ := unhide hI.2
    rw [decide_eq_false (fun h => hne (h p hp))]

end Go.Proofs.YthcppbmkacbbiaaGreat

namespace Go.Proofs.YthcppbmkacbbiaaGreat
open Go.RowKit Go.Maps Go.WideMaps
open Rdg (Key put)

attribute [local go_sem] Oper.semAt_some

/-- The claims, by classes. -/
def mkc (f : Nat → Nat) (cs : List (Int × Nat)) : List (Int × Nat) := cs.map fun k => (k.1, f k.2)
theorem mkc_length (f : Nat → Nat) (cs : List (Int × Nat)) : (mkc f cs).length = cs.length := by simp [mkc]

theorem newsC_at (w : World) (a : Int) (b : Nat) (t : TypeId) (n : Nat) (hn : w.heap.size = n) : ∀ j u, (ecC (a, b))[j]? = some u → (w.alloc (.cells #[.int .u8 a, .int .i64 b] t)).cell? ((⟨n, 0, none⟩ : Addr).add j) = some u := by
  subst hn
  exact newsC w a b t

/-- A row of truths. -/
def RowsH (w : World) (H : Nat) (hl : List Bool) : Prop := H < w.heap.size ∧ ∀ i (hi : i < hl.length), w.cell? ⟨H, i, none⟩ = some (.bool hl[i])
theorem RowsH.same {w w' : World} {H : Nat} {hl : List Bool} (h : RowsH w H hl) (hb : w'.heap[H]? = w.heap[H]?) : RowsH w' H hl :=
  ⟨by have h1 := h.1; rw [Array.getElem?_eq_getElem h1] at hb; exact (Array.getElem?_eq_some_iff.1 hb).1, fun i hi => (World.cell?_of_block hb).trans (h.2 i hi)⟩

theorem RowsH.at {w : World} {H : Nat} {hl : List Bool} (h : RowsH w H hl) {i : Nat} (hi : i < hl.length) : w.cell? ⟨H, i, none⟩ = some (.bool (hl.getD i false)) := by
  rw [h.2 i hi]; simp [List.getD, hi]

/-- A case, as the program holds it. -/
def sv (b H n : Nat) : Value := .agg #[.map (some b), .slice (some ⟨H, 0, none⟩) n n]

/-- What lies while agree goes through its pairs. -/
structure AE (w : World) (X1 X2 H cp : Nat) (hl : List Bool) (v : Bool) (W : World) : Prop where
  xh : W.cell? ⟨X1, 0, none⟩ = some (.slice (some ⟨H, 0, none⟩) hl.length cp)
  x2 : W.cell? ⟨X2, 0, none⟩ = some (.bool v)
  f2 : W.frozen? ⟨X2, 0, none⟩ = false
  h : RowsH W H hl
  below : Below w.heap.size w W

theorem AE.keep {w : World} {X1 X2 H cp : Nat} {hl : List Bool} {v : Bool} {W W' : World} {row : Option Nat} {B : Nat} (h : AE w X1 X2 H cp hl v W) (hg : W.grownBy W' row) (hH : H < B) (hw : w.heap.size ≤ B)
    (hr : ∀ r, row = some r → B ≤ r ∧ ∃ o : Obj, W.heap[r]? = some o ∧ o.isCells = false) : AE w X1 X2 H cp hl v W' := by
  have hr' : ∀ r, row = some r → ∃ o : Obj, W.heap[r]? = some o ∧ o.isCells = false := fun r e => (hr r e).2
  exact ⟨cell_own h.xh hg hr', cell_own h.x2 hg hr', (frozen_own h.x2 hg hr').trans h.f2, h.h.same (hg.block _ h.h.1 (fun e => by have := (hr H e.symm).1; omega)), ownFrom_below (β := Unit) (Nat.le_refl _) hw () W W' row h.below hg hr⟩

theorem AE.grow {w : World} {X1 X2 H cp : Nat} {hl : List Bool} {v : Bool} {W W' : World} {row : Option Nat} (h : AE w X1 X2 H cp hl v W) (hg : W.grownBy W' row) (hr : ∀ r, row = some r → r ≠ X1 ∧ r ≠ X2 ∧ r ≠ H ∧ w.heap.size ≤ r) : AE w X1 X2 H cp hl v W' :=
  ⟨hg.cell h.xh (fun e => (hr X1 e.symm).1 rfl), hg.cell h.x2 (fun e => (hr X2 e.symm).2.1 rfl), (World.frozen?_of_block (hg.block X2 (World.block_lt_of_cell? W _ h.x2) (fun e => (hr X2 e.symm).2.1 rfl))).trans h.f2,
   h.h.same (hg.block H h.h.1 (fun e => (hr H e.symm).2.2.1 rfl)), h.below.grown hg h.below.size (fun k e => (hr k e).2.2.2)⟩

theorem AE.set {w : World} {X1 X2 H cp : Nat} {hl : List Bool} {v : Bool} {W : World} (h : AE w X1 X2 H cp hl v W) (v' : Bool) (h1 : X1 ≠ X2) (h4 : H ≠ X2) (h3 : w.heap.size ≤ X2) : AE w X1 X2 H cp hl v' (W.setCell ⟨X2, 0, none⟩ (.bool v')) :=
  ⟨(World.cell?_of_block (Below.heap_setCell _ _ _ _ h1)).trans h.xh, cell_same _ h.x2, by rw [World.frozen?_setCell]; exact h.f2, h.h.same (Below.heap_setCell _ _ _ _ h4), h.below.setCell h3 _⟩

set_option linter.unusedSimpArgs false in
set_option maxRecDepth 100000 in
set_option maxHeartbeats 2000000 in
theorem agree_any (G cap H cp : Nat) (cs : List (Int × Nat)) (hl : List Bool) (w : World) (hn : cs.length ≤ 100) (hlh : hl.length = cs.length) (hrt : RowsC w G cs) (hv : ∀ x ∈ cs, ∃ l, keyOf Tryz.prog 90 (kvC x) = some l) (hH : RowsH w H hl) :
    Calls Tryz.prog 83 #[.slice (some ⟨G, 0, none⟩) cs.length cap, .slice (some ⟨H, 0, none⟩) hl.length cp] w fun e w' => e = .returned (.bool (decide (∀ p ∈ prs cs cs.length, hl.getD p.1 false = hl.getD p.2 false))) ∧ Below w.heap.size w w' := by
  refine (callsIn_wide (n := 5)).1 ?_
  have HLH := hide hlh
  clear hlh
  refine callsIn_of_wp_marks Tryz.func83 rfl trivial ?_ rfl
  simp only [Tryz.ntmps83, List.size_toArray, List.length_cons, List.length_nil, Nat.reduceAdd, Nat.reduceSub, Array.replicate_succ, Array.replicate_zero, List.push_toArray, List.append_toArray, List.nil_append, List.cons_append]
  gi_wp2
  obtain ⟨wr, hwr⟩ : ∃ wr, (w.alloc (.cells #[.slice (some ⟨H, 0, none⟩) hl.length cp] 103)).alloc (.cells #[.bool false] 4) = wr := ⟨_, rfl⟩
  have hsr : wr.heap.size = w.heap.size + 2 := by rw [← hwr]; simp
  have hgr : w.grownBy wr none := by rw [← hwr]; exact (World.grownBy_alloc _ _ none).trans (World.grownBy_alloc _ _ none)
  have hbr : Below w.heap.size w wr := ⟨hgr.os, hgr.tape, hgr.output, hgr.size, fun j hj => hgr.block j hj (by simp)⟩
  have hlH := hH.1
  have hcg : AE w w.heap.size (w.heap.size + 1) H cp hl false wr := ⟨by rw [← hwr]; simp [go_sem], by rw [← hwr]; simp [go_sem], by rw [← hwr]; simp [go_sem], hH.same (hgr.block H hlH (by simp)), hbr⟩
  have HR2 : Hid (RowsC wr G cs) := hrt.below hbr hrt.1
  have HV := hide hv
  have hsr' : w.heap.size + 2 ≤ wr.heap.size := by omega
  rw [hwr]
  have hcb := hide hcg
  clear hwr hsr hgr hbr hH hrt hv hcg
  refine ⟨trivial, (callsIn_wide.2 (alikeC_any (some ⟨G, 0, none⟩) cs.length cap wr)).mono ?_⟩
  rintro e w2 ⟨rfl, rfl⟩
  gi_wp2
  obtain ⟨w2, hw2⟩ : ∃ w2, wr.alloc (.cells #[.slice (some ⟨G, 0, none⟩) cs.length cap] 51) = w2 := ⟨_, rfl⟩
  have hg2 : wr.grownBy w2 none := by rw [← hw2]; exact World.grownBy_alloc _ _ none
  have hs2 : w2.heap.size = wr.heap.size + 1 := by rw [← hw2]; simp
  have hX2 : w2.cell? ⟨wr.heap.size, 0, none⟩ = some (.slice (some ⟨G, 0, none⟩) cs.length cap) := by rw [← hw2]; simp [go_sem]
  have hcg2 := (unhide hcb).grow hg2 (fun r e => by cases e)
  have hrt3 : RowsC w2 G cs := (unhide HR2).same (hg2.block _ (unhide HR2).1 (by simp))
  have hltr : G < wr.heap.size := (unhide HR2).1
  have hseq := alikiC_all 4 (by omega) wr.heap.size G cap w2.heap.size cs w2 (Nat.le_refl _) (by omega) hX2 hrt3 (unhide HV)
  rw [hw2]
  have hs2a : wr.heap.size + 1 ≤ w2.heap.size := by omega
  clear hw2 hX2 hrt3 hs2 HR2
  have hbw2 : w.heap.size ≤ w2.heap.size := hcg2.below.size
  have HP : Hid (∀ p ∈ (prs cs cs.length), p.1 < cs.length ∧ p.2 < cs.length) := fun p hp => by
    have h := (prs_mem cs cs.length (Nat.le_refl _) p).1 hp
    exact ⟨by omega, h.1⟩
  have hI0 : AE w w.heap.size (w.heap.size + 1) H cp hl false w2 ∧ Hid (∀ p ∈ (prs cs cs.length).take 0, hl.getD p.1 false = hl.getD p.2 false) := ⟨hcg2, fun p hp => by simp at hp⟩
  have hown : OwnFrom w2.heap.size (fun (k : Nat) W => AE w w.heap.size (w.heap.size + 1) H cp hl false W ∧ Hid (∀ p ∈ (prs cs cs.length).take k, hl.getD p.1 false = hl.getD p.2 false)) := fun k W W' row h hg hr => ⟨h.1.keep hg (B := w2.heap.size) (by omega) hbw2 hr, h.2⟩
  have hownx : OwnFrom w2.heap.size (fun (_ : Unit) W => AE w w.heap.size (w.heap.size + 1) H cp hl false W ∧ Hid (∃ p ∈ (prs cs cs.length), hl.getD p.1 false ≠ hl.getD p.2 false)) := fun k W W' row h hg hr => ⟨h.1.keep hg (B := w2.heap.size) (by omega) hbw2 hr, h.2⟩
  refine wpIn_rangeFunc_seqx rfl (by omega) rfl trivial (fun _ _ => by simp [go_sem]) hseq KA.trans ?_ (Below.refl _ _) ?_ _ (fun W => AE w w.heap.size (w.heap.size + 1) H cp hl false W ∧ Hid (∃ p ∈ (prs cs cs.length), hl.getD p.1 false ≠ hl.getD p.2 false)) hown hownx hI0
    (fun k a' W => ∃ hk : k < (prs cs cs.length).length, a' = { tmps := #[.slice (some ⟨G, 0, none⟩) cs.length cap, .slice (some ⟨H, 0, none⟩) hl.length cp, undef, .pointer (some ⟨w.heap.size, 0, none⟩), .pointer (some ⟨w.heap.size + 1, 0, none⟩),
      .int .i64 ((prs cs cs.length)[k]).1, .int .i64 ((prs cs cs.length)[k]).2, .slice (some ⟨G, 0, none⟩) cs.length cap, .func (.func 171) #[] #[.pointer (some ⟨wr.heap.size, 0, none⟩)], .int .i64 ((prs cs cs.length)[k]).1, .int .i64 ((prs cs cs.length)[k]).2, undef, undef, undef, undef, undef, undef, undef, undef, undef], defers := [] }) ?own ?assign ?body ?done ?stop
  · intro W l o o' hlw ho hc hwk
    refine ⟨fun j x hj hx hxc => (World.putObj_heap_other (fun e => ?_)).trans hx, World.putObj_heap_other (by omega), World.putObj_heap_other (by omega)⟩
    subst e
    rw [ho] at hx
    cases hx
    rcases hxc with h | h
    · rw [hc] at h; cases h
    · rw [hwk] at h; cases h
  · intro k hk; simp
  case own =>
    rintro k a' ⟨⟩ W W' row h hg hr
    exact h
  case assign =>
    intro l k hk W K hI hK
    have hk' : k < (prs cs cs.length).length := by simpa using hk
    have e1 : ((prs cs cs.length).map fun p : Nat × Nat => #[Value.int .i64 p.1, Value.int .i64 p.2])[k]'hk = #[.int .i64 ((prs cs cs.length)[k]).1, .int .i64 ((prs cs cs.length)[k]).2] := by simp
    rw [e1]
    have hK2 := hK _ W ((KeepsOthers.refl _).from _) ⟨fun j o hj ho hc => ho, rfl, rfl⟩ hI ⟨hk', rfl⟩
    clear hK
    generalize (prs cs cs.length)[k] = pr at hK2 ⊢
    gi_wp2
    exact hK2
  case body =>
    rintro l k a' W hk hl' hI ⟨hk', rfl⟩
    have hx2 := hI.1.x2
    have hf2 := hI.1.f2
    have hpm := unhide HP _ (List.getElem_mem hk')
    have hxl : ((prs cs cs.length)[k]).1 < hl.length := by rw [unhide HLH]; exact hpm.1
    have hyl : ((prs cs cs.length)[k]).2 < hl.length := by rw [unhide HLH]; exact hpm.2
    have hcx := hI.1.h.at hxl
    have hcy := hI.1.h.at hyl
    have hxh := hI.1.xh
    have hmem := hide (List.getElem_mem hk')
    have htk : (prs cs cs.length).take (k + 1) = (prs cs cs.length).take k ++ [(prs cs cs.length)[k]] := by rw [List.take_add_one, List.getElem?_eq_getElem hk']; rfl
    have HTK := hide htk
    have hIb := hide hI
    clear hI htk hpm hI0 hown hownx hseq
    generalize (prs cs cs.length)[k] = pr at hxl hyl hcx hcy hmem HTK ⊢
    obtain ⟨x, y⟩ := pr
    simp only at hxl hyl hcx hcy ⊢
    generalize hbx : hl.getD x false = bx at hcx
    generalize hby : hl.getD y false = by' at hcy
    have HX := hide hbx
    have HY := hide hby
    have hxi : (x : Int) < (hl.length : Int) := by omega
    have hyi : (y : Int) < (hl.length : Int) := by omega
    clear hbx hby hxl hyl
    gi_wp2
    refine wpIn_norm ?_
    have hS0 : W.drew.cell? ⟨w.heap.size, 0, none⟩ = some (.slice (some ⟨H, 0, none⟩) hl.length cp) ∧ W.drew.cell? ⟨H, x, none⟩ = some (.bool bx) ∧ W.drew.cell? ⟨H, y, none⟩ = some (.bool by') := ⟨hxh, hcx, hcy⟩
    refine region_roundH (fun W' => W'.cell? ⟨w.heap.size, 0, none⟩ = some (.slice (some ⟨H, 0, none⟩) hl.length cp) ∧ W'.cell? ⟨H, x, none⟩ = some (.bool bx) ∧ W'.cell? ⟨H, y, none⟩ = some (.bool by')) 9 #[false, false, false, false, false, false, false, false, false] (by kernel_rfl) rfl rfl (by kernel_rfl) (by rintro ⟨_, _, h, _⟩; cases h) ?_
    refine wpAnyH_take (i := 0) (v := .slice (some ⟨H, 0, none⟩) hl.length cp) rfl (by kernel_rfl) (by kernel_rfl) (by kernel_rfl) (fun _ _ _ h => (by cases h.1)) (Or.inl ⟨by rfl, fun w' hS => ?_⟩) hS0 ?_
    · obtain ⟨s1, s2, s3⟩ := hS
      go_simp
    simp only [List.getElem_toArray, List.getElem_cons_zero, List.getElem_cons_succ, Act.put, List.setIfInBounds_toArray, List.set_cons_zero, List.set_cons_succ]
    refine wpAnyH_take (i := 1) (v := .int .i64 x) rfl (by kernel_rfl) (by kernel_rfl) (by kernel_rfl) (fun _ _ _ h => (by cases h.1)) (Or.inl ⟨by rfl, fun w' hS => ?_⟩) hS0 ?_
    · obtain ⟨s1, s2, s3⟩ := hS
      go_simp
    simp only [List.getElem_toArray, List.getElem_cons_zero, List.getElem_cons_succ, Act.put, List.setIfInBounds_toArray, List.set_cons_zero, List.set_cons_succ]
    refine wpAnyH_take (i := 2) (v := .pointer (some ⟨H, x, none⟩)) rfl (by kernel_rfl) (by kernel_rfl) (by kernel_rfl) (fun _ _ _ h => (by cases h.1)) (Or.inl ⟨by rfl, fun w' hS => ?_⟩) hS0 ?_
    · obtain ⟨s1, s2, s3⟩ := hS
      go_simp
    simp only [List.getElem_toArray, List.getElem_cons_zero, List.getElem_cons_succ, Act.put, List.setIfInBounds_toArray, List.set_cons_zero, List.set_cons_succ]
    refine wpAnyH_take (i := 3) (v := .bool bx) rfl (by kernel_rfl) (by kernel_rfl) (by kernel_rfl) (fun _ _ _ h => (by cases h.1)) (Or.inl ⟨by rfl, fun w' hS => ?_⟩) hS0 ?_
    · obtain ⟨s1, s2, s3⟩ := hS
      go_simp
    simp only [List.getElem_toArray, List.getElem_cons_zero, List.getElem_cons_succ, Act.put, List.setIfInBounds_toArray, List.set_cons_zero, List.set_cons_succ]
    refine wpAnyH_take (i := 4) (v := .slice (some ⟨H, 0, none⟩) hl.length cp) rfl (by kernel_rfl) (by kernel_rfl) (by kernel_rfl) (fun _ _ _ h => (by cases h.1)) (Or.inl ⟨by rfl, fun w' hS => ?_⟩) hS0 ?_
    · obtain ⟨s1, s2, s3⟩ := hS
      go_simp
    simp only [List.getElem_toArray, List.getElem_cons_zero, List.getElem_cons_succ, Act.put, List.setIfInBounds_toArray, List.set_cons_zero, List.set_cons_succ]
    refine wpAnyH_take (i := 5) (v := .int .i64 y) rfl (by kernel_rfl) (by kernel_rfl) (by kernel_rfl) (fun _ _ _ h => (by cases h.1)) (Or.inl ⟨by rfl, fun w' hS => ?_⟩) hS0 ?_
    · obtain ⟨s1, s2, s3⟩ := hS
      go_simp
    simp only [List.getElem_toArray, List.getElem_cons_zero, List.getElem_cons_succ, Act.put, List.setIfInBounds_toArray, List.set_cons_zero, List.set_cons_succ]
    refine wpAnyH_take (i := 6) (v := .pointer (some ⟨H, y, none⟩)) rfl (by kernel_rfl) (by kernel_rfl) (by kernel_rfl) (fun _ _ _ h => (by cases h.1)) (Or.inl ⟨by rfl, fun w' hS => ?_⟩) hS0 ?_
    · obtain ⟨s1, s2, s3⟩ := hS
      go_simp
    simp only [List.getElem_toArray, List.getElem_cons_zero, List.getElem_cons_succ, Act.put, List.setIfInBounds_toArray, List.set_cons_zero, List.set_cons_succ]
    refine wpAnyH_take (i := 7) (v := .bool by') rfl (by kernel_rfl) (by kernel_rfl) (by kernel_rfl) (fun _ _ _ h => (by cases h.1)) (Or.inl ⟨by rfl, fun w' hS => ?_⟩) hS0 ?_
    · obtain ⟨s1, s2, s3⟩ := hS
      go_simp
    simp only [List.getElem_toArray, List.getElem_cons_zero, List.getElem_cons_succ, Act.put, List.setIfInBounds_toArray, List.set_cons_zero, List.set_cons_succ]
    refine wpAnyH_take (i := 8) (v := .bool (bx != by')) rfl (by kernel_rfl) (by kernel_rfl) (by kernel_rfl) (fun _ _ _ h => (by cases h.1)) (Or.inl ⟨by rfl, fun w' hS => ?_⟩) hS0 ?_
    · obtain ⟨s1, s2, s3⟩ := hS
      cases bx <;> cases by' <;> go_simp
    simp only [List.getElem_toArray, List.getElem_cons_zero, List.getElem_cons_succ, Act.put, List.setIfInBounds_toArray, List.set_cons_zero, List.set_cons_succ]
    refine wpAnyH_done (by kernel_rfl) ⟨rfl, ?_⟩ _
    have hgd : W.grownBy W.drew none := ⟨rfl, rfl, rfl, Nat.le_refl _, fun j hj _ => rfl⟩
    have hId : AE w w.heap.size (w.heap.size + 1) H cp hl false W.drew := (unhide hIb).1.grow hgd (fun r e => by cases e)
    have hx2 : W.drew.cell? ⟨w.heap.size + 1, 0, none⟩ = some (.bool false) := hId.x2
    have hf2 : W.drew.frozen? ⟨w.heap.size + 1, 0, none⟩ = false := hId.f2
    have HID := hide hId
    clear hId hgd hS0 hcx hcy hxh
    generalize hvb : (bx != by') = vb
    have HVB := hide hvb
    clear hvb
    cases vb
    · gi_wp2
      refine ⟨⟨by simp, fun j o hj ho hc => ho⟩, ⟨fun j o hj ho hc => ho, rfl, rfl⟩, unhide HID, ?_⟩
      intro p hp
      rw [unhide HTK] at hp
      rcases List.mem_append.1 hp with h | h
      · exact unhide (unhide hIb).2 p h
      · rw [List.mem_singleton.1 h]
        show hl.getD x false = hl.getD y false
        rw [unhide HX, unhide HY]
        have := unhide HVB
        revert this; cases bx <;> cases by' <;> simp
    · gi_wp2
      refine ⟨⟨by simp [World.setCell], fun j o hj ho hc => (Below.heap_setCell _ _ _ _ (by show j ≠ w.heap.size + 1; omega)).trans ho⟩, (unhide HID).set false (by omega) (by omega) (by omega), ?_⟩
      refine ⟨_, unhide hmem, ?_⟩
      show ¬ hl.getD x false = hl.getD y false
      rw [unhide HX, unhide HY]
      have := unhide HVB
      revert this; cases bx <;> cases by' <;> simp
  case done =>
    intro D W hD hI hdef
    have hx2 := hI.1.x2
    have hf2 := hI.1.f2
    gi_wp2
    have hcs := hI.1.set true (by omega) (by omega) (by omega)
    have hdef' : (W.setCell ⟨w.heap.size + 1, 0, none⟩ (.bool true)).heap[D]? = some (.deferred (some [])) := (Below.heap_setCell _ _ _ _ (by show D ≠ w.heap.size + 1; omega)).trans hdef
    have hcp := hcs.keep (grownBy_putObj' _ D (.deferred none)) (B := w2.heap.size) (by omega) hbw2 (fun r e => by cases e; exact ⟨hD, _, hdef', rfl⟩)
    have hx3 := hcp.x2
    refine ⟨by simp, .inl ⟨_, _, rfl, run_takeDeferred hdef', ?_⟩⟩
    refine ⟨.bool true, by simp [results, Tryz.results83, go_sem, hx3], ?_, hcp.below⟩
    have hall := unhide hI.2
    rw [List.take_of_length_le (by simp)] at hall
    rw [decide_eq_true hall]
  case stop =>
    intro D W hD hI hdef
    have hx2 := hI.1.x2
    gi_wp2
    have hcp := hI.1.keep (grownBy_putObj' _ D (.deferred none)) (B := w2.heap.size) (by omega) hbw2 (fun r e => by cases e; exact ⟨hD, _, hdef, rfl⟩)
    have hx3 := hcp.x2
    refine ⟨by simp, .inl ⟨_, _, rfl, run_takeDeferred hdef, ?_⟩⟩
    refine ⟨.bool false, by simp [results, Tryz.results83, go_sem, hx3], ?_, hcp.below⟩
    obtain ⟨p, hp, hne⟩ := unhide hI.2
    rw [decide_eq_false (fun h => hne (h p hp))]

end Go.Proofs.YthcppbmkacbbiaaGreat

namespace Go.Proofs.YthcppbmkacbbiaaGreat
open Go.RowKit Go.Maps Go.WideMaps
open Rdg (Key put)

attribute [local go_sem] Oper.semAt_some

/-- What lies while agreed goes through the claims. -/
structure AM (w : World) (X1 b H : Nat) (f : Nat → Nat) (n c : Nat) (hl : List Bool) (W : World) : Prop where
  x1 : W.cell? ⟨X1, 0, none⟩ = some (.map (some b))
  xh : W.cell? ⟨X1, 1, none⟩ = some (.slice (some ⟨H, 0, none⟩) hl.length hl.length)
  m : CMap W b f n c
  h : RowsH W H hl
  below : Below w.heap.size w W

theorem AM.grow {w : World} {X1 b H n c : Nat} {f : Nat → Nat} {hl : List Bool} {W W' : World} {row : Option Nat} (h : AM w X1 b H f n c hl W) (hg : W.grownBy W' row) (hr : ∀ r, row = some r → r ≠ X1 ∧ r ≠ b ∧ r ≠ H ∧ w.heap.size ≤ r) : AM w X1 b H f n c hl W' :=
  ⟨hg.cell h.x1 (fun e => (hr X1 e.symm).1 rfl), hg.cell h.xh (fun e => (hr X1 e.symm).1 rfl), h.m.kept (hg.block b h.m.lt (fun e => (hr b e.symm).2.1 rfl)), h.h.same (hg.block H h.h.1 (fun e => (hr H e.symm).2.2.1 rfl)), h.below.grown hg h.below.size (fun k e => (hr k e).2.2.2)⟩

set_option linter.unusedSimpArgs false in
set_option maxRecDepth 100000 in
set_option maxHeartbeats 2000000 in
theorem agreed_any (GT GC GP nt np b c H : Nat) (f : Nat → Nat) (cs : List (Int × Nat)) (hl : List Bool) (w : World) (h4 : cs.length ≤ 4) (hnt : nt ≤ 7) (hlh : hl.length = cs.length) (hrt : RowsC w GC cs) (hi : ∀ x ∈ cs, (x.1 = 80 ∨ x.1 = 81) ∧ x.2 < nt) (hf : ∀ i, i < nt → f i ≤ i ∧ f (f i) = f i) (hM : CMap w b f nt c) (hH : RowsH w H hl) :
    Calls Tryz.prog 50 #[fv GT GC GP nt cs.length np, sv b H hl.length] w fun e w' => e = .returned (.bool (decide (∀ p ∈ prs (mkc f cs) cs.length, hl.getD p.1 false = hl.getD p.2 false))) ∧ Below w.heap.size w w' := by
  refine (callsIn_wide (n := 5)).1 ?_
  unfold fv sv
  have HLH := hide hlh
  clear hlh
  obtain ⟨wb, hwb⟩ : ∃ wb, (w.alloc (.cells #[.slice (some ⟨GT, 0, none⟩) nt nt, .slice (some ⟨GC, 0, none⟩) cs.length cs.length, .slice (some ⟨GP, 0, none⟩) np np] 54)).alloc (.cells #[.map (some b), .slice (some ⟨H, 0, none⟩) hl.length hl.length] 105) = wb := ⟨_, rfl⟩
  have hsb : wb.heap.size = w.heap.size + 2 := by rw [← hwb]; simp
  have hgb : w.grownBy wb none := by rw [← hwb]; exact (World.grownBy_alloc _ _ none).trans (World.grownBy_alloc _ _ none)
  have hbb : Below w.heap.size w wb := ⟨hgb.os, hgb.tape, hgb.output, hgb.size, fun j hj => hgb.block j hj (by simp)⟩
  have hch : wb.cell? ⟨w.heap.size + 1, 1, none⟩ = some (.slice (some ⟨H, 0, none⟩) hl.length hl.length) := by rw [← hwb]; simp [go_sem]
  have hc0 : wb.cell? ⟨w.heap.size, 1, none⟩ = some (.slice (some ⟨GC, 0, none⟩) cs.length cs.length) := by rw [← hwb]; simp [go_sem]
  have hc1 : wb.cell? ⟨w.heap.size + 1, 0, none⟩ = some (.map (some b)) := by rw [← hwb]; simp [go_sem]
  obtain ⟨i0, hin, hz0, hz1, hz2⟩ := info_parts infoC
  obtain ⟨w1, hmk, hrow, hg1⟩ := run_make_own (P := Tryz.prog) wb wb.heap.size 51 90 i0 _ 2 Tryz.underlying51 hin hz0 hz1 .i64 .i64 cs.length (by rw [hz2]; omega) (by unfold maxLen; omega) (Nat.le_refl _)
  have hb1 : Below w.heap.size w w1 := hbb.trans ⟨hg1.os, hg1.tape, hg1.output, hg1.size, fun j hj => hg1.block j (by omega) (by simp)⟩
  have hltB := hM.lt
  have hlG := hrt.1
  have hlH := hH.1
  have hCG1 : AM w (w.heap.size + 1) b H f nt c hl w1 :=
    ⟨hg1.cell hc1 (by simp), hg1.cell hch (by simp), (hM.kept (hgb.block b hltB (by simp))).kept (hg1.block b (by omega) (by simp)), (hH.same (hgb.block H hlH (by simp))).same (hg1.block H (by omega) (by simp)), hb1⟩
  have hk0 : w1.cell? ⟨w.heap.size, 1, none⟩ = some (.slice (some ⟨GC, 0, none⟩) cs.length cs.length) := hg1.cell hc0 (by simp)
  have hlt1 : w.heap.size + 2 < w1.heap.size := by have h := (hrow.lt wb.heap.size rfl).2; omega
  have HSB := hide hsb
  rw [hsb] at hrow
  have hmk' : Hid _ := hmk
  have HI := hide hi
  have HRT := hide hrt
  have HF := hide hf
  have HWB := hide hwb
  rw [← hwb] at hmk
  have hszb : ((w.alloc (.cells #[.slice (some ⟨GT, 0, none⟩) nt nt, .slice (some ⟨GC, 0, none⟩) cs.length cs.length, .slice (some ⟨GP, 0, none⟩) np np] 54)).alloc (.cells #[.map (some b), .slice (some ⟨H, 0, none⟩) hl.length hl.length] 105)).heap.size = w.heap.size + 2 := by simp
  rw [hszb] at hmk
  clear hmk' hwb hi hrt hf hsb hszb hgb hc0 hc1 hch hg1 hM hH
  refine callsIn_of_wp_marks Tryz.func50 rfl trivial ?_ rfl
  simp only [Tryz.ntmps50, List.size_toArray, List.length_cons, List.length_nil, Nat.reduceAdd, Nat.reduceSub, Array.replicate_succ, Array.replicate_zero, List.push_toArray, List.append_toArray, List.nil_append, List.cons_append]
  gi_wp2
  have hrow0 : w1.ownsRow 0 90 2 (.slice (some ⟨w.heap.size + 2, 0, none⟩) 0 cs.length) 0 [] := row_base hrow (Nat.zero_le _)
  clear hmk hrow hk0
  gi_loopw [5, 15] (fun t i wr => ∃ k : Nat, k ≤ cs.length ∧ i = .int .i64 k ∧ t = .slice (some ⟨w.heap.size + 2, 0, none⟩) k cs.length ∧ wr.ownsRow 0 90 2 (.slice (some ⟨w.heap.size + 2, 0, none⟩) k cs.length) k (((mkc f cs).flatMap ecC).take (k * 2)) ∧ AM w (w.heap.size + 1) b H f nt c hl wr) (fun _ i _ => cs.length - (intOf i).toNat)
  case atStart => exact ⟨0, Nat.zero_le _, rfl, rfl, by rw [Nat.zero_mul, List.take_zero]; exact hrow0, hCG1⟩
  case round =>
    obtain ⟨k, hk, rfl, rfl, hrw, hcg⟩ := hrel
    by_cases hlt : k < cs.length
    · have hbd : (k : Int) < (cs.length : Int) := by omega
      obtain ⟨c0, c1⟩ := ((unhide HRT).below hcg.below hlG).2 k hlt
      have hfit : k + 1 ≤ cs.length := hlt
      have hb1' : cs[k].2 < nt := ((unhide HI) _ (List.getElem_mem hlt)).2
      have htk := take_flat ecC_len (mkc f cs) k (by rw [mkc_length]; exact hlt)
      have hmk : (mkc f cs)[k]'(by rw [mkc_length]; exact hlt) = (cs[k].1, f cs[k].2) := by simp [mkc]
      rw [hmk] at htk
      have hap : Hid (∀ W2 : World, wr.grownBy W2 none → W2.ownsRow 0 90 2 (.slice (some ⟨w.heap.size + 2, 0, none⟩) k cs.length) k (((mkc f cs).flatMap ecC).take (k * 2))) := fun W2 h => hrw.kept h (Or.inr (by simp [Value.ownBlock]))
      have hGr : w.heap.size + 2 < wr.heap.size := (hrw.lt (w.heap.size + 2) rfl).2
      have HTK := hide htk
      have hcb := hide hcg
      clear htk hmk hrw
      generalize cs[k] = key at c0 c1 hb1' HTK
      obtain ⟨tl, tf⟩ := key
      simp only at c0 c1 hb1' HTK
      have HF1 := hide ((unhide HF) tf hb1')
      have hof : ∀ W2 : World, wr.grownBy W2 none → Calls Tryz.prog 82 #[.map (some b), .int .i64 tf] W2 fun e w' => e = .returned (.int .i64 (f tf)) ∧ w' = W2 := fun W2 h => of_any W2 b nt c f tf ((unhide hcb).m.kept (h.block b (unhide hcb).m.lt (by simp))) hb1' (by omega) (unhide HF1).1 (unhide HF1).2
      have HO1 := hide hof
      clear hof hcg
      generalize f tf = x1 at HO1 HTK
      gi_wp2
      · refine wpIn_norm ?_
        have hga : wr.grownBy (wr.alloc (.cells #[.int .u8 tl, .int .i64 tf] 90)) none := World.grownBy_alloc _ _ none
        obtain ⟨W1, hW1⟩ : ∃ W1, wr.alloc (.cells #[.int .u8 tl, .int .i64 tf] 90) = W1 := ⟨_, rfl⟩
        have hS0 : W1.drew.cell? ⟨wr.heap.size, 0, none⟩ = some (.int .u8 tl) ∧ W1.drew.cell? ⟨wr.heap.size, 1, none⟩ = some (.int .i64 tf) ∧ W1.drew.cell? ⟨w.heap.size + 1, 0, none⟩ = some (.map (some b)) := by
          rw [← hW1]
          exact ⟨by simp [go_sem], by simp [go_sem], hga.cell (unhide hcb).x1 (by simp)⟩
        have hg1 : wr.grownBy W1.drew none := by rw [← hW1]; exact ⟨rfl, rfl, rfl, by simp, fun j hj _ => Below.heap_alloc _ _ _ hj⟩
        rw [hW1] at hga ⊢
        clear hW1
        refine region_outH (fun W' => W'.cell? ⟨wr.heap.size, 0, none⟩ = some (.int .u8 tl) ∧ W'.cell? ⟨wr.heap.size, 1, none⟩ = some (.int .i64 tf) ∧ W'.cell? ⟨w.heap.size + 1, 0, none⟩ = some (.map (some b))) 12 #[false, false, false, false, false, false, false, false, false, false, false, false] (by kernel_rfl) rfl rfl ?_
        refine wpAnyH_take (i := 0) (v := .slice (some ⟨w.heap.size + 2, 0, none⟩) k cs.length) rfl (by kernel_rfl) (by kernel_rfl) (by kernel_rfl) (fun _ _ _ h => (by cases h.1)) (Or.inl ⟨by rfl, fun w' hS => ?_⟩) hS0 ?_
        · obtain ⟨s1, s2, s3⟩ := hS
          go_simp
        simp only [List.getElem_toArray, List.getElem_cons_zero, List.getElem_cons_succ, Act.put, List.setIfInBounds_toArray, List.set_cons_zero, List.set_cons_succ]
        refine wpAnyH_take (i := 1) (v := .pointer (some ⟨wr.heap.size, 0, none⟩)) rfl (by kernel_rfl) (by kernel_rfl) (by kernel_rfl) (fun _ _ _ h => (by cases h.1)) (Or.inl ⟨by rfl, fun w' hS => ?_⟩) hS0 ?_
        · obtain ⟨s1, s2, s3⟩ := hS
          go_simp
        simp only [List.getElem_toArray, List.getElem_cons_zero, List.getElem_cons_succ, Act.put, List.setIfInBounds_toArray, List.set_cons_zero, List.set_cons_succ]
        refine wpAnyH_take (i := 2) (v := .int .u8 tl) rfl (by kernel_rfl) (by kernel_rfl) (by kernel_rfl) (fun _ _ _ h => (by cases h.1)) (Or.inl ⟨by rfl, fun w' hS => ?_⟩) hS0 ?_
        · obtain ⟨s1, s2, s3⟩ := hS
          go_simp
        simp only [List.getElem_toArray, List.getElem_cons_zero, List.getElem_cons_succ, Act.put, List.setIfInBounds_toArray, List.set_cons_zero, List.set_cons_succ]
        refine wpAnyH_take (i := 3) (v := .pointer (some ⟨w.heap.size + 1, 0, none⟩)) rfl (by kernel_rfl) (by kernel_rfl) (by kernel_rfl) (fun _ _ _ h => (by cases h.1)) (Or.inl ⟨by rfl, fun w' hS => ?_⟩) hS0 ?_
        · obtain ⟨s1, s2, s3⟩ := hS
          go_simp
        simp only [List.getElem_toArray, List.getElem_cons_zero, List.getElem_cons_succ, Act.put, List.setIfInBounds_toArray, List.set_cons_zero, List.set_cons_succ]
        refine wpAnyH_take (i := 4) (v := .map (some b)) rfl (by kernel_rfl) (by kernel_rfl) (by kernel_rfl) (fun _ _ _ h => (by cases h.1)) (Or.inl ⟨by rfl, fun w' hS => ?_⟩) hS0 ?_
        · obtain ⟨s1, s2, s3⟩ := hS
          go_simp
        simp only [List.getElem_toArray, List.getElem_cons_zero, List.getElem_cons_succ, Act.put, List.setIfInBounds_toArray, List.set_cons_zero, List.set_cons_succ]
        refine wpAnyH_take (i := 5) (v := .pointer (some ⟨wr.heap.size, 1, none⟩)) rfl (by kernel_rfl) (by kernel_rfl) (by kernel_rfl) (fun _ _ _ h => (by cases h.1)) (Or.inl ⟨by rfl, fun w' hS => ?_⟩) hS0 ?_
        · obtain ⟨s1, s2, s3⟩ := hS
          go_simp
        simp only [List.getElem_toArray, List.getElem_cons_zero, List.getElem_cons_succ, Act.put, List.setIfInBounds_toArray, List.set_cons_zero, List.set_cons_succ]
        refine wpAnyH_take (i := 6) (v := .int .i64 tf) rfl (by kernel_rfl) (by kernel_rfl) (by kernel_rfl) (fun _ _ _ h => (by cases h.1)) (Or.inl ⟨by rfl, fun w' hS => ?_⟩) hS0 ?_
        · obtain ⟨s1, s2, s3⟩ := hS
          go_simp
        simp only [List.getElem_toArray, List.getElem_cons_zero, List.getElem_cons_succ, Act.put, List.setIfInBounds_toArray, List.set_cons_zero, List.set_cons_succ]
        have hSt : Hid (∀ W' : World, W1.drew.grownBy W' none → W'.cell? ⟨wr.heap.size, 0, none⟩ = some (.int .u8 tl) ∧ W'.cell? ⟨wr.heap.size, 1, none⟩ = some (.int .i64 tf) ∧ W'.cell? ⟨w.heap.size + 1, 0, none⟩ = some (.map (some b))) := fun W' hg => ⟨hg.cell hS0.1 (by simp), hg.cell hS0.2.1 (by simp), hg.cell hS0.2.2 (by simp)⟩
        refine wpAnyH_one (i := 7) (by kernel_rfl) rfl (by rfl) (fun K hK => ?_)
        go_simp
        refine (unhide HO1 _ hg1).mono ?_
        rintro e w2 ⟨rfl, rfl⟩
        refine hK.out _ _ hS0 ?_
        clear hK K
        simp only [List.getElem_toArray, List.getElem_cons_zero, List.getElem_cons_succ, Act.put, List.setIfInBounds_toArray, List.set_cons_zero, List.set_cons_succ]
        refine wpAnyH_one (i := 8) (by kernel_rfl) rfl (by rfl) (fun K hK => ?_)
        go_simp
        refine hK.out _ _ hS0 ?_
        clear hK K
        simp only [List.getElem_toArray, List.getElem_cons_zero, List.getElem_cons_succ, Act.put, List.setIfInBounds_toArray, List.set_cons_zero, List.set_cons_succ]
        refine wpAnyH_one (i := 9) (by kernel_rfl) rfl (by rfl) (fun K hK => ?_)
        go_simp
        have hg4 : W1.drew.grownBy (W1.drew.alloc (.cells #[.int .u8 tl, .int .i64 x1] 90)) none := World.grownBy_alloc _ _ none
        refine hK.out _ _ (unhide hSt _ hg4) ?_
        clear hK K
        simp only [List.getElem_toArray, List.getElem_cons_zero, List.getElem_cons_succ, Act.put, List.setIfInBounds_toArray, List.set_cons_zero, List.set_cons_succ]
        have hg5 := hg1.trans hg4
        refine wpAnyH_one (i := 10) (by kernel_rfl) rfl (by rfl) (fun K hK => ?_)
        refine step_fits (.tmp 19) (.tmp 28) 51 rfl 0 90 i0 2 Tryz.underlying51 hin hz1 _ _ _ _ rfl (unhide hap _ hg5) _ 1 1 (ecC (tl, x1)) rfl rfl (newsC_at _ _ _ _ _ rfl) (oneC _) hfit ?_
        intro w4 r1 r2
        have q0 := unhide hSt _ hg4
        have hne : wr.heap.size ≠ w.heap.size + 2 := by omega
        have hS4 : w4.cell? ⟨wr.heap.size, 0, none⟩ = some (.int .u8 tl) ∧ w4.cell? ⟨wr.heap.size, 1, none⟩ = some (.int .i64 tf) ∧ w4.cell? ⟨w.heap.size + 1, 0, none⟩ = some (.map (some b)) := ⟨r2.cell q0.1 (by simpa using hne), r2.cell q0.2.1 (by simpa using hne), r2.cell q0.2.2 (by simp)⟩
        refine hK.out _ _ hS4 ?_
        clear hK K
        simp only [List.getElem_toArray, List.getElem_cons_zero, List.getElem_cons_succ, Act.put, List.setIfInBounds_toArray, List.set_cons_zero, List.set_cons_succ]
        refine wpAnyH_one (i := 11) (by kernel_rfl) rfl (by rfl) (fun K hK => ?_)
        go_simp
        refine hK.out _ _ hS4 (wpAnyH_done (by kernel_rfl) ⟨rfl, ?_⟩ _)
        clear hK K
        gi_wp2
        exact ⟨⟨k + 1, hfit, by go_num, rfl, by rw [unhide HTK]; exact r1, ((unhide hcb).grow hg5 (fun r e => by cases e)).grow r2 (fun r e => by cases e; exact ⟨by omega, by omega, by omega, by omega⟩)⟩, by simp [intOf]; omega⟩
    · have hkk : k = cs.length := by omega
      have hbd : ¬ (k : Int) < (cs.length : Int) := by omega
      subst hkk
      have hfl : ((mkc f cs).flatMap ecC).take (cs.length * 2) = (mkc f cs).flatMap ecC := List.take_of_length_le (by rw [flat_len ecC_len, mkc_length]; exact Nat.le_refl _)
      rw [hfl] at hrw
      have hrt2 : RowsC wr (w.heap.size + 2) (mkc f cs) := by
        refine ⟨(hrw.lt (w.heap.size + 2) rfl).2, fun i hi => ?_⟩
        have hi' : i < cs.length := by rw [mkc_length] at hi; exact hi
        have hcc : ∀ c, c < 2 → wr.cell? ⟨w.heap.size + 2, i * 2 + c, none⟩ = (ecC (mkc f cs)[i])[c]? := fun c hc => by
          rw [hrw.cellAt (i * 2 + c) (by omega)]
          exact flat_get (k := 2) (fun _ => rfl) (by decide) (mkc f cs) i hi c hc
        exact ⟨hcc 0 (by decide), hcc 1 (by decide)⟩
      have hlH2 := hcg.h
      have hxh := hcg.xh
      have hbel := hcg.below
      have hkv : ∀ x ∈ mkc f cs, ∃ l, keyOf Tryz.prog 90 (kvC x) = some l := by
        intro x hx
        obtain ⟨q, hq, rfl⟩ := List.mem_map.1 hx
        obtain ⟨q1, q2⟩ := unhide HI q hq
        have e1 := (unhide HF _ q2).1
        exact keyC _ (by simp; omega) (by simp; omega)
      have hag := agree_any (w.heap.size + 2) cs.length H hl.length (mkc f cs) hl wr (by rw [mkc_length]; omega) (by rw [mkc_length]; exact unhide HLH) hrt2 hkv hlH2
      rw [mkc_length] at hag
      clear hfl hrw hcg hrt2 hlH2 hkv
      gi_wp2
      refine ⟨trivial, (callsIn_wide.2 hag).mono ?_⟩
      rintro e w5 ⟨rfl, hb5⟩
      have hb6 : Below w.heap.size w w5 := hbel.trans ⟨hb5.os, hb5.tape, hb5.output, hb5.size, fun j hj => hb5.block j (by have := hbel.size; omega)⟩
      gi_wp2
      refine ⟨_, results_tmp rfl _ _ _, rfl, hb6⟩

end Go.Proofs.YthcppbmkacbbiaaGreat
