import Derived.Test.YthcppbmkacbbiaaGreatCandA
import Derived.Test.YthcppbmkacbbiaaGreatCandR
import Derived.Test.YthcppbmkacbbiaaGreatClsM
import Derived.Deep.RegionWith
import Derived.Test.YthcppbmkacbbiaaGreatLstGM
namespace Go.Proofs.YthcppbmkacbbiaaGreat
open Go.RowKit Go.Maps Go.WideMaps
open Rdg (Key put)

theorem news_one (w : World) (x : List UInt8) (t : TypeId) : ∀ j u, [str x][j]? = some u → (w.alloc (.cells #[str x] t)).cell? ((⟨w.heap.size, 0, none⟩ : Addr).add j) = some u := by
  intro j u hj
  cases j with
  | zero => simp at hj; subst hj; simp [Addr.add]
  | succ j => simp at hj

theorem news_at (w : World) (x : List UInt8) (t : TypeId) (n : Nat) (hn : w.heap.size = n) : ∀ j u, [str x][j]? = some u → (w.alloc (.cells #[str x] t)).cell? ((⟨n, 0, none⟩ : Addr).add j) = some u := by
  subst hn
  exact news_one w x t

theorem one_str (x : List UInt8) : ∀ u ∈ [str x], u.oneCell' = true := by intro u hu; simp at hu; subst hu; rfl

theorem mul_lt3 {i n sz j : Nat} (hi : i < n) (hj : j < sz) : i * sz + j < n * sz := by
  have h1 : (i + 1) * sz ≤ n * sz := Nat.mul_le_mul_right sz hi
  rw [Nat.add_mul] at h1; omega

theorem rowT_of {w : World} {base e G : Nat} {ts : List Key} (h : w.ownsRow base e 3 (.slice (some ⟨G, 0, none⟩) ts.length ts.length) ts.length (ts.flatMap ecT)) : RowsT w G ts := by
  refine ⟨(h.lt G rfl).2, fun i hi => ?_⟩
  have hc : ∀ c, c < 3 → w.cell? ⟨G, i * 3 + c, none⟩ = (ecT ts[i])[c]? := fun c hc => by
    rw [h.cellAt (i * 3 + c) (mul_lt3 hi hc)]
    exact flat_get (k := 3) (fun _ => rfl) (by decide) ts i hi c hc
  exact ⟨hc 0 (by decide), hc 1 (by decide), hc 2 (by decide)⟩
theorem rowC_of {w : World} {base e G : Nat} {cs : List (Int × Nat)} (h : w.ownsRow base e 2 (.slice (some ⟨G, 0, none⟩) cs.length cs.length) cs.length (cs.flatMap ecC)) : RowsC w G cs := by
  refine ⟨(h.lt G rfl).2, fun i hi => ?_⟩
  have hc : ∀ c, c < 2 → w.cell? ⟨G, i * 2 + c, none⟩ = (ecC cs[i])[c]? := fun c hc => by
    rw [h.cellAt (i * 2 + c) (mul_lt3 hi hc)]
    exact flat_get (k := 2) (fun _ => rfl) (by decide) cs i hi c hc
  exact ⟨hc 0 (by decide), hc 1 (by decide)⟩

theorem tx_below {w wr W2 w4 : World} {G : Nat} (hb : Below w.heap.size w wr) (hg : wr.grownBy W2 none) (r2 : W2.grownBy w4 (some G)) (hG : w.heap.size ≤ G) : Below w.heap.size w w4 :=
  (hb.grown hg hb.size (fun k e => by cases e)).grown r2 (Nat.le_trans hb.size hg.size) (fun k e => by cases e; exact hG)

set_option linter.unusedSimpArgs false in
set_option maxRecDepth 100000 in
set_option maxHeartbeats 1000000 in
theorem termTexts_any (GT GC GP nc np : Nat) (ts : List Key) (w : World) (hl : ts.length ≤ 7) (hrt : RowsT w GT ts) (hi : Rdg.Inv ts) (HLEN : ∀ i, ((Rdg.texts ts).getD i []).length ≤ 100) :
    Calls Tryz.prog 99 #[fv GT GC GP ts.length nc np] w fun e w' => ∃ G, e = .returned (.slice (some ⟨G, 0, none⟩) ts.length ts.length) ∧ w.heap.size ≤ G ∧ G < w'.heap.size ∧ Below w.heap.size w w' ∧
      ∀ j, j < ts.length → w'.cell? ⟨G, j, none⟩ = some (str ((Rdg.texts ts).getD j [])) := by
  unfold fv
  obtain ⟨wb, hwb⟩ : ∃ wb, wb = w.alloc (.cells #[.slice (some ⟨GT, 0, none⟩) ts.length ts.length, .slice (some ⟨GC, 0, none⟩) nc nc, .slice (some ⟨GP, 0, none⟩) np np] 54) := ⟨_, rfl⟩
  obtain ⟨i0, hin, hz0, hz1, hz2⟩ := info_parts infoS
  obtain ⟨w1, hmk, hrow, hg1⟩ := run_make_own (P := Tryz.prog) wb wb.heap.size 116 9 i0 (.string ⟨#[]⟩) 1 Tryz.underlying116 hin hz0 hz1 .i64 .i64 ts.length (by rw [hz2]; omega) (by unfold maxLen; omega) (Nat.le_refl _)
  have hwbs : wb.heap.size = w.heap.size + 1 := by rw [hwb]; simp
  have hlt1 : w.heap.size + 1 < w1.heap.size := by have h := (hrow.lt wb.heap.size rfl).2; rw [hwbs] at h; exact h
  have hc1 : w1.cell? ⟨w.heap.size, 0, none⟩ = some (.slice (some ⟨GT, 0, none⟩) ts.length ts.length) := hg1.cell (by rw [hwb]; simp [go_sem]) (by simp)
  have hb1 : Below w.heap.size w w1 := by
    have h1 : Below w.heap.size w wb := by rw [hwb]; exact (Below.refl _ w).alloc (Nat.le_refl _) _
    exact h1.trans ⟨hg1.os, hg1.tape, hg1.output, hg1.size, fun j hj => hg1.block j (by omega) (by simp)⟩
  have hlG := hrt.1
  rw [hwbs] at hrow
  rw [hwb] at hmk
  have HI := hide hi
  have HRT := hide hrt
  have HWB := hide hwbs
  clear hwb hi hrt hg1 hwbs
  go_enter Tryz.func99, Tryz.ntmps99
  go_wp2_with fail
  have hrow0 : w1.ownsRow 0 9 1 (.slice (some ⟨w.heap.size + 1, 0, none⟩) 0 ts.length) 0 [] := row_base hrow (Nat.zero_le _)
  clear hmk hrow
  go_loopw [3, 13] (fun t i wr => ∃ k : Nat, k ≤ ts.length ∧ i = .int .i64 k ∧ t = .slice (some ⟨w.heap.size + 1, 0, none⟩) k ts.length ∧ wr.ownsRow 0 9 1 (.slice (some ⟨w.heap.size + 1, 0, none⟩) k ts.length) k (((Rdg.texts ts).take k).map str) ∧ Below w.heap.size w wr) (fun _ i _ => ts.length - (intOf i).toNat)
  case atStart => exact ⟨0, Nat.zero_le _, rfl, rfl, hrow0, hb1⟩
  case round =>
    obtain ⟨k, hk, rfl, rfl, hrw, hb⟩ := hrel
    by_cases hlt : k < ts.length
    · have hbd : (k : Int) < (ts.length : Int) := by omega
      obtain ⟨c0, c1, c2⟩ := ((unhide HRT).below hb hlG).2 k hlt
      have hfit : k + 1 ≤ ts.length := hlt
      have hkey : Rdg.okKey k ts[k] := (unhide HI).key k hlt
      have htx : (Rdg.texts ts).getD k [] = Rdg.rend (Rdg.texts ts) ts[k] := (unhide HI).get k hlt
      have hts : ((Rdg.texts ts).take (k + 1)).map str = ((Rdg.texts ts).take k).map str ++ [str ((Rdg.texts ts).getD k [])] := by
        have hk' : k < (Rdg.texts ts).length := by rw [Rdg.texts_length]; exact hlt
        rw [List.take_add_one, List.getElem?_eq_getElem hk', List.map_append, List.getD_eq_getElem?_getD, List.getElem?_eq_getElem hk']; rfl
      have HTX := hide htx
      have HTS := hide hts
      have hap : Hid (∀ W2 : World, wr.grownBy W2 none → W2.ownsRow 0 9 1 (.slice (some ⟨w.heap.size + 1, 0, none⟩) k ts.length) k (((Rdg.texts ts).take k).map str)) := fun W2 h => hrw.kept h (Or.inr (by simp [Value.ownBlock]))
      have hGr : w.heap.size + 1 < wr.heap.size := (hrw.lt (w.heap.size + 1) rfl).2
      clear htx hts
      generalize ts[k] = key at c0 c1 c2 hkey HTX
      obtain ⟨kl, kf, ks⟩ := key
      simp only at c0 c1 c2
      rcases hkey with ⟨g1, g2, g3, g4⟩ | ⟨g1, g2, g3⟩ | ⟨g1, g2, g3⟩
      · simp only at g1 g2 g3 g4
        have u1 : Utf8.encode 97 = ⟨#[97]⟩ := by kernel_rfl
        have u2 : Utf8.encode 98 = ⟨#[98]⟩ := by kernel_rfl
        have u3 : Utf8.encode 99 = ⟨#[99]⟩ := by kernel_rfl
        have u4 : Utf8.encode 100 = ⟨#[100]⟩ := by kernel_rfl
        have u5 : Utf8.encode 101 = ⟨#[101]⟩ := by kernel_rfl
        have hfive : kl = 97 ∨ kl = 98 ∨ kl = 99 ∨ kl = 100 ∨ kl = 101 := by omega
        clear g1 g2 g3 g4
        rcases hfive with rfl | rfl | rfl | rfl | rfl
        · have htx2 : Rdg.rend (Rdg.texts ts) (97, kf, ks) = [97] := rfl
          rw [htx2] at HTX
          clear htx2
          go_wp2_with (refine wpList_append_fits _ rfl (.tmp 19) (.tmp 24) 116 rfl 0 9 i0 1 Tryz.underlying116 hin hz1 _ _ _ _ rfl (unhide hap _ ((World.grownBy_alloc _ _ none).trans (World.grownBy_alloc _ _ none))) _ 1 1 [str [97]] rfl rfl (news_at _ _ _ _ (by simp)) (one_str _) hfit ?_; intro w4 r1 r2)
          exact ⟨⟨k + 1, hfit, by go_num, rfl, by rw [unhide HTS, unhide HTX]; exact r1, tx_below hb (((World.grownBy_alloc _ _ none)).trans (World.grownBy_alloc _ _ none)) r2 (by omega)⟩, by simp [intOf]; omega⟩
        · have htx2 : Rdg.rend (Rdg.texts ts) (98, kf, ks) = [98] := rfl
          rw [htx2] at HTX
          clear htx2
          go_wp2_with (refine wpList_append_fits _ rfl (.tmp 19) (.tmp 24) 116 rfl 0 9 i0 1 Tryz.underlying116 hin hz1 _ _ _ _ rfl (unhide hap _ ((World.grownBy_alloc _ _ none).trans (World.grownBy_alloc _ _ none))) _ 1 1 [str [98]] rfl rfl (news_at _ _ _ _ (by simp)) (one_str _) hfit ?_; intro w4 r1 r2)
          exact ⟨⟨k + 1, hfit, by go_num, rfl, by rw [unhide HTS, unhide HTX]; exact r1, tx_below hb (((World.grownBy_alloc _ _ none)).trans (World.grownBy_alloc _ _ none)) r2 (by omega)⟩, by simp [intOf]; omega⟩
        · have htx2 : Rdg.rend (Rdg.texts ts) (99, kf, ks) = [99] := rfl
          rw [htx2] at HTX
          clear htx2
          go_wp2_with (refine wpList_append_fits _ rfl (.tmp 19) (.tmp 24) 116 rfl 0 9 i0 1 Tryz.underlying116 hin hz1 _ _ _ _ rfl (unhide hap _ ((World.grownBy_alloc _ _ none).trans (World.grownBy_alloc _ _ none))) _ 1 1 [str [99]] rfl rfl (news_at _ _ _ _ (by simp)) (one_str _) hfit ?_; intro w4 r1 r2)
          exact ⟨⟨k + 1, hfit, by go_num, rfl, by rw [unhide HTS, unhide HTX]; exact r1, tx_below hb (((World.grownBy_alloc _ _ none)).trans (World.grownBy_alloc _ _ none)) r2 (by omega)⟩, by simp [intOf]; omega⟩
        · have htx2 : Rdg.rend (Rdg.texts ts) (100, kf, ks) = [100] := rfl
          rw [htx2] at HTX
          clear htx2
          go_wp2_with (refine wpList_append_fits _ rfl (.tmp 19) (.tmp 24) 116 rfl 0 9 i0 1 Tryz.underlying116 hin hz1 _ _ _ _ rfl (unhide hap _ ((World.grownBy_alloc _ _ none).trans (World.grownBy_alloc _ _ none))) _ 1 1 [str [100]] rfl rfl (news_at _ _ _ _ (by simp)) (one_str _) hfit ?_; intro w4 r1 r2)
          exact ⟨⟨k + 1, hfit, by go_num, rfl, by rw [unhide HTS, unhide HTX]; exact r1, tx_below hb (((World.grownBy_alloc _ _ none)).trans (World.grownBy_alloc _ _ none)) r2 (by omega)⟩, by simp [intOf]; omega⟩
        · have htx2 : Rdg.rend (Rdg.texts ts) (101, kf, ks) = [101] := rfl
          rw [htx2] at HTX
          clear htx2
          go_wp2_with (refine wpList_append_fits _ rfl (.tmp 19) (.tmp 24) 116 rfl 0 9 i0 1 Tryz.underlying116 hin hz1 _ _ _ _ rfl (unhide hap _ ((World.grownBy_alloc _ _ none).trans (World.grownBy_alloc _ _ none))) _ 1 1 [str [101]] rfl rfl (news_at _ _ _ _ (by simp)) (one_str _) hfit ?_; intro w4 r1 r2)
          exact ⟨⟨k + 1, hfit, by go_num, rfl, by rw [unhide HTS, unhide HTX]; exact r1, tx_below hb (((World.grownBy_alloc _ _ none)).trans (World.grownBy_alloc _ _ none)) r2 (by omega)⟩, by simp [intOf]; omega⟩
      · simp only at g1 g2 g3
        subst g1
        have g4 : ((kf : Nat) : Int) < (k : Int) := by omega
        have htx2 : Rdg.rend (Rdg.texts ts) (102, kf, ks) = appl 102 [(Rdg.texts ts).getD kf []] := by simp [appl, Rdg.rend, Lib.join_one]
        rw [htx2] at HTX
        clear htx2
        have cG : wr.cell? ⟨w.heap.size + 1, kf, none⟩ = some (str ((Rdg.texts ts).getD kf [])) := by
          rw [hrw.cellAt kf (by omega)]
          simp [List.getD_eq_getElem?_getD, Rdg.texts_length, List.getElem?_take, g2, Nat.lt_trans g2 hlt]
        have hlt1 : ((Rdg.texts ts).getD kf []).length ≤ 100 := HLEN kf
        generalize (Rdg.texts ts).getD kf [] = t1 at HTX cG hlt1
        unfold str at cG
        have HAP : Hid (∀ (W : World) (n : Nat), W.heap.size = n → Calls Tryz.prog 100 #[.int .u8 102, .slice (some ⟨n, 0, none⟩) 1 1] (W.alloc (.cells #[.string ⟨t1.toArray⟩] 9)) fun e w' => e = .returned (str (appl 102 [t1])) ∧ W.grownBy w' none) := fun W n hn => by
          subst hn
          have h := applied_any 102 (by decide) [t1] W.heap.size 1 (W.alloc (.cells #[.string ⟨t1.toArray⟩] 9)) (by simp) (by simp) (by rw [Lib.join_one]; omega) (by simp) (fun j hj => by
            obtain rfl : j = 0 := by simp at hj; omega
            simp [go_sem, str])
          exact h.mono fun e w' ⟨h1, h2⟩ => ⟨h1, ⟨h2.os, h2.tape, h2.output, Nat.le_trans (by simp) h2.size, fun q hq _ => (h2.block q (by simp; omega)).trans (Below.heap_alloc W _ q hq)⟩⟩
        generalize appl 102 [t1] = tn at HTX HAP
        go_wp2_with fail
        refine (unhide HAP _ _ (by simp)).mono ?_
        rintro e w3 ⟨rfl, hg3⟩
        have hg4 : wr.grownBy w3 none := (World.grownBy_alloc _ _ none).trans hg3
        clear HAP
        unfold str
        go_wp2_with (refine wpList_append_fits _ rfl (.tmp 28) (.tmp 36) 116 rfl 0 9 i0 1 Tryz.underlying116 hin hz1 _ _ _ _ rfl (unhide hap _ (hg4.trans (World.grownBy_alloc _ _ none))) _ 1 1 [str tn] rfl rfl (news_at _ _ _ _ rfl) (one_str _) hfit ?_; intro w4 r1 r2)
        exact ⟨⟨k + 1, hfit, by go_num, rfl, by rw [unhide HTS, unhide HTX]; exact r1, tx_below hb (hg4.trans (World.grownBy_alloc _ _ none)) r2 (by omega)⟩, by simp [intOf]; omega⟩
      · simp only at g1 g2 g3
        subst g1
        have g4 : ((kf : Nat) : Int) < (k : Int) := by omega
        have g5 : ((ks : Nat) : Int) < (k : Int) := by omega
        have htx2 : Rdg.rend (Rdg.texts ts) (103, kf, ks) = appl 103 [(Rdg.texts ts).getD kf [], (Rdg.texts ts).getD ks []] := by simp [appl, Rdg.rend, Lib.join_cons, Lib.joinTail]
        rw [htx2] at HTX
        clear htx2
        have cG : wr.cell? ⟨w.heap.size + 1, kf, none⟩ = some (str ((Rdg.texts ts).getD kf [])) := by
          rw [hrw.cellAt kf (by omega)]
          simp [List.getD_eq_getElem?_getD, Rdg.texts_length, List.getElem?_take, g2, Nat.lt_trans g2 hlt]
        have cH : wr.cell? ⟨w.heap.size + 1, ks, none⟩ = some (str ((Rdg.texts ts).getD ks [])) := by
          rw [hrw.cellAt ks (by omega)]
          simp [List.getD_eq_getElem?_getD, Rdg.texts_length, List.getElem?_take, g3, Nat.lt_trans g3 hlt]
        have hlt1 : ((Rdg.texts ts).getD kf []).length ≤ 100 := HLEN kf
        have hlt2 : ((Rdg.texts ts).getD ks []).length ≤ 100 := HLEN ks
        obtain ⟨t1, e1⟩ : ∃ t1, (Rdg.texts ts).getD kf [] = t1 := ⟨_, rfl⟩
        obtain ⟨t2, e2⟩ : ∃ t2, (Rdg.texts ts).getD ks [] = t2 := ⟨_, rfl⟩
        rw [e1] at HTX cG hlt1
        rw [e2] at HTX cH hlt2
        clear e1 e2
        unfold str at cG cH
        have HAP : Hid (∀ (W : World) (n : Nat), W.heap.size = n → Calls Tryz.prog 100 #[.int .u8 103, .slice (some ⟨n, 0, none⟩) 2 2] (W.alloc (.cells #[.string ⟨t1.toArray⟩, .string ⟨t2.toArray⟩] 9)) fun e w' => e = .returned (str (appl 103 [t1, t2])) ∧ W.grownBy w' none) := fun W n hn => by
          subst hn
          have h := applied_any 103 (by decide) [t1, t2] W.heap.size 2 (W.alloc (.cells #[.string ⟨t1.toArray⟩, .string ⟨t2.toArray⟩] 9)) (by simp) (by simp) (by simp [Lib.join_cons, Lib.joinTail]; omega) (by simp) (fun j hj => by
            obtain rfl | rfl : j = 0 ∨ j = 1 := by simp at hj; omega
            · simp [go_sem, str]
            · simp [go_sem, str])
          exact h.mono fun e w' ⟨h1, h2⟩ => ⟨h1, ⟨h2.os, h2.tape, h2.output, Nat.le_trans (by simp) h2.size, fun q hq _ => (h2.block q (by simp; omega)).trans (Below.heap_alloc W _ q hq)⟩⟩
        generalize appl 103 [t1, t2] = tn at HTX HAP
        go_wp2_with fail
        have hga : wr.grownBy (wr.alloc (.cells #[.int .u8 103, .int .i64 kf, .int .i64 ks] 87)) none := World.grownBy_alloc _ _ none
        refine wp_region_held (S := fun W' => W'.cell? ⟨wr.heap.size, 1, none⟩ = some (.int .i64 kf) ∧ W'.cell? ⟨wr.heap.size, 2, none⟩ = some (.int .i64 ks) ∧ W'.cell? ⟨w.heap.size + 1, kf, none⟩ = some (.string ⟨t1.toArray⟩) ∧ W'.cell? ⟨w.heap.size + 1, ks, none⟩ = some (.string ⟨t2.toArray⟩)) rfl ?_
        obtain ⟨W1, hW1⟩ : ∃ W1, wr.alloc (.cells #[.int .u8 103, .int .i64 kf, .int .i64 ks] 87) = W1 := ⟨_, rfl⟩
        have hS0 : W1.drew.cell? ⟨wr.heap.size, 1, none⟩ = some (.int .i64 kf) ∧ W1.drew.cell? ⟨wr.heap.size, 2, none⟩ = some (.int .i64 ks) ∧ W1.drew.cell? ⟨w.heap.size + 1, kf, none⟩ = some (.string ⟨t1.toArray⟩) ∧ W1.drew.cell? ⟨w.heap.size + 1, ks, none⟩ = some (.string ⟨t2.toArray⟩) := by
          rw [← hW1]
          exact ⟨by simp [go_sem], by simp [go_sem], hga.cell cG (by simp), hga.cell cH (by simp)⟩
        have hsz1 : W1.heap.size = wr.heap.size + 1 := by rw [← hW1]; simp
        have hg1 : wr.grownBy W1.drew none := by rw [← hW1]; exact ⟨rfl, rfl, rfl, by simp, fun j hj _ => Below.heap_alloc _ _ _ hj⟩
        rw [hW1] at hga ⊢
        have HS1 := hide hsz1
        clear hW1 hsz1
        change wpAnyH Tryz.prog .any _ _ _ 16 #[false, false, false, false, false, false, false, false, false, false, false, false, false, false, false, false] _ W1.drew
        refine wpAnyH_take (i := 0) (v := .slice (some ⟨w.heap.size + 1, 0, none⟩) k ts.length) rfl (by kernel_rfl) (by kernel_rfl) (by kernel_rfl) (fun _ _ _ h => h) (Or.inl ⟨by rfl, fun w' hS => ?_⟩) hS0 ?_
        · obtain ⟨s1, s2, s3, s4⟩ := hS
          go_simp
        simp only [List.getElem_toArray, List.getElem_cons_zero, List.getElem_cons_succ, Act.put, List.setIfInBounds_toArray, List.set_cons_zero, List.set_cons_succ]
        refine wpAnyH_take (i := 1) (v := .slice (some ⟨w.heap.size + 1, 0, none⟩) k ts.length) rfl (by kernel_rfl) (by kernel_rfl) (by kernel_rfl) (fun _ _ _ h => h) (Or.inl ⟨by rfl, fun w' hS => ?_⟩) hS0 ?_
        · obtain ⟨s1, s2, s3, s4⟩ := hS
          go_simp
        simp only [List.getElem_toArray, List.getElem_cons_zero, List.getElem_cons_succ, Act.put, List.setIfInBounds_toArray, List.set_cons_zero, List.set_cons_succ]
        refine wpAnyH_take (i := 2) (v := .pointer (some ⟨wr.heap.size, 1, none⟩)) rfl (by kernel_rfl) (by kernel_rfl) (by kernel_rfl) (fun _ _ _ h => h) (Or.inl ⟨by rfl, fun w' hS => ?_⟩) hS0 ?_
        · obtain ⟨s1, s2, s3, s4⟩ := hS
          go_simp
        simp only [List.getElem_toArray, List.getElem_cons_zero, List.getElem_cons_succ, Act.put, List.setIfInBounds_toArray, List.set_cons_zero, List.set_cons_succ]
        refine wpAnyH_take (i := 3) (v := .int .i64 kf) rfl (by kernel_rfl) (by kernel_rfl) (by kernel_rfl) (fun _ _ _ h => h) (Or.inl ⟨by rfl, fun w' hS => ?_⟩) hS0 ?_
        · obtain ⟨s1, s2, s3, s4⟩ := hS
          go_simp
        simp only [List.getElem_toArray, List.getElem_cons_zero, List.getElem_cons_succ, Act.put, List.setIfInBounds_toArray, List.set_cons_zero, List.set_cons_succ]
        refine wpAnyH_take (i := 4) (v := .pointer (some ⟨w.heap.size + 1, kf, none⟩)) rfl (by kernel_rfl) (by kernel_rfl) (by kernel_rfl) (fun _ _ _ h => h) (Or.inl ⟨by rfl, fun w' hS => ?_⟩) hS0 ?_
        · obtain ⟨s1, s2, s3, s4⟩ := hS
          go_simp
        simp only [List.getElem_toArray, List.getElem_cons_zero, List.getElem_cons_succ, Act.put, List.setIfInBounds_toArray, List.set_cons_zero, List.set_cons_succ]
        refine wpAnyH_take (i := 5) (v := .string ⟨t1.toArray⟩) rfl (by kernel_rfl) (by kernel_rfl) (by kernel_rfl) (fun _ _ _ h => h) (Or.inl ⟨by rfl, fun w' hS => ?_⟩) hS0 ?_
        · obtain ⟨s1, s2, s3, s4⟩ := hS
          go_simp
        simp only [List.getElem_toArray, List.getElem_cons_zero, List.getElem_cons_succ, Act.put, List.setIfInBounds_toArray, List.set_cons_zero, List.set_cons_succ]
        refine wpAnyH_take (i := 6) (v := .slice (some ⟨w.heap.size + 1, 0, none⟩) k ts.length) rfl (by kernel_rfl) (by kernel_rfl) (by kernel_rfl) (fun _ _ _ h => h) (Or.inl ⟨by rfl, fun w' hS => ?_⟩) hS0 ?_
        · obtain ⟨s1, s2, s3, s4⟩ := hS
          go_simp
        simp only [List.getElem_toArray, List.getElem_cons_zero, List.getElem_cons_succ, Act.put, List.setIfInBounds_toArray, List.set_cons_zero, List.set_cons_succ]
        refine wpAnyH_take (i := 7) (v := .pointer (some ⟨wr.heap.size, 2, none⟩)) rfl (by kernel_rfl) (by kernel_rfl) (by kernel_rfl) (fun _ _ _ h => h) (Or.inl ⟨by rfl, fun w' hS => ?_⟩) hS0 ?_
        · obtain ⟨s1, s2, s3, s4⟩ := hS
          go_simp
        simp only [List.getElem_toArray, List.getElem_cons_zero, List.getElem_cons_succ, Act.put, List.setIfInBounds_toArray, List.set_cons_zero, List.set_cons_succ]
        refine wpAnyH_take (i := 8) (v := .int .i64 ks) rfl (by kernel_rfl) (by kernel_rfl) (by kernel_rfl) (fun _ _ _ h => h) (Or.inl ⟨by rfl, fun w' hS => ?_⟩) hS0 ?_
        · obtain ⟨s1, s2, s3, s4⟩ := hS
          go_simp
        simp only [List.getElem_toArray, List.getElem_cons_zero, List.getElem_cons_succ, Act.put, List.setIfInBounds_toArray, List.set_cons_zero, List.set_cons_succ]
        refine wpAnyH_take (i := 9) (v := .pointer (some ⟨w.heap.size + 1, ks, none⟩)) rfl (by kernel_rfl) (by kernel_rfl) (by kernel_rfl) (fun _ _ _ h => h) (Or.inl ⟨by rfl, fun w' hS => ?_⟩) hS0 ?_
        · obtain ⟨s1, s2, s3, s4⟩ := hS
          go_simp
        simp only [List.getElem_toArray, List.getElem_cons_zero, List.getElem_cons_succ, Act.put, List.setIfInBounds_toArray, List.set_cons_zero, List.set_cons_succ]
        refine wpAnyH_take (i := 10) (v := .string ⟨t2.toArray⟩) rfl (by kernel_rfl) (by kernel_rfl) (by kernel_rfl) (fun _ _ _ h => h) (Or.inl ⟨by rfl, fun w' hS => ?_⟩) hS0 ?_
        · obtain ⟨s1, s2, s3, s4⟩ := hS
          go_simp
        simp only [List.getElem_toArray, List.getElem_cons_zero, List.getElem_cons_succ, Act.put, List.setIfInBounds_toArray, List.set_cons_zero, List.set_cons_succ]
        have hSt : Hid (∀ W' : World, W1.drew.grownBy W' none → W'.cell? ⟨wr.heap.size, 1, none⟩ = some (.int .i64 kf) ∧ W'.cell? ⟨wr.heap.size, 2, none⟩ = some (.int .i64 ks) ∧ W'.cell? ⟨w.heap.size + 1, kf, none⟩ = some (.string ⟨t1.toArray⟩) ∧ W'.cell? ⟨w.heap.size + 1, ks, none⟩ = some (.string ⟨t2.toArray⟩)) := fun W' hg => ⟨hg.cell hS0.1 (by simp), hg.cell hS0.2.1 (by simp), hg.cell hS0.2.2.1 (by simp), hg.cell hS0.2.2.2 (by simp)⟩
        refine wpAnyH_one (i := 11) (by kernel_rfl) rfl (by rfl) (fun K hK => ?_)
        go_simp
        refine hK.out _ _ (unhide hSt _ (World.grownBy_alloc W1.drew (.cells #[.string ⟨t1.toArray⟩, .string ⟨t2.toArray⟩] 9) none)) ?_
        clear hK K
        simp only [List.getElem_toArray, List.getElem_cons_zero, List.getElem_cons_succ, Act.put, List.setIfInBounds_toArray, List.set_cons_zero, List.set_cons_succ]
        refine wpAnyH_one (i := 12) (by kernel_rfl) rfl (by rfl) (fun K hK => ?_)
        go_simp
        refine (unhide HAP W1.drew _ rfl).mono ?_
        rintro e w3 ⟨rfl, hg3⟩
        refine hK.out _ _ (unhide hSt _ hg3) ?_
        clear hK K HAP
        unfold str
        simp only [List.getElem_toArray, List.getElem_cons_zero, List.getElem_cons_succ, Act.put, List.setIfInBounds_toArray, List.set_cons_zero, List.set_cons_succ]
        refine wpAnyH_one (i := 13) (by kernel_rfl) rfl (by rfl) (fun K hK => ?_)
        go_simp
        have hg4 : W1.drew.grownBy (w3.alloc (.cells #[.string ⟨tn.toArray⟩] 9)) none := hg3.trans (World.grownBy_alloc _ _ none)
        refine hK.out _ _ (unhide hSt _ hg4) ?_
        clear hK K
        simp only [List.getElem_toArray, List.getElem_cons_zero, List.getElem_cons_succ, Act.put, List.setIfInBounds_toArray, List.set_cons_zero, List.set_cons_succ]
        have hg5 : wr.grownBy (w3.alloc (.cells #[.string ⟨tn.toArray⟩] 9)) none := hg1.trans hg4
        refine wpAnyH_one (i := 14) (by kernel_rfl) rfl (by rfl) (fun K hK => ?_)
        refine step_fits (.tmp 40) (.tmp 53) 116 rfl 0 9 i0 1 Tryz.underlying116 hin hz1 _ _ _ _ rfl (unhide hap _ hg5) _ 1 1 [str tn] rfl rfl (news_at _ _ _ _ rfl) (one_str _) hfit ?_
        intro w4 r1 r2
        have q0 := unhide hSt _ hg4
        have hne : wr.heap.size ≠ w.heap.size + 1 := by omega
        have rc : ∀ j, j < k → w4.cell? ⟨w.heap.size + 1, j, none⟩ = (w3.alloc (.cells #[.string ⟨tn.toArray⟩] 9)).cell? ⟨w.heap.size + 1, j, none⟩ := fun j hj => by
          have e1 := (unhide hap _ hg5).cellAt j (by omega)
          rw [r1.cellAt j (by omega), e1, List.getElem?_append_left]
          rw [List.length_map, List.length_take, Rdg.texts_length]; omega
        have hS4 : w4.cell? ⟨wr.heap.size, 1, none⟩ = some (.int .i64 kf) ∧ w4.cell? ⟨wr.heap.size, 2, none⟩ = some (.int .i64 ks) ∧ w4.cell? ⟨w.heap.size + 1, kf, none⟩ = some (.string ⟨t1.toArray⟩) ∧ w4.cell? ⟨w.heap.size + 1, ks, none⟩ = some (.string ⟨t2.toArray⟩) :=
          ⟨r2.cell q0.1 (by simpa using hne), r2.cell q0.2.1 (by simpa using hne), (rc kf g2).trans q0.2.2.1, (rc ks g3).trans q0.2.2.2⟩
        refine hK.out _ _ hS4 ?_
        clear hK K
        simp only [List.getElem_toArray, List.getElem_cons_zero, List.getElem_cons_succ, Act.put, List.setIfInBounds_toArray, List.set_cons_zero, List.set_cons_succ]
        refine wpAnyH_one (i := 15) (by kernel_rfl) rfl (by rfl) (fun K hK => ?_)
        go_simp
        refine hK.out _ _ hS4 (wpAnyH_done (by kernel_rfl) ?_ _)
        clear hK K
        go_wp2_with fail
        exact ⟨⟨k + 1, hfit, by go_num, rfl, by rw [unhide HTS, unhide HTX]; exact r1, tx_below hb hg5 r2 (by omega)⟩, by simp [intOf]; omega⟩
    · have hkk : k = ts.length := by omega
      have HKK := hide hkk
      clear hkk
      have hbd : ¬ (k : Int) < (ts.length : Int) := by omega
      go_wp2_with fail
      go_ret
      have hkk := unhide HKK
      subst hkk
      refine ⟨w.heap.size + 1, rfl, by omega, (hrw.lt (w.heap.size + 1) rfl).2, hb, fun j hj => ?_⟩
      rw [hrw.cellAt j (by omega)]
      simp [List.getD_eq_getElem?_getD, Rdg.texts_length, hj]

end Go.Proofs.YthcppbmkacbbiaaGreat
