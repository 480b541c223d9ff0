import Derived.Test.YthfjhjghohincaaCandX
namespace Go.Proofs.Ythfjhjghohincaa
open Go.RowKit Go.Maps Go.WideMaps
open Rdg (Key put)

theorem orderC_any (BC : Nat) (w : World) : Calls Try.prog 30 #[.map (some BC)] w fun e w' =>
    e = .returned (.func (.func 49) #[] #[.pointer (some ⟨w.heap.size, 0, none⟩)]) ∧ w' = w.alloc (.cells #[.map (some BC)] 50) := by
  go_enter Try.func30, Try.ntmps30
  go_wp2_with fail
  go_ret
  exact ⟨rfl, rfl⟩

/-- What claims write. -/
def ctx (ts : List Key) (cs : List (Int × Nat)) : List (List UInt8) := cs.map (Rdg.rendC (Rdg.texts ts))

theorem ctx_length (ts : List Key) (cs : List (Int × Nat)) : (ctx ts cs).length = cs.length := by simp [ctx]

theorem join_sp (T : List (List UInt8)) (bk cap : Nat) (w : World) (hT : T.length ≤ 10) (hcap : T.length ≤ cap) (hlen : (spc T).length ≤ 2000) (hbk : bk < w.heap.size) (hcells : ∀ j (hj : j < T.length), w.cell? ⟨bk, j, none⟩ = some (str T[j])) :
    Calls Try.prog 32 #[.slice (some ⟨bk, 0, none⟩) T.length cap, .string ⟨#[32]⟩] w fun e w' => e = .returned (.string ⟨(spc T).toArray⟩) ∧ Below w.heap.size w w' := by
  have e1 : (T.map (fun t => (⟨t.toArray⟩ : ByteArray))).map (·.data.toList) = T := by simp [List.map_map, Function.comp_def]
  have e2 : (T.map (fun t => (⟨t.toArray⟩ : ByteArray))).length = T.length := by simp
  have h := Try.strings_Join bk 0 cap (T.map (fun t => (⟨t.toArray⟩ : ByteArray))) ⟨#[32]⟩ w (fun j x hx => by
    rw [List.getElem?_map] at hx
    by_cases hj : j < T.length
    · rw [List.getElem?_eq_getElem hj] at hx
      simp at hx
      subst hx
      rw [Nat.zero_add]; exact hcells j hj
    · rw [List.getElem?_eq_none (by omega)] at hx; simp at hx) hbk (by omega) (by omega) (by rw [e1]; exact Nat.le_trans hlen (by omega))
  rw [e1, e2] at h
  exact h

theorem wpIn_normal {F : Fence} {n : Nat} {P : Program} {c : Code} {K : Act → World → Prop} {Q' : Exit → Act → World → Prop} {a : Act} {w : World} (h : c.wpIn F n P (fun e a w => e = .normal ∧ K a w) a w) : c.wpIn F n P (Exit.then K Q') a w :=
  wpIn_mono h (fun e a w h => by obtain ⟨rfl, h⟩ := h; exact h)

theorem region_out {P : Program} {ops : Array Oper} {Q : Exit → Act → World → Prop} {n id : Nat} {a : Act} {w : World} (S : World → Prop) (z fuel : Nat) (listed : Array Bool) (hm : P.follows .mixedOrders = true) (hf : ops.size = fuel) (hl : Array.replicate ops.size false = listed)
    (h : wpAnyL P .any ops Q S z fuel listed a w.drew) : (Code.region id ops true).wpIn Fence.wide n P Q a w := by
  subst hf
  subst hl
  exact wpIn_wide.2 (wp_region_any hm (wpAny_of_last _ _ _ _ h))

attribute [local go_sem] Oper.semAt_some

set_option linter.unusedSimpArgs false in
set_option maxRecDepth 100000 in
set_option maxHeartbeats 1000000 in
theorem text_any (BT BC : Nat) (ts : List Key) (cs : List (Int × Nat)) (w : World) (hl : ts.length ≤ 7) (hnd : ts.Nodup) (hM : MapIs w 97 BT kvT ts) (hv : ∀ x ∈ ts, ∃ l, keyOf Try.prog 97 (kvT x) = some l) (hi : Rdg.Inv ts) (HLEN : ∀ i, ((Rdg.texts ts).getD i []).length ≤ 100)
    (hlc : cs.length ≤ 4) (hndc : cs.Nodup) (hMc : MapIs w 80 BC kvC cs) (hvc : ∀ x ∈ cs, ∃ l, keyOf Try.prog 80 (kvC x) = some l) (hic : Rdg.InvC ts cs) (HLENC : ∀ t ∈ ctx ts cs, t.length ≤ 100) :
    Calls Try.prog 20 #[.agg #[.map (some BT), .map (some BC)]] w fun e w' => e = .returned (str (spc (Rdg.texts ts) ++ 47 :: spc (ctx ts cs))) ∧ Below w.heap.size w w' := by
  refine (callsIn_wide (n := 5)).1 ?_
  have hbB : Below w.heap.size w (w.alloc (.cells #[.map (some BT), .map (some BC)] 52)) := (Below.refl _ w).alloc (Nat.le_refl _) _
  have hMb := hM.kept (Below.heap_alloc w (.cells #[.map (some BT), .map (some BC)] 52) BT hM.lt)
  have hMcb := hMc.kept (Below.heap_alloc w (.cells #[.map (some BT), .map (some BC)] 52) BC hMc.lt)
  have HTT := hide (termTexts_any BT BC ts (w.alloc (.cells #[.map (some BT), .map (some BC)] 52)) hl hnd hMb hv hi HLEN)
  have hltC : BC < (w.alloc (.cells #[.map (some BT), .map (some BC)] 52)).heap.size := hMcb.lt
  have HMC := hide hMcb
  have HIC := hide hic
  have HBB := hide hbB
  clear hM hMc hMb hMcb hi hic hbB hnd hv
  refine callsIn_of_wp_marks Try.func20 rfl trivial ?_ rfl
  simp only [Try.ntmps20, List.size_toArray, List.length_cons, List.length_nil, Nat.reduceAdd, Nat.reduceSub, Array.replicate_succ, Array.replicate_zero, List.push_toArray, List.append_toArray, List.nil_append, List.cons_append]
  gi_wp2
  refine ⟨trivial, (callsIn_wide.2 (unhide HTT)).mono ?_⟩
  rintro e wt ⟨G1, rfl, hG1, hG1t, hbt, hcG⟩
  obtain ⟨wy, hwy⟩ : ∃ wy, wy = wt.alloc (.cells #[.slice (some ⟨G1, 0, none⟩) ts.length ts.length] 60) := ⟨_, rfl⟩
  have hwyG : wt.grownBy wy none := by rw [hwy]; exact World.grownBy_alloc _ _ none
  have hwys : wy.heap.size = wt.heap.size + 1 := by rw [hwy]; simp
  have hMy : MapIs wy 80 BC kvC cs := by
    refine ((unhide HMC).kept (w' := wt) (hbt.block BC hltC)).kept (hwyG.block BC (Nat.lt_of_lt_of_le hltC hbt.size) (by simp))
  have hcY : ∀ j, j < ts.length → wy.cell? ⟨G1, j, none⟩ = some (str ((Rdg.texts ts).getD j [])) := fun j hj => hwyG.cell (hcG j hj) (by simp)
  have hcy : wy.cell? ⟨wt.heap.size, 0, none⟩ = some (.slice (some ⟨G1, 0, none⟩) ts.length ts.length) := by rw [hwy]; simp [go_sem]
  have hws : (w.alloc (.cells #[.map (some BT), .map (some BC)] 52)).heap.size = w.heap.size + 1 := by simp
  have hby : Below w.heap.size w wy := by
    have h1 := unhide HBB
    have h2 : Below w.heap.size (w.alloc (.cells #[.map (some BT), .map (some BC)] 52)) wt := ⟨hbt.os, hbt.tape, hbt.output, hbt.size, fun j hj => hbt.block j (by rw [hws]; omega)⟩
    have h3 : Below w.heap.size wt wy := ⟨hwyG.os, hwyG.tape, hwyG.output, hwyG.size, fun j hj => hwyG.block j (by have := h2.size; rw [hws] at this; omega) (by simp)⟩
    exact (h1.trans h2).trans h3
  have hbox0 : wt.cell? ⟨w.heap.size, 0, none⟩ = some (.map (some BT)) := (hbt.cell (p := ⟨w.heap.size, 0, none⟩) (by simp)).trans (by simp [go_sem])
  have hbox1 : wt.cell? ⟨w.heap.size, 1, none⟩ = some (.map (some BC)) := (hbt.cell (p := ⟨w.heap.size, 1, none⟩) (by simp)).trans (by simp [go_sem])
  have hwlt : w.heap.size < wt.heap.size := by have h := hbt.size; rw [hws] at h; omega
  rw [hws] at hG1
  obtain ⟨D, hown, hsz, hall, hback⟩ := id hMy
  obtain ⟨i0, hin, hz0, hz1, hz2⟩ := info_parts infoS
  have hlen := fun ty => hown.len Try.underlying50 ty
  obtain ⟨w1, hmk, hrow, hg1⟩ := run_make_own (P := Try.prog) wy wy.heap.size 60 9 i0 (.string ⟨#[]⟩) 1 Try.underlying60 hin hz0 hz1 .i64 .i64 (Maps.size D) (by rw [hz2, hsz]; omega) (by rw [hsz]; unfold maxLen; omega) (Nat.le_refl _)
  have hlt1 : wy.heap.size < w1.heap.size := (hrow.lt wy.heap.size rfl).2
  have hcb : w1.cell? ⟨w.heap.size, 1, none⟩ = some (.map (some BC)) := hg1.cell (hwyG.cell hbox1 (by simp)) (by simp)
  have hwl1 : w.heap.size < w1.heap.size := by omega
  rw [hwy] at hlen hmk
  have HSZ := hide hsz
  have HMY := hide hMy
  have HWY := hide hwy
  have HWYS := hide hwys
  have HBT := hide hbt
  have HCG := hide hcG
  have HCY := hide hcY
  clear hall hback hsz hMy hwy hwys hbt hcG hcY HTT hws HMC
  gi_wp2
  refine ⟨trivial, (callsIn_wide.2 (orderC_any BC _)).mono ?_⟩
  rintro e w2 ⟨rfl, rfl⟩
  gi_wp2
  have hn := unhide HSZ
  obtain ⟨w2, hw2⟩ : ∃ w2, (w1.alloc (.cells #[.slice (some ⟨wt.heap.size + 1, 0, none⟩) 0 (Maps.size D)] 60)).alloc (.cells #[.map (some BC)] 50) = w2 := ⟨_, rfl⟩
  have hwys := unhide HWYS
  have hs2 : w2.heap.size = w1.heap.size + 2 := by rw [← hw2]; simp
  have hBn2 : w2.cell? ⟨w1.heap.size + 1, 0, none⟩ = some (.map (some BC)) := by rw [← hw2]; simp [go_sem]
  have hx2 : w2.cell? ⟨w1.heap.size, 0, none⟩ = some (.slice (some ⟨wt.heap.size + 1, 0, none⟩) 0 (Maps.size D)) := by rw [← hw2]; simp [go_sem]
  have hfx2 : w2.frozen? ⟨w1.heap.size, 0, none⟩ = false := by rw [← hw2]; simp [go_sem]
  have hg2 : wy.grownBy w2 none := by rw [← hw2]; exact (hg1.trans (World.grownBy_alloc _ _ none)).trans (World.grownBy_alloc _ _ none)
  have hM2 : MapIs w2 80 BC kvC cs := (unhide HMY).kept (hg2.block BC (unhide HMY).lt (by simp))
  have hrow2 : w2.ownsRow 0 9 1 (.slice (some ⟨wt.heap.size + 1, 0, none⟩) 0 (Maps.size D)) 0 [] := by
    rw [← hw2]
    rw [hwys] at hrow
    have h := (hrow.alloc (.cells #[.slice (some ⟨wt.heap.size + 1, 0, none⟩) 0 (Maps.size D)] 60)).alloc (.cells #[.map (some BC)] 50)
    exact ⟨h.1, h.2.imp id (fun ⟨g, cap, cur, h1, h2, h3⟩ => ⟨g, cap, cur, h1, Nat.zero_le _, h3⟩)⟩
  have hb2 : Below wy.heap.size wy w2 := ⟨hg2.os, hg2.tape, hg2.output, hg2.size, fun j hj => hg2.block j hj (by simp)⟩
  have hseq := iterC_all Fence.wide 4 trivial rfl (by omega) (w1.heap.size + 1) BC w2.heap.size cs w2 (Nat.le_refl _) (by omega) hndc hBn2 hM2 hvc
  rw [hw2]
  clear hw2 hmk hlen hcb hrow hg1 hown hin hz0 hz1 hz2 hg2 i0
  rw [hn] at hx2 hrow2 ⊢
  clear hn
  have hTI : TI wy w1.heap.size (wt.heap.size + 1) cs.length (ctx ts cs) 0 w2 := ⟨hx2, hfx2, hrow2, hb2⟩
  clear hx2 hfx2 hrow2 hb2 HSZ
  refine wpIn_rangeFunc_seq rfl (by omega) rfl trivial (fun _ _ => by simp [go_sem]) hseq KCells.trans ?_ (Below.refl _ _) ?_ (TI wy w1.heap.size (wt.heap.size + 1) cs.length (ctx ts cs)) (TI.own _ (by omega) (by omega) (by omega)) hTI
    (fun k a' W => ∃ p, p < W.heap.size ∧ p ≠ w1.heap.size ∧ p ≠ wt.heap.size + 1 ∧ W.cell? ⟨p, 0, none⟩ = some (cellC (cs.getD k (0, 0)) 0) ∧ W.cell? ⟨p, 1, none⟩ = some (cellC (cs.getD k (0, 0)) 1) ∧
      a' = { tmps := #[.agg #[.map (some BT), .map (some BC)], .pointer (some ⟨w.heap.size, 0, none⟩), .string ⟨#[]⟩, .pointer (some ⟨wt.heap.size, 0, none⟩), .pointer (some ⟨w1.heap.size, 0, none⟩), .pointer (some ⟨p, 0, none⟩), .agg #[.map (some BT), .map (some BC)], .slice (some ⟨G1, 0, none⟩) ts.length ts.length,
          .pointer (some ⟨w.heap.size, 1, none⟩), .map (some BC), .int .i64 cs.length, .slice (some ⟨wt.heap.size + 1, 0, none⟩) 0 cs.length, .pointer (some ⟨w.heap.size, 1, none⟩), .map (some BC), .func (.func 49) #[] #[.pointer (some ⟨w1.heap.size + 1, 0, none⟩)], kvC (cs.getD k (0, 0)),
          undef, undef, undef, undef, undef, undef, undef, undef, undef, undef, undef, undef, undef, undef, undef, undef, undef, undef], defers := [] }) ?own ?assign ?body ?done
  · intro W l o o' hl ho hc _ j x hj hx hxc
    refine (World.putObj_heap_other (fun e => ?_)).trans hx
    subst e
    rw [ho] at hx
    cases hx
    rw [hc] at hxc
    cases hxc
  · intro k hk; simp
  case own =>
    rintro k a' ⟨⟩ W W' row ⟨p, hp, hp1, hp2, c0, c1, e⟩ hg hr
    have hr' : ∀ r, row = some r → ∃ o : Obj, W.heap[r]? = some o ∧ o.isCells = false := fun r e => (hr r e).2
    exact ⟨p, Nat.lt_of_lt_of_le hp hg.size, hp1, hp2, cell_own c0 hg hr', cell_own c1 hg hr', e⟩
  case assign =>
    intro l k hk W K hI hK
    have hk' : k < cs.length := by simpa using hk
    have e1 : (List.map (fun x => #[kvC x]) cs)[k]'hk = #[kvC (cs.getD k (0, 0))] := by simp [List.getD_eq_getElem?_getD, List.getElem?_eq_getElem hk']
    rw [e1]
    generalize cs.getD k (0, 0) = key at hK
    obtain ⟨kc, kf⟩ := key
    have hlt := hI.lt
    simp only [kvC] at hK ⊢
    gi_wp2
    refine hK _ _ ((KeepsOthers.alloc _ _).from _) (fun j o hj ho hc => (Below.heap_alloc _ _ _ (Array.getElem?_eq_some_iff.1 ho).1).trans ho) ((TI.own w2.heap.size (by omega) (by omega) (by omega)).alloc _ hI) ⟨W.heap.size, by simp, by omega, by omega, ?_, ?_, rfl⟩
    all_goals simp [cellC, go_sem]
  case body =>
    rintro l k a' W hk hl hI ⟨p, hp, hp1, hp2, c0, c1, rfl⟩
    have hk' : k < cs.length := by simpa using hk
    have hXB : w1.heap.size < w2.heap.size := by omega
    have hGB : wt.heap.size + 1 < w2.heap.size := by omega
    have hwX : wy.heap.size ≤ w1.heap.size := by omega
    have hwG : wy.heap.size ≤ wt.heap.size + 1 := by omega
    have hXG : w1.heap.size ≠ wt.heap.size + 1 := by omega
    have hGX : wt.heap.size + 1 ≠ w1.heap.size := by omega
    have hG1G : G1 ≠ wt.heap.size + 1 := by omega
    have hix := hI.x
    have hifx := hI.fx
    have hlX := hI.lt.1
    have hlG := hI.lt.2
    have hcc : Rdg.okC ts.length (cs.getD k (0, 0)) := by
      have h := unhide HIC cs[k] (List.getElem_mem hk')
      simpa [List.getD_eq_getElem?_getD, hk'] using h
    have htx : (ctx ts cs).getD k [] = Rdg.rendC (Rdg.texts ts) (cs.getD k (0, 0)) := by simp [ctx, List.getD_eq_getElem?_getD, hk']
    have hfit : k + 1 ≤ cs.length := hk'
    obtain ⟨i0, hin, hz0, hz1, hz2⟩ := info_parts infoS
    have HTX := hide htx
    have cY : W.cell? ⟨wt.heap.size, 0, none⟩ = some (.slice (some ⟨G1, 0, none⟩) ts.length ts.length) := (hI.below.cell (p := ⟨wt.heap.size, 0, none⟩) (by show wt.heap.size < wy.heap.size; omega)).trans hcy
    generalize cs.getD k (0, 0) = key at c0 c1 hcc HTX
    obtain ⟨kc, kf⟩ := key
    obtain ⟨g1, g2⟩ := hcc
    simp only at g1 g2
    have g4 : ((kf : Nat) : Int) < (ts.length : Int) := by omega
    have cG : W.cell? ⟨G1, kf, none⟩ = some (str ((Rdg.texts ts).getD kf [])) := (hI.below.cell (p := ⟨G1, kf, none⟩) (by show G1 < wy.heap.size; omega)).trans (unhide HCY kf g2)
    have hlt1 : ((Rdg.texts ts).getD kf []).length ≤ 100 := HLEN kf
    unfold Rdg.rendC at HTX
    simp only at HTX
    generalize (Rdg.texts ts).getD kf [] = t1 at HTX cG hlt1
    unfold str at cG
    simp only [cellC] at c0 c1
    simp at c1
    have hap : Hid (∀ W2 : World, W.grownBy W2 none → W2.ownsRow 0 9 1 (.slice (some ⟨wt.heap.size + 1, 0, none⟩) k cs.length) k (((ctx ts cs).take k).map str)) := fun W2 h => hI.row.kept h (Or.inr (by simp [Value.ownBlock]))
    clear hs2 hwys htx hBn2 hM2 hseq hTI hcy
    simp only [if_true] at c0
    rcases g1 with rfl | rfl
    · have HAP : Hid (Calls Try.prog 31 #[.int .u8 80, .slice (some ⟨W.heap.size, 0, none⟩) 1 1] (W.alloc (.cells #[.string ⟨t1.toArray⟩] 9)).drew fun e w' => e = .returned (str (appl 80 [t1])) ∧ Below (W.heap.size + 1) (W.alloc (.cells #[.string ⟨t1.toArray⟩] 9)) w') := by
        have h := applied_any 80 (by decide) [t1] W.heap.size 1 (W.alloc (.cells #[.string ⟨t1.toArray⟩] 9)).drew (by simp) (by simp) (by rw [Lib.join_one]; omega) (by simp) (fun j hj => by
          obtain rfl : j = 0 := by simp at hj; omega
          simp [go_sem, str])
        exact h.mono fun e w' ⟨h1, h2⟩ => ⟨h1, ⟨h2.os, h2.tape, h2.output, h2.size, fun q hq => h2.block q (by simpa using hq)⟩⟩
      have htx2 : Hid ((ctx ts cs).getD k [] = appl 80 [t1]) := by
        refine hide ?_
        rw [unhide HTX]
        simp [appl, Lib.join_one]
      generalize appl 80 [t1] = tn at htx2 HAP
      clear HTX
      gi_wp2
      refine region_last (fun W' => W'.cell? ⟨w1.heap.size, 0, none⟩ = some (.slice (some ⟨wt.heap.size + 1, 0, none⟩) k cs.length) ∧ W'.cell? ⟨p, 0, none⟩ = some (.int .u8 80) ∧ W'.cell? ⟨p, 1, none⟩ = some (.int .i64 kf) ∧ W'.cell? ⟨wt.heap.size, 0, none⟩ = some (.slice (some ⟨G1, 0, none⟩) ts.length ts.length) ∧ W'.cell? ⟨G1, kf, none⟩ = some (.string ⟨t1.toArray⟩)) 12 13 #[false, false, false, false, false, false, false, false, false, false, false, false, false] (by kernel_rfl) rfl rfl (by kernel_rfl) ?_ ?_
      · rintro ⟨_, _, h⟩; exact h
      have hS0 : W.drew.cell? ⟨w1.heap.size, 0, none⟩ = some (.slice (some ⟨wt.heap.size + 1, 0, none⟩) k cs.length) ∧ W.drew.cell? ⟨p, 0, none⟩ = some (.int .u8 80) ∧ W.drew.cell? ⟨p, 1, none⟩ = some (.int .i64 kf) ∧ W.drew.cell? ⟨wt.heap.size, 0, none⟩ = some (.slice (some ⟨G1, 0, none⟩) ts.length ts.length) ∧ W.drew.cell? ⟨G1, kf, none⟩ = some (.string ⟨t1.toArray⟩) := ⟨hix, c0, c1, cY, cG⟩
      refine wpAnyL_take (i := 0) (v := .slice (some ⟨wt.heap.size + 1, 0, none⟩) k cs.length) rfl (by kernel_rfl) (by kernel_rfl) (by kernel_rfl) (by kernel_rfl) (fun _ _ _ h => h) (by rfl) (fun w hSw => by obtain ⟨s1, s2, s3, s4, s5⟩ := hSw; go_simp) hS0 ?_
      simp only [Act.put, List.setIfInBounds_toArray, List.set_cons_zero, List.set_cons_succ]
      refine wpAnyL_take (i := 1) (v := .pointer (some ⟨p, 0, none⟩)) rfl (by kernel_rfl) (by kernel_rfl) (by kernel_rfl) (by kernel_rfl) (fun _ _ _ h => h) (by rfl) (fun w hSw => by obtain ⟨s1, s2, s3, s4, s5⟩ := hSw; go_simp) hS0 ?_
      simp only [Act.put, List.setIfInBounds_toArray, List.set_cons_zero, List.set_cons_succ]
      refine wpAnyL_take (i := 2) (v := .int .u8 80) rfl (by kernel_rfl) (by kernel_rfl) (by kernel_rfl) (by kernel_rfl) (fun _ _ _ h => h) (by rfl) (fun w hSw => by obtain ⟨s1, s2, s3, s4, s5⟩ := hSw; go_simp) hS0 ?_
      simp only [Act.put, List.setIfInBounds_toArray, List.set_cons_zero, List.set_cons_succ]
      refine wpAnyL_take (i := 3) (v := .slice (some ⟨G1, 0, none⟩) ts.length ts.length) rfl (by kernel_rfl) (by kernel_rfl) (by kernel_rfl) (by kernel_rfl) (fun _ _ _ h => h) (by rfl) (fun w hSw => by obtain ⟨s1, s2, s3, s4, s5⟩ := hSw; go_simp) hS0 ?_
      simp only [Act.put, List.setIfInBounds_toArray, List.set_cons_zero, List.set_cons_succ]
      refine wpAnyL_take (i := 4) (v := .pointer (some ⟨p, 1, none⟩)) rfl (by kernel_rfl) (by kernel_rfl) (by kernel_rfl) (by kernel_rfl) (fun _ _ _ h => h) (by rfl) (fun w hSw => by obtain ⟨s1, s2, s3, s4, s5⟩ := hSw; go_simp) hS0 ?_
      simp only [Act.put, List.setIfInBounds_toArray, List.set_cons_zero, List.set_cons_succ]
      refine wpAnyL_take (i := 5) (v := .int .i64 kf) rfl (by kernel_rfl) (by kernel_rfl) (by kernel_rfl) (by kernel_rfl) (fun _ _ _ h => h) (by rfl) (fun w hSw => by obtain ⟨s1, s2, s3, s4, s5⟩ := hSw; go_simp) hS0 ?_
      simp only [Act.put, List.setIfInBounds_toArray, List.set_cons_zero, List.set_cons_succ]
      refine wpAnyL_take (i := 6) (v := .pointer (some ⟨G1, kf, none⟩)) rfl (by kernel_rfl) (by kernel_rfl) (by kernel_rfl) (by kernel_rfl) (fun _ _ _ h => h) (by rfl) (fun w hSw => by obtain ⟨s1, s2, s3, s4, s5⟩ := hSw; go_simp) hS0 ?_
      simp only [Act.put, List.setIfInBounds_toArray, List.set_cons_zero, List.set_cons_succ]
      refine wpAnyL_take (i := 7) (v := .string ⟨t1.toArray⟩) rfl (by kernel_rfl) (by kernel_rfl) (by kernel_rfl) (by kernel_rfl) (fun _ _ _ h => h) (by rfl) (fun w hSw => by obtain ⟨s1, s2, s3, s4, s5⟩ := hSw; go_simp) hS0 ?_
      simp only [Act.put, List.setIfInBounds_toArray, List.set_cons_zero, List.set_cons_succ]
      have hSt : ∀ W' : World, W.drew.grownBy W' none → W'.cell? ⟨w1.heap.size, 0, none⟩ = some (.slice (some ⟨wt.heap.size + 1, 0, none⟩) k cs.length) ∧ W'.cell? ⟨p, 0, none⟩ = some (.int .u8 80) ∧ W'.cell? ⟨p, 1, none⟩ = some (.int .i64 kf) ∧ W'.cell? ⟨wt.heap.size, 0, none⟩ = some (.slice (some ⟨G1, 0, none⟩) ts.length ts.length) ∧ W'.cell? ⟨G1, kf, none⟩ = some (.string ⟨t1.toArray⟩) := fun W' hg => ⟨hg.cell hS0.1 (by simp), hg.cell hS0.2.1 (by simp), hg.cell hS0.2.2.1 (by simp), hg.cell hS0.2.2.2.1 (by simp), hg.cell hS0.2.2.2.2 (by simp)⟩
      have HST := hide hSt
      clear hSt
      refine wpAnyL_one (i := 8) (by kernel_rfl) rfl (by rfl) (fun K hK => ?_)
      go_simp
      refine hK.out _ _ (fun _ => unhide HST _ (World.grownBy_alloc _ _ _)) ?_
      clear hK K
      simp only [Act.put, List.setIfInBounds_toArray, List.set_cons_zero, List.set_cons_succ]
      refine wpAnyL_one (i := 9) (by kernel_rfl) rfl (by rfl) (fun K hK => ?_)
      go_simp
      refine (unhide HAP).mono ?_
      rintro e w3 ⟨rfl, hb3⟩
      have hg3 : W.drew.grownBy w3 none := by
        refine ⟨hb3.os, hb3.tape, hb3.output, ?_, fun q hq _ => (hb3.block q (Nat.lt_succ_of_lt hq)).trans (Below.heap_alloc W _ q hq)⟩
        have h := hb3.size
        simp at h
        exact Nat.le_of_succ_le h
      have HG3 := hide hg3
      clear hb3 hg3
      refine hK.out _ _ (fun _ => unhide HST _ (unhide HG3)) ?_
      clear hK K HAP
      unfold str
      simp only [Act.put, List.setIfInBounds_toArray, List.set_cons_zero, List.set_cons_succ]
      refine wpAnyL_one (i := 10) (by kernel_rfl) rfl (by rfl) (fun K hK => ?_)
      go_simp
      have hg4 : W.drew.grownBy (w3.alloc (.cells #[.string ⟨tn.toArray⟩] 9)) none := (unhide HG3).trans (World.grownBy_alloc _ _ _)
      have HG4 := hide hg4
      clear hg4
      refine hK.out _ _ (fun _ => unhide HST _ (unhide HG4)) ?_
      clear hK K
      simp only [Act.put, List.setIfInBounds_toArray, List.set_cons_zero, List.set_cons_succ]
      refine wpAnyL_one (i := 11) (by kernel_rfl) rfl (by rfl) (fun K hK => ?_)
      refine step_fits (.tmp 16) (.tmp 26) 60 rfl 0 9 i0 1 Try.underlying60 hin hz1 _ _ _ _ rfl (unhide hap _ ⟨(unhide HG4).os, (unhide HG4).tape, (unhide HG4).output, (unhide HG4).size, (unhide HG4).block⟩) _ 1 1 [str tn] rfl rfl (news_one _ _ _) (one_str _) hfit ?_
      intro w4 r1 r2
      have q0 := unhide HST _ (unhide HG4)
      have q1 := r2.cell q0.1 (by simpa using hXG)
      have qG : (w3.alloc (.cells #[.string ⟨tn.toArray⟩] 9)).frozen? ⟨w1.heap.size, 0, none⟩ = false := (World.frozen?_of_block ((unhide HG4).block w1.heap.size hlX (by simp))).trans hifx
      have q2 : w4.frozen? ⟨w1.heap.size, 0, none⟩ = false := (World.frozen?_of_block (r2.block w1.heap.size (Nat.lt_of_lt_of_le hlX (unhide HG4).size) (by simpa using hXG))).trans qG
      refine hK.out _ _ (fun _ => ⟨q1, r2.cell q0.2.1 (by simpa using hp2), r2.cell q0.2.2.1 (by simpa using hp2), r2.cell q0.2.2.2.1 (by simp), r2.cell q0.2.2.2.2 (by simpa using hG1G)⟩) ?_
      clear hK K q0
      simp only [Act.put, List.setIfInBounds_toArray, List.set_cons_zero, List.set_cons_succ]
      refine wpAnyL_one (i := 12) (by kernel_rfl) rfl (by rfl) (fun K hK => ?_)
      go_simp
      refine hK.out _ _ (fun h => absurd rfl h) (wpAnyL_done (by kernel_rfl) ?_ _)
      have htr : Trn w1.heap.size (wt.heap.size + 1) W (w3.alloc (.cells #[.string ⟨tn.toArray⟩] 9)) := ⟨(unhide HG4).os, (unhide HG4).tape, (unhide HG4).output, (unhide HG4).size, fun q hq _ _ => (unhide HG4).block q hq (by simp)⟩
      exact arm_close (a := ⟨#[], []⟩) hXB hGB hwX hwG hXG hI htr (unhide HST _ (unhide HG4)).1 qG (by rw [ctx_length]; exact hk') (by rw [unhide htx2]; exact r1) r2
    · have HAP : Hid (Calls Try.prog 31 #[.int .u8 81, .slice (some ⟨W.heap.size, 0, none⟩) 1 1] (W.alloc (.cells #[.string ⟨t1.toArray⟩] 9)).drew fun e w' => e = .returned (str (appl 81 [t1])) ∧ Below (W.heap.size + 1) (W.alloc (.cells #[.string ⟨t1.toArray⟩] 9)) w') := by
        have h := applied_any 81 (by decide) [t1] W.heap.size 1 (W.alloc (.cells #[.string ⟨t1.toArray⟩] 9)).drew (by simp) (by simp) (by rw [Lib.join_one]; omega) (by simp) (fun j hj => by
          obtain rfl : j = 0 := by simp at hj; omega
          simp [go_sem, str])
        exact h.mono fun e w' ⟨h1, h2⟩ => ⟨h1, ⟨h2.os, h2.tape, h2.output, h2.size, fun q hq => h2.block q (by simpa using hq)⟩⟩
      have htx2 : Hid ((ctx ts cs).getD k [] = appl 81 [t1]) := by
        refine hide ?_
        rw [unhide HTX]
        simp [appl, Lib.join_one]
      generalize appl 81 [t1] = tn at htx2 HAP
      clear HTX
      gi_wp2
      refine region_last (fun W' => W'.cell? ⟨w1.heap.size, 0, none⟩ = some (.slice (some ⟨wt.heap.size + 1, 0, none⟩) k cs.length) ∧ W'.cell? ⟨p, 0, none⟩ = some (.int .u8 81) ∧ W'.cell? ⟨p, 1, none⟩ = some (.int .i64 kf) ∧ W'.cell? ⟨wt.heap.size, 0, none⟩ = some (.slice (some ⟨G1, 0, none⟩) ts.length ts.length) ∧ W'.cell? ⟨G1, kf, none⟩ = some (.string ⟨t1.toArray⟩)) 12 13 #[false, false, false, false, false, false, false, false, false, false, false, false, false] (by kernel_rfl) rfl rfl (by kernel_rfl) ?_ ?_
      · rintro ⟨_, _, h⟩; exact h
      have hS0 : W.drew.cell? ⟨w1.heap.size, 0, none⟩ = some (.slice (some ⟨wt.heap.size + 1, 0, none⟩) k cs.length) ∧ W.drew.cell? ⟨p, 0, none⟩ = some (.int .u8 81) ∧ W.drew.cell? ⟨p, 1, none⟩ = some (.int .i64 kf) ∧ W.drew.cell? ⟨wt.heap.size, 0, none⟩ = some (.slice (some ⟨G1, 0, none⟩) ts.length ts.length) ∧ W.drew.cell? ⟨G1, kf, none⟩ = some (.string ⟨t1.toArray⟩) := ⟨hix, c0, c1, cY, cG⟩
      refine wpAnyL_take (i := 0) (v := .slice (some ⟨wt.heap.size + 1, 0, none⟩) k cs.length) rfl (by kernel_rfl) (by kernel_rfl) (by kernel_rfl) (by kernel_rfl) (fun _ _ _ h => h) (by rfl) (fun w hSw => by obtain ⟨s1, s2, s3, s4, s5⟩ := hSw; go_simp) hS0 ?_
      simp only [Act.put, List.setIfInBounds_toArray, List.set_cons_zero, List.set_cons_succ]
      refine wpAnyL_take (i := 1) (v := .pointer (some ⟨p, 0, none⟩)) rfl (by kernel_rfl) (by kernel_rfl) (by kernel_rfl) (by kernel_rfl) (fun _ _ _ h => h) (by rfl) (fun w hSw => by obtain ⟨s1, s2, s3, s4, s5⟩ := hSw; go_simp) hS0 ?_
      simp only [Act.put, List.setIfInBounds_toArray, List.set_cons_zero, List.set_cons_succ]
      refine wpAnyL_take (i := 2) (v := .int .u8 81) rfl (by kernel_rfl) (by kernel_rfl) (by kernel_rfl) (by kernel_rfl) (fun _ _ _ h => h) (by rfl) (fun w hSw => by obtain ⟨s1, s2, s3, s4, s5⟩ := hSw; go_simp) hS0 ?_
      simp only [Act.put, List.setIfInBounds_toArray, List.set_cons_zero, List.set_cons_succ]
      refine wpAnyL_take (i := 3) (v := .slice (some ⟨G1, 0, none⟩) ts.length ts.length) rfl (by kernel_rfl) (by kernel_rfl) (by kernel_rfl) (by kernel_rfl) (fun _ _ _ h => h) (by rfl) (fun w hSw => by obtain ⟨s1, s2, s3, s4, s5⟩ := hSw; go_simp) hS0 ?_
      simp only [Act.put, List.setIfInBounds_toArray, List.set_cons_zero, List.set_cons_succ]
      refine wpAnyL_take (i := 4) (v := .pointer (some ⟨p, 1, none⟩)) rfl (by kernel_rfl) (by kernel_rfl) (by kernel_rfl) (by kernel_rfl) (fun _ _ _ h => h) (by rfl) (fun w hSw => by obtain ⟨s1, s2, s3, s4, s5⟩ := hSw; go_simp) hS0 ?_
      simp only [Act.put, List.setIfInBounds_toArray, List.set_cons_zero, List.set_cons_succ]
      refine wpAnyL_take (i := 5) (v := .int .i64 kf) rfl (by kernel_rfl) (by kernel_rfl) (by kernel_rfl) (by kernel_rfl) (fun _ _ _ h => h) (by rfl) (fun w hSw => by obtain ⟨s1, s2, s3, s4, s5⟩ := hSw; go_simp) hS0 ?_
      simp only [Act.put, List.setIfInBounds_toArray, List.set_cons_zero, List.set_cons_succ]
      refine wpAnyL_take (i := 6) (v := .pointer (some ⟨G1, kf, none⟩)) rfl (by kernel_rfl) (by kernel_rfl) (by kernel_rfl) (by kernel_rfl) (fun _ _ _ h => h) (by rfl) (fun w hSw => by obtain ⟨s1, s2, s3, s4, s5⟩ := hSw; go_simp) hS0 ?_
      simp only [Act.put, List.setIfInBounds_toArray, List.set_cons_zero, List.set_cons_succ]
      refine wpAnyL_take (i := 7) (v := .string ⟨t1.toArray⟩) rfl (by kernel_rfl) (by kernel_rfl) (by kernel_rfl) (by kernel_rfl) (fun _ _ _ h => h) (by rfl) (fun w hSw => by obtain ⟨s1, s2, s3, s4, s5⟩ := hSw; go_simp) hS0 ?_
      simp only [Act.put, List.setIfInBounds_toArray, List.set_cons_zero, List.set_cons_succ]
      have hSt : ∀ W' : World, W.drew.grownBy W' none → W'.cell? ⟨w1.heap.size, 0, none⟩ = some (.slice (some ⟨wt.heap.size + 1, 0, none⟩) k cs.length) ∧ W'.cell? ⟨p, 0, none⟩ = some (.int .u8 81) ∧ W'.cell? ⟨p, 1, none⟩ = some (.int .i64 kf) ∧ W'.cell? ⟨wt.heap.size, 0, none⟩ = some (.slice (some ⟨G1, 0, none⟩) ts.length ts.length) ∧ W'.cell? ⟨G1, kf, none⟩ = some (.string ⟨t1.toArray⟩) := fun W' hg => ⟨hg.cell hS0.1 (by simp), hg.cell hS0.2.1 (by simp), hg.cell hS0.2.2.1 (by simp), hg.cell hS0.2.2.2.1 (by simp), hg.cell hS0.2.2.2.2 (by simp)⟩
      have HST := hide hSt
      clear hSt
      refine wpAnyL_one (i := 8) (by kernel_rfl) rfl (by rfl) (fun K hK => ?_)
      go_simp
      refine hK.out _ _ (fun _ => unhide HST _ (World.grownBy_alloc _ _ _)) ?_
      clear hK K
      simp only [Act.put, List.setIfInBounds_toArray, List.set_cons_zero, List.set_cons_succ]
      refine wpAnyL_one (i := 9) (by kernel_rfl) rfl (by rfl) (fun K hK => ?_)
      go_simp
      refine (unhide HAP).mono ?_
      rintro e w3 ⟨rfl, hb3⟩
      have hg3 : W.drew.grownBy w3 none := by
        refine ⟨hb3.os, hb3.tape, hb3.output, ?_, fun q hq _ => (hb3.block q (Nat.lt_succ_of_lt hq)).trans (Below.heap_alloc W _ q hq)⟩
        have h := hb3.size
        simp at h
        exact Nat.le_of_succ_le h
      have HG3 := hide hg3
      clear hb3 hg3
      refine hK.out _ _ (fun _ => unhide HST _ (unhide HG3)) ?_
      clear hK K HAP
      unfold str
      simp only [Act.put, List.setIfInBounds_toArray, List.set_cons_zero, List.set_cons_succ]
      refine wpAnyL_one (i := 10) (by kernel_rfl) rfl (by rfl) (fun K hK => ?_)
      go_simp
      have hg4 : W.drew.grownBy (w3.alloc (.cells #[.string ⟨tn.toArray⟩] 9)) none := (unhide HG3).trans (World.grownBy_alloc _ _ _)
      have HG4 := hide hg4
      clear hg4
      refine hK.out _ _ (fun _ => unhide HST _ (unhide HG4)) ?_
      clear hK K
      simp only [Act.put, List.setIfInBounds_toArray, List.set_cons_zero, List.set_cons_succ]
      refine wpAnyL_one (i := 11) (by kernel_rfl) rfl (by rfl) (fun K hK => ?_)
      refine step_fits (.tmp 16) (.tmp 26) 60 rfl 0 9 i0 1 Try.underlying60 hin hz1 _ _ _ _ rfl (unhide hap _ ⟨(unhide HG4).os, (unhide HG4).tape, (unhide HG4).output, (unhide HG4).size, (unhide HG4).block⟩) _ 1 1 [str tn] rfl rfl (news_one _ _ _) (one_str _) hfit ?_
      intro w4 r1 r2
      have q0 := unhide HST _ (unhide HG4)
      have q1 := r2.cell q0.1 (by simpa using hXG)
      have qG : (w3.alloc (.cells #[.string ⟨tn.toArray⟩] 9)).frozen? ⟨w1.heap.size, 0, none⟩ = false := (World.frozen?_of_block ((unhide HG4).block w1.heap.size hlX (by simp))).trans hifx
      have q2 : w4.frozen? ⟨w1.heap.size, 0, none⟩ = false := (World.frozen?_of_block (r2.block w1.heap.size (Nat.lt_of_lt_of_le hlX (unhide HG4).size) (by simpa using hXG))).trans qG
      refine hK.out _ _ (fun _ => ⟨q1, r2.cell q0.2.1 (by simpa using hp2), r2.cell q0.2.2.1 (by simpa using hp2), r2.cell q0.2.2.2.1 (by simp), r2.cell q0.2.2.2.2 (by simpa using hG1G)⟩) ?_
      clear hK K q0
      simp only [Act.put, List.setIfInBounds_toArray, List.set_cons_zero, List.set_cons_succ]
      refine wpAnyL_one (i := 12) (by kernel_rfl) rfl (by rfl) (fun K hK => ?_)
      go_simp
      refine hK.out _ _ (fun h => absurd rfl h) (wpAnyL_done (by kernel_rfl) ?_ _)
      have htr : Trn w1.heap.size (wt.heap.size + 1) W (w3.alloc (.cells #[.string ⟨tn.toArray⟩] 9)) := ⟨(unhide HG4).os, (unhide HG4).tape, (unhide HG4).output, (unhide HG4).size, fun q hq _ _ => (unhide HG4).block q hq (by simp)⟩
      exact arm_close (a := ⟨#[], []⟩) hXB hGB hwX hwG hXG hI htr (unhide HST _ (unhide HG4)).1 qG (by rw [ctx_length]; exact hk') (by rw [unhide htx2]; exact r1) r2
  case done =>
    intro D W hD hI hdef
    have hx := hI.x
    have hlt := hI.lt
    have cY : W.cell? ⟨wt.heap.size, 0, none⟩ = some (.slice (some ⟨G1, 0, none⟩) ts.length ts.length) := (hI.below.cell (p := ⟨wt.heap.size, 0, none⟩) (by show wt.heap.size < wy.heap.size; omega)).trans hcy
    rw [List.length_map] at hx
    have hcX : ∀ j (hj : j < (ctx ts cs).length), W.cell? ⟨wt.heap.size + 1, j, none⟩ = some (str (ctx ts cs)[j]) := fun j hj => by
      have hr := hI.row
      rw [List.length_map] at hr
      rw [ctx_length] at hj
      rw [hr.cellAt j (by omega)]
      simp [hj, ctx_length]
    have hcT : ∀ j (hj : j < (Rdg.texts ts).length), W.cell? ⟨G1, j, none⟩ = some (str (Rdg.texts ts)[j]) := fun j hj => by
      have h1 := (hI.below.cell (p := ⟨G1, j, none⟩) (by show G1 < wy.heap.size; omega)).trans (unhide HCY j (by rw [Rdg.texts_length] at hj; exact hj))
      rw [h1]; simp [List.getD_eq_getElem?_getD, hj]
    have hlT : (spc (Rdg.texts ts)).length ≤ 1000 := by
      have h := spc_len (Rdg.texts ts) (fun t ht => by obtain ⟨j, hj, rfl⟩ := List.getElem_of_mem ht; have h := HLEN j; simpa [List.getD_eq_getElem?_getD, hj] using h) (Rdg.texts ts).length (Nat.le_refl _)
      rw [List.take_length, Rdg.texts_length] at h; omega
    have hlC : (spc (ctx ts cs)).length ≤ 1000 := by
      have h := spc_len (ctx ts cs) HLENC (ctx ts cs).length (Nat.le_refl _)
      rw [List.take_length, ctx_length] at h; omega
    have HJ1 : Hid (Calls Try.prog 32 #[.slice (some ⟨G1, 0, none⟩) ts.length ts.length, .string ⟨#[32]⟩] W.drew fun e w' => e = .returned (.string ⟨(spc (Rdg.texts ts)).toArray⟩) ∧ Below W.heap.size W w') := by
      have h := join_sp (Rdg.texts ts) G1 ts.length W.drew (by rw [Rdg.texts_length]; omega) (by rw [Rdg.texts_length]; exact Nat.le_refl _) (by omega) (by show G1 < W.heap.size; omega) hcT
      rw [Rdg.texts_length] at h
      exact h.mono fun e w' ⟨h1, h2⟩ => ⟨h1, ⟨h2.os, h2.tape, h2.output, h2.size, h2.block⟩⟩
    have HJ2 : Hid (∀ w3, Below W.heap.size W w3 → Calls Try.prog 32 #[.slice (some ⟨wt.heap.size + 1, 0, none⟩) cs.length cs.length, .string ⟨#[32]⟩] w3 fun e w' => e = .returned (.string ⟨(spc (ctx ts cs)).toArray⟩) ∧ Below W.heap.size W w') := fun w3 h3 => by
      have h := join_sp (ctx ts cs) (wt.heap.size + 1) cs.length w3 (by rw [ctx_length]; omega) (by rw [ctx_length]; exact Nat.le_refl _) (by omega) (Nat.lt_of_lt_of_le hlt.2 h3.size) (fun j hj => (h3.cell (p := ⟨wt.heap.size + 1, j, none⟩) hlt.2).trans (hcX j hj))
      rw [ctx_length] at h
      exact h.mono fun e w' ⟨h1, h2⟩ => ⟨h1, h3.trans (h2.mono h3.size)⟩
    have hww2 : w.heap.size ≤ w2.heap.size := by omega
    have HI := hide hI
    clear hI hcX hcT HLEN HLENC hs2 hwys hseq hTI hBn2 hM2 hcy
    obtain ⟨xT, hxT⟩ : ∃ xT, spc (Rdg.texts ts) = xT := ⟨_, rfl⟩
    obtain ⟨xC, hxC⟩ : ∃ xC, spc (ctx ts cs) = xC := ⟨_, rfl⟩
    rw [hxT] at HJ1 hlT
    rw [hxC] at HJ2 hlC
    have HXT := hide hxT
    have HXC := hide hxC
    clear hxT hxC
    gi_wp2
    refine wpIn_normal ?_
    refine region_out (fun W' => W'.cell? ⟨wt.heap.size, 0, none⟩ = some (.slice (some ⟨G1, 0, none⟩) ts.length ts.length) ∧ W'.cell? ⟨w1.heap.size, 0, none⟩ = some (.slice (some ⟨wt.heap.size + 1, 0, none⟩) cs.length cs.length)) 6 7 #[false, false, false, false, false, false, false] (by kernel_rfl) rfl rfl ?_
    have hS0 : W.drew.cell? ⟨wt.heap.size, 0, none⟩ = some (.slice (some ⟨G1, 0, none⟩) ts.length ts.length) ∧ W.drew.cell? ⟨w1.heap.size, 0, none⟩ = some (.slice (some ⟨wt.heap.size + 1, 0, none⟩) cs.length cs.length) := ⟨cY, hx⟩
    refine wpAnyL_take (i := 0) (v := .slice (some ⟨G1, 0, none⟩) ts.length ts.length) rfl (by kernel_rfl) (by kernel_rfl) (by kernel_rfl) (by kernel_rfl) (fun _ _ _ h => (by cases h.1)) (by rfl) (fun w hSw => by obtain ⟨s1, s2⟩ := hSw; first | (go_simp; done) | (go_simp; omega)) hS0 ?_
    simp only [Act.put, List.setIfInBounds_toArray, List.set_cons_zero, List.set_cons_succ]
    refine wpAnyL_take (i := 3) (v := .slice (some ⟨wt.heap.size + 1, 0, none⟩) cs.length cs.length) rfl (by kernel_rfl) (by kernel_rfl) (by kernel_rfl) (by kernel_rfl) (fun _ _ _ h => (by cases h.1)) (by rfl) (fun w hSw => by obtain ⟨s1, s2⟩ := hSw; first | (go_simp; done) | (go_simp; omega)) hS0 ?_
    simp only [Act.put, List.setIfInBounds_toArray, List.set_cons_zero, List.set_cons_succ]
    refine wpAnyL_one (i := 1) (by kernel_rfl) rfl (by rfl) (fun K hK => ?_)
    go_simp
    refine (unhide HJ1).mono ?_
    rintro e w3 ⟨rfl, hb3⟩
    have hS3 : w3.cell? ⟨wt.heap.size, 0, none⟩ = some (.slice (some ⟨G1, 0, none⟩) ts.length ts.length) ∧ w3.cell? ⟨w1.heap.size, 0, none⟩ = some (.slice (some ⟨wt.heap.size + 1, 0, none⟩) cs.length cs.length) := ⟨(hb3.cell (p := ⟨wt.heap.size, 0, none⟩) (World.block_lt_of_cell? W _ cY)).trans cY, (hb3.cell (p := ⟨w1.heap.size, 0, none⟩) hlt.1).trans hx⟩
    refine hK.out _ _ (fun _ => hS3) ?_
    clear hK K
    simp only [Act.put, List.setIfInBounds_toArray, List.set_cons_zero, List.set_cons_succ]
    refine wpAnyL_take (i := 2) (v := .string (⟨xT.toArray⟩ ++ ⟨#[47]⟩)) rfl (by kernel_rfl) (by kernel_rfl) (by kernel_rfl) (by kernel_rfl) (fun _ _ _ h => (by cases h.1)) (by rfl) (fun w hSw => by obtain ⟨s1, s2⟩ := hSw; first | (go_simp; done) | (go_simp; omega)) hS3 ?_
    simp only [Act.put, List.setIfInBounds_toArray, List.set_cons_zero, List.set_cons_succ]
    refine wpAnyL_one (i := 4) (by kernel_rfl) rfl (by rfl) (fun K hK => ?_)
    go_simp
    refine (unhide HJ2 _ hb3).mono ?_
    rintro e w5 ⟨rfl, hb5⟩
    have hS5 : w5.cell? ⟨wt.heap.size, 0, none⟩ = some (.slice (some ⟨G1, 0, none⟩) ts.length ts.length) ∧ w5.cell? ⟨w1.heap.size, 0, none⟩ = some (.slice (some ⟨wt.heap.size + 1, 0, none⟩) cs.length cs.length) := ⟨(hb5.cell (p := ⟨wt.heap.size, 0, none⟩) (World.block_lt_of_cell? W _ cY)).trans cY, (hb5.cell (p := ⟨w1.heap.size, 0, none⟩) hlt.1).trans hx⟩
    refine hK.out _ _ (fun _ => hS5) ?_
    clear hK K
    simp only [Act.put, List.setIfInBounds_toArray, List.set_cons_zero, List.set_cons_succ]
    refine wpAnyL_take (i := 5) (v := .string (⟨xT.toArray⟩ ++ ⟨#[47]⟩ ++ ⟨xC.toArray⟩)) rfl (by kernel_rfl) (by kernel_rfl) (by kernel_rfl) (by kernel_rfl) (fun _ _ _ h => (by cases h.1)) (by rfl) (fun w hSw => by obtain ⟨s1, s2⟩ := hSw; first | (go_simp; done) | (go_simp; omega)) hS5 ?_
    simp only [Act.put, List.setIfInBounds_toArray, List.set_cons_zero, List.set_cons_succ]
    refine wpAnyL_one (i := 6) (by kernel_rfl) rfl (by rfl) (fun K hK => ?_)
    go_simp
    refine hK.out _ _ (fun h => absurd rfl h) (wpAnyL_done (by kernel_rfl) ⟨rfl, ?_⟩ _)
    clear hK K
    gi_wp2
    refine ⟨by simp, .inl ⟨_, _, rfl, run_takeDeferred ((hb5.block D (Array.getElem?_eq_some_iff.1 hdef).1).trans hdef), ?_⟩⟩
    refine ⟨_, results_tmp rfl _ _ _, ?_⟩
    refine ⟨?_, ?_⟩
    · rw [unhide HXT, unhide HXC]
      have e47 : (⟨#[47]⟩ : ByteArray) = ⟨[47].toArray⟩ := rfl
      have e : (⟨xT.toArray⟩ ++ ⟨#[47]⟩ ++ ⟨xC.toArray⟩ : ByteArray) = ⟨(xT ++ 47 :: xC).toArray⟩ := by rw [e47, ba_append, ba_append]; simp
      exact congrArg (fun b => Ending.returned (.string b)) e
    · have hbW : Below w.heap.size w W := hby.trans ((unhide HI).below.mono hby.size)
      have hw0 : w.heap.size ≤ W.heap.size := hbW.size
      have hb6 : Below w.heap.size w w5 := hbW.trans (hb5.mono hw0)
      exact ⟨hb6.os, hb6.tape, hb6.output, by simpa using hb6.size, fun j hj => (World.putObj_heap_other (by omega)).trans (hb6.block j hj)⟩

end Go.Proofs.Ythfjhjghohincaa
