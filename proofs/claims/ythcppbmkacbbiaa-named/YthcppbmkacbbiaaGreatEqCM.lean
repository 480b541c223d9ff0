import Derived.Test.YthcppbmkacbbiaaGreatEqNM
import Derived.Test.YthcppbmkacbbiaaGreatSeqrM
import Derived.Test.YthcppbmkacbbiaaGreatTruM
import Derived.Test.YthcppbmkacbbiaaGreatRefKM
import Derived.Test.YthcppbmkacbbiaaGreatSio
namespace Go.Proofs.YthcppbmkacbbiaaGreat
open Rdg (Key Inv InvC texts pvs)
open Nx

/-- Digits as the document's classes. -/
def clI (row : List Nat) : List Int := row.map fun (d : Nat) => (d : Int)

theorem clI_iff (row : List Nat) : ∀ i j, i < row.length → j < row.length → (fi row i = fi row j ↔ (clI row).getD i 0 = (clI row).getD j 0) := by
  intro i j hi hj
  rw [fi_eq hi hj]
  unfold clI
  rw [List.getD_eq_getElem?_getD, List.getD_eq_getElem?_getD, List.getElem?_map, List.getElem?_map, List.getElem?_eq_getElem hi, List.getElem?_eq_getElem hj]
  simp only [Option.map_some, Option.getD_some]
  omega

/-- One way the claims may be, at classes that are as functions ask. -/
def cTru (f : Nat → Nat) (cs : List (Int × Nat)) (ps : List Key) (cl : List Int) (hl : List Bool) : Bool :=
  decide (∀ p ∈ prs (mkc f cs) cs.length, hl.getD p.1 false = hl.getD p.2 false) && (pvs cl hl ps).getD (ps.length - 1) false

/-- The models with these classes, as the program counts them. -/
def cOne (ts : List Key) (cs : List (Int × Nat)) (ps : List Key) (row : List Nat) : Nat :=
  if (∀ p ∈ prs (mkd (fi row) ts) ts.length, fi row p.1 = fi row p.2) then (List.range (2 ^ cs.length)).countP (fun k => cTru (fi row) cs ps (clI row) (tv cs.length k)) else 0

/-- The models with these classes, as the document counts them. -/
def dOne (s : ByteArray) (T C : List (List UInt8)) (row : List Nat) : Nat := (bls C.length).countP fun hl => snd T C (clI row) hl && tru s (clI row) hl

theorem one_eq (s : ByteArray) (ts : List Key) (cs : List (Int × Nat)) (ps : List Key) (hR : Rdg.rdP (pk s) (s.size + 1) 0 0 [] [] [] = .ok (s.size, ts, cs, ps, ps.length - 1)) (h4 : cs.length ≤ 4) (hi : Inv ts) (hic : InvC ts cs) (row : List Nat) (hrow : row.length = ts.length) :
    dOne s (texts ts) (ctx ts cs) row = cOne ts cs ps row := by
  have ctxl : (ctx ts cs).length = cs.length := by simp [ctx]
  have hcl : ∀ i j, i < ts.length → j < ts.length → (fi row i = fi row j ↔ (clI row).getD i 0 = (clI row).getD j 0) := fun i j h1 h2 => clI_iff row i j (by omega) (by omega)
  have e : (fun hl => snd (texts ts) (ctx ts cs) (clI row) hl && tru s (clI row) hl) = fun hl => (decide (∀ p ∈ prs (mkd (fi row) ts) ts.length, fi row p.1 = fi row p.2) && cTru (fi row) cs ps (clI row) hl) := by
    funext hl
    rw [snd_keys hi hic hcl, tru_last s (clI row) hl ts cs ps _ hR, Bool.and_assoc]
    rfl
  unfold dOne cOne
  rw [e, ctxl, tv_count h4]
  by_cases h : ∀ p ∈ prs (mkd (fi row) ts) ts.length, fi row p.1 = fi row p.2
  · rw [if_pos h]
    simp only [decide_eq_true h, Bool.true_and]
  · rw [if_neg h]
    simp only [decide_eq_false h, Bool.false_and]
    exact List.countP_eq_zero.2 (fun _ _ h => by cases h)

theorem sum_eq {L : List (List Nat)} {g g' : List Nat → Nat} (h : ∀ r ∈ L, g r = g' r) (k : Nat) : sumTo L g k = sumTo L g' k := by
  unfold sumTo
  rw [List.map_congr_left (fun x hx => h x (List.mem_of_mem_take hx))]

/-- All models. -/
def cAll (ts : List Key) (cs : List (Int × Nat)) (ps : List Key) : Nat := sumTo (rws 0 ts.length) (cOne ts cs ps) (rws 0 ts.length).length
def dAll (s : ByteArray) (T C : List (List UInt8)) : Nat := sumTo (rws 0 T.length) (dOne s T C) (rws 0 T.length).length

theorem all_eq (s : ByteArray) (ts : List Key) (cs : List (Int × Nat)) (ps : List Key) (hR : Rdg.rdP (pk s) (s.size + 1) 0 0 [] [] [] = .ok (s.size, ts, cs, ps, ps.length - 1)) (h4 : cs.length ≤ 4) (hi : Inv ts) (hic : InvC ts cs) :
    dAll s (texts ts) (ctx ts cs) = cAll ts cs ps := by
  unfold dAll cAll
  rw [Rdg.texts_length]
  exact sum_eq (fun r hr => one_eq s ts cs ps hR h4 hi hic r (rws_len _ _ r hr)) _

theorem cOne_le (ts : List Key) (cs : List (Int × Nat)) (ps : List Key) (h4 : cs.length ≤ 4) (row : List Nat) : cOne ts cs ps row ≤ 16 := by
  unfold cOne
  split
  · refine Nat.le_trans List.countP_le_length ?_
    rw [List.length_range]
    have h' : cs.length = 0 ∨ cs.length = 1 ∨ cs.length = 2 ∨ cs.length = 3 ∨ cs.length = 4 := by omega
    rcases h' with h | h | h | h | h <;> rw [h] <;> decide
  · omega

theorem dOne_le (s : ByteArray) (T C : List (List UInt8)) (h4 : C.length ≤ 4) (row : List Nat) : dOne s T C row ≤ 16 := by
  unfold dOne
  refine Nat.le_trans List.countP_le_length ?_
  rw [bls_length]
  have h' : C.length = 0 ∨ C.length = 1 ∨ C.length = 2 ∨ C.length = 3 ∨ C.length = 4 := by omega
  rcases h' with h | h | h | h | h <;> rw [h] <;> decide

end Go.Proofs.YthcppbmkacbbiaaGreat

namespace Go.Proofs.YthcppbmkacbbiaaGreat
open Go.RowKit Go.Maps Go.WideMaps
open Rdg (Key put pvs InvP)
open Nx

attribute [local go_sem] Oper.semAt_some

/-- What lies while countModels goes through the cases: the formula's three slices, the number so far. -/
structure CW (w : World) (GT GC GP nt nc np : Nat) (n : Nat) (W : World) : Prop where
  f0 : W.cell? ⟨w.heap.size, 0, none⟩ = some (.slice (some ⟨GT, 0, none⟩) nt nt)
  f1 : W.cell? ⟨w.heap.size, 1, none⟩ = some (.slice (some ⟨GC, 0, none⟩) nc nc)
  f2 : W.cell? ⟨w.heap.size, 2, none⟩ = some (.slice (some ⟨GP, 0, none⟩) np np)
  c : W.cell? ⟨w.heap.size + 1, 0, none⟩ = some (.int .i64 n)
  fr : W.frozen? ⟨w.heap.size + 1, 0, none⟩ = false
  below : Below w.heap.size w W
  sz : w.heap.size + 2 ≤ W.heap.size

theorem CW.step {w : World} {GT GC GP nt nc np n B : Nat} {W W' : World} (h : CW w GT GC GP nt nc np n W) (hb : Below B W W') (hB : w.heap.size + 2 ≤ B) : CW w GT GC GP nt nc np n W' :=
  ⟨(hb.cell (p := ⟨w.heap.size, 0, none⟩) (by show w.heap.size < B; omega)).trans h.f0, (hb.cell (p := ⟨w.heap.size, 1, none⟩) (by show w.heap.size < B; omega)).trans h.f1, (hb.cell (p := ⟨w.heap.size, 2, none⟩) (by show w.heap.size < B; omega)).trans h.f2,
   (hb.cell (p := ⟨w.heap.size + 1, 0, none⟩) (by show w.heap.size + 1 < B; omega)).trans h.c, (World.frozen?_of_block (hb.block (w.heap.size + 1) (by omega))).trans h.fr, h.below.trans (hb.mono (by omega)), Nat.le_trans h.sz hb.size⟩

theorem CW.count {w : World} {GT GC GP nt nc np n : Nat} {W : World} (h : CW w GT GC GP nt nc np n W) (v : Nat) : CW w GT GC GP nt nc np v (W.setCell ⟨w.heap.size + 1, 0, none⟩ (.int .i64 v)) :=
  ⟨(World.cell?_of_block (Below.heap_setCell _ _ _ _ (by show w.heap.size ≠ w.heap.size + 1; omega))).trans h.f0, (World.cell?_of_block (Below.heap_setCell _ _ _ _ (by show w.heap.size ≠ w.heap.size + 1; omega))).trans h.f1, (World.cell?_of_block (Below.heap_setCell _ _ _ _ (by show w.heap.size ≠ w.heap.size + 1; omega))).trans h.f2,
   cell_same _ h.c, by rw [World.frozen?_setCell]; exact h.fr, h.below.setCell (by show w.heap.size ≤ w.heap.size + 1; omega) _, by simpa [World.setCell] using h.sz⟩

/-- All that lay lies as it lay, but for one block. -/
def KB (C : Nat) (W0 W : World) : Prop := W0.heap.size ≤ W.heap.size ∧ ∀ j, j < W0.heap.size → j ≠ C → W.heap[j]? = W0.heap[j]?

theorem KB.refl (C : Nat) (W : World) : KB C W W := ⟨Nat.le_refl _, fun _ _ _ => rfl⟩
theorem KB.below {C : Nat} {W0 W W' : World} (h : KB C W0 W) {B : Nat} (hB : W0.heap.size ≤ B) (hb : Below B W W') : KB C W0 W' := ⟨Nat.le_trans h.1 hb.size, fun j hj hn => (hb.block j (by omega)).trans (h.2 j hj hn)⟩
theorem KB.trans {C : Nat} {A B D : World} (h : KB C A B) (g : KB C B D) : KB C A D := ⟨Nat.le_trans h.1 g.1, fun j hj hn => (g.2 j (Nat.lt_of_lt_of_le hj h.1) hn).trans (h.2 j hj hn)⟩
theorem KB.set {C : Nat} {W0 W : World} (h : KB C W0 W) (v : Value) : KB C W0 (W.setCell ⟨C, 0, none⟩ v) := ⟨by simpa [World.setCell] using h.1, fun j hj hn => (Below.heap_setCell _ _ _ _ (by show j ≠ C; exact hn)).trans (h.2 j hj hn)⟩
theorem KB.keeps {C B : Nat} {W0 W : World} (h : KB C W0 W) (hC : C < B) : KeepsFrom B W0 W := ⟨h.1, fun k o hk ho _ => (h.2 k (Array.getElem?_eq_some_iff.1 ho).1 (by omega)).trans ho⟩
theorem KB.ka {C m0 X : Nat} {W0 W : World} (h : KB C W0 W) (hC : C < m0) (hX : X ≠ C) (hl : X < W0.heap.size) : KA m0 X X W0 W :=
  ⟨fun k o hk ho _ => (h.2 k (Array.getElem?_eq_some_iff.1 ho).1 (by omega)).trans ho, h.2 X hl hX, h.2 X hl hX⟩

theorem CMap.notLoop {W : World} {b n c l : Nat} {f : Nat → Nat} {r : Loop} (h : CMap W b f n c) (hl : W.heap[l]? = some (.loop r)) : b ≠ l := by
  rintro rfl
  obtain ⟨D, nn, _, ⟨es, clock, h1, _⟩, _⟩ := h
  rw [hl] at h1
  cases h1

theorem CMap.notCell {W : World} {b n c C i : Nat} {f : Nat → Nat} {v : Value} (h : CMap W b f n c) (hc : W.cell? ⟨C, i, none⟩ = some v) : b ≠ C := by
  rintro rfl
  obtain ⟨D, nn, _, ⟨es, clock, h1, _⟩, _⟩ := h
  obtain ⟨o, ho, hq⟩ := cells_of_cell hc
  rw [show W.heap[b]? = _ from h1] at ho
  cases ho
  cases hq

set_option linter.unusedSimpArgs false in
set_option maxRecDepth 100000 in
set_option maxHeartbeats 2000000 in
theorem countModels_any (GT GC GP : Nat) (ts : List Key) (cs : List (Int × Nat)) (ps : List Key) (w : World) (h0 : 0 < ts.length) (h7 : ts.length ≤ 7) (h4 : cs.length ≤ 4) (h1 : 0 < ps.length) (h100 : ps.length ≤ 100)
    (hrt : RowsT w GT ts) (hrc : RowsC w GC cs) (hrp : RowsT w GP ps) (hit : Rdg.Inv ts) (hic : ∀ x ∈ cs, (x.1 = 80 ∨ x.1 = 81) ∧ x.2 < ts.length) (hip : InvP ts.length cs.length ps) :
    Calls Tryz.prog 31 #[fv GT GC GP ts.length cs.length ps.length] w fun e w' => e = .returned (.int .i64 (cAll ts cs ps)) ∧ Below w.heap.size w w' := by
  refine (callsIn_wide (n := 7)).1 ?_
  unfold fv
  refine callsIn_of_wp_marks Tryz.func31 rfl trivial ?_ rfl
  simp only [Tryz.ntmps31, List.size_toArray, List.length_cons, List.length_nil, Nat.reduceAdd, Nat.reduceSub, Array.replicate_succ, Array.replicate_zero, List.push_toArray, List.append_toArray, List.nil_append, List.cons_append]
  gi_wp2
  refine ⟨trivial, (callsIn_wide.2 (allClasses_any ts.length _)).mono ?_⟩
  rintro e wx ⟨rfl, rfl⟩
  gi_wp2
  obtain ⟨wb, hwb⟩ : ∃ wb, ((w.alloc (.cells #[.slice (some ⟨GT, 0, none⟩) ts.length ts.length, .slice (some ⟨GC, 0, none⟩) cs.length cs.length, .slice (some ⟨GP, 0, none⟩) ps.length ps.length] 54)).alloc (.cells #[.int .i64 0] 3)).alloc (.cells #[.int .i64 ts.length] 3) = wb := ⟨_, rfl⟩
  rw [hwb]
  have hsb : wb.heap.size = w.heap.size + 3 := by rw [← hwb]; simp
  have hgb : w.grownBy wb none := by rw [← hwb]; exact ((World.grownBy_alloc _ _ none).trans (World.grownBy_alloc _ _ none)).trans (World.grownBy_alloc _ _ none)
  have hbb : Below w.heap.size w wb := ⟨hgb.os, hgb.tape, hgb.output, hgb.size, fun j hj => hgb.block j hj (by simp)⟩
  have hCW : CW w GT GC GP ts.length cs.length ps.length 0 wb := ⟨by rw [← hwb]; simp [go_sem], by rw [← hwb]; simp [go_sem], by rw [← hwb]; simp [go_sem], by rw [← hwb]; simp [go_sem], by rw [← hwb]; simp [go_sem], hbb, by omega⟩
  have hX1 : wb.cell? ⟨w.heap.size + 1 + 1, 0, none⟩ = some (.int .i64 ts.length) := by rw [← hwb]; simp [go_sem]
  have hseq := allClasses_all 6 (by omega) (w.heap.size + 1 + 1) wb.heap.size ts.length wb (Nat.le_refl _) h0 h7 hX1
  have HIT := hide hit
  have HIC := hide hic
  have HIP := hide hip
  have HRT := hide hrt
  have HRC := hide hrc
  have HRP := hide hrp
  have hsb' : w.heap.size + 3 ≤ wb.heap.size := by omega
  have hab : AbB wb.heap.size (fun (k : Nat) W => CW w GT GC GP ts.length cs.length ps.length (sumTo (rws 0 ts.length) (cOne ts cs ps) k) W) := fun k A C h hs hb => h.step hb (by omega)
  have hw0 : CW w GT GC GP ts.length cs.length ps.length (sumTo (rws 0 ts.length) (cOne ts cs ps) 0) wb := by rw [sumTo_zero]; exact hCW
  have hlow : wb.heap.size ≤ w.heap.size + 3 := by omega
  clear hwb hsb hgb hbb hCW hX1 hit hic hip hrt hrc hrp
  refine wpIn_rangeFunc_rel rfl (by omega) rfl trivial (fun _ _ => by simp [go_sem]) hseq KA.trans ?_ (Below.refl _ _) ?_ _ hab hw0
    (fun k a' W => ∃ E b row, a' = { tmps := #[.agg #[.slice (some ⟨GT, 0, none⟩) ts.length ts.length, .slice (some ⟨GC, 0, none⟩) cs.length cs.length, .slice (some ⟨GP, 0, none⟩) ps.length ps.length], .pointer (some ⟨w.heap.size, 0, none⟩), .int .i64 0, .pointer (some ⟨w.heap.size + 1, 0, none⟩), .pointer (some ⟨E, 0, none⟩), undef, undef, .pointer (some ⟨w.heap.size, 0, none⟩), .slice (some ⟨GT, 0, none⟩) ts.length ts.length, .int .i64 ts.length, .func (.func 75) #[] #[.pointer (some ⟨w.heap.size + 1 + 1, 0, none⟩)], .map (some b), undef, undef, undef, undef, undef, undef, undef, undef, undef, undef, undef, undef, undef, undef, undef, undef, undef, undef, undef, undef, undef, undef, undef], defers := [] } ∧ W.cell? ⟨E, 0, none⟩ = some (.map (some b)) ∧ wb.heap.size ≤ E ∧ CMap W b (fi row) ts.length 100 ∧ (rws 0 ts.length)[k]? = some row) ?ax ?assign ?body ?done
  · intro W l o o' hlw ho hc hwk
    refine ⟨fun j x hj hx hxc => (World.putObj_heap_other (fun e => ?_)).trans hx, World.putObj_heap_other (by omega), World.putObj_heap_other (by omega)⟩
    subst e
    rw [ho] at hx
    cases hx
    rcases hxc with h | h
    · rw [hc] at h; cases h
    · rw [hwk] at h; cases h
  · rintro k xs W ⟨b, row, rfl, _⟩; simp
  case ax =>
    rintro k a' W l r r' hl hr ⟨E, b, row, h1, h2, h3, h4, h5⟩
    exact ⟨E, b, row, h1, cell_own h2 (grownBy_putObj' _ l _) (fun q e => by cases e; exact ⟨_, hr, rfl⟩), h3, h4.kept (World.putObj_heap_other (h4.notLoop hr)), h5⟩
  case assign =>
    rintro l k xs W K hk hsW ⟨b, row, rfl, hrow, hcm⟩ hI hK
    have hga : W.grownBy (W.alloc (.cells #[.map (some b)] 98)) none := World.grownBy_alloc _ _ none
    have hK2 := hK { tmps := #[.agg #[.slice (some ⟨GT, 0, none⟩) ts.length ts.length, .slice (some ⟨GC, 0, none⟩) cs.length cs.length, .slice (some ⟨GP, 0, none⟩) ps.length ps.length], .pointer (some ⟨w.heap.size, 0, none⟩), .int .i64 0, .pointer (some ⟨w.heap.size + 1, 0, none⟩), .pointer (some ⟨W.heap.size, 0, none⟩), undef, undef, .pointer (some ⟨w.heap.size, 0, none⟩), .slice (some ⟨GT, 0, none⟩) ts.length ts.length, .int .i64 ts.length, .func (.func 75) #[] #[.pointer (some ⟨w.heap.size + 1 + 1, 0, none⟩)], .map (some b), undef, undef, undef, undef, undef, undef, undef, undef, undef, undef, undef, undef, undef, undef, undef, undef, undef, undef, undef, undef, undef, undef, undef], defers := [] } (W.alloc (.cells #[.map (some b)] 98)) ⟨by simp, fun j o hj ho _ => (Below.heap_alloc _ _ _ (Array.getElem?_eq_some_iff.1 ho).1).trans ho⟩
      ⟨fun j o hj ho _ => (Below.heap_alloc _ _ _ (Array.getElem?_eq_some_iff.1 ho).1).trans ho, Below.heap_alloc _ _ _ (by omega), Below.heap_alloc _ _ _ (by omega)⟩
      (hI.step ((Below.refl _ W).alloc (Nat.le_refl _) _) (by have := hI.sz; omega)) ⟨W.heap.size, b, row, rfl, by simp [go_sem], hsW, hcm.kept (Below.heap_alloc _ _ _ hcm.lt), hrow⟩
    clear hK
    gi_wp2
    exact hK2
  case body =>
    rintro l k a' W hk hl ⟨r, hr⟩ hI ⟨E, b, row, rfl, hE, hEl, hcm, hrow⟩
    have hgk : (rws 0 ts.length)[k] = row := by rw [List.getElem?_eq_getElem hk] at hrow; exact Option.some.inj hrow
    have hrl : row.length = ts.length := rws_len _ _ row (List.mem_of_getElem? hrow)
    have hsum := sumTo_succ (rws 0 ts.length) (cOne ts cs ps) hk
    rw [hgk] at hsum
    have hle := sumTo_le (rws 0 ts.length) (cOne ts cs ps) (cOne_le ts cs ps h4) k
    have hkf : k ≤ 1000 := by have := rws_few h7; omega
    have HF : Hid (∀ i, i < ts.length → fi row i ≤ i ∧ fi row (fi row i) = fi row i) := fun i hi => ⟨fi_le row i (by omega), fi_fi row i (by omega)⟩
    have HCL : Hid (∀ i j, i < ts.length → j < ts.length → (fi row i = fi row j ↔ (clI row).getD i 0 = (clI row).getD j 0)) := fun i j h1 h2 => clI_iff row i j (by omega) (by omega)
    obtain ⟨nn, hnn⟩ : ∃ nn, sumTo (rws 0 ts.length) (cOne ts cs ps) k = nn := ⟨_, rfl⟩
    rw [hnn] at hI hsum hle
    have hcong := congruent_any GT GC GP cs.length ps.length b 100 (fi row) ts W h7 ((unhide HRT).below hI.below (unhide HRT).1) (unhide HIT) (unhide HF) hcm
    unfold fv at hcong
    obtain ⟨cb, hcb⟩ : ∃ cb, decide (∀ p ∈ prs (mkd (fi row) ts) ts.length, fi row p.1 = fi row p.2) = cb := ⟨_, rfl⟩
    rw [hcb] at hcong
    have hone : cOne ts cs ps row = if cb = true then (List.range (2 ^ cs.length)).countP (fun k => cTru (fi row) cs ps (clI row) (tv cs.length k)) else 0 := by
      unfold cOne
      rw [← hcb]
      by_cases hq : ∀ p ∈ prs (mkd (fi row) ts) ts.length, fi row p.1 = fi row p.2
      · rw [if_pos hq, if_pos (by simpa using hq)]
      · rw [if_neg hq, if_neg (by simpa using hq)]
    have hsz := hI.sz
    have hlE : E < W.heap.size := World.block_lt_of_cell? W _ hE
    have hll : l < W.heap.size := (Array.getElem?_eq_some_iff.1 hr).1
    have hx0 := hI.f0
    have hx1 := hI.f1
    have hx2 := hI.f2
    have HS := hide hsum
    have HO := hide hone
    have HIW := hide hI
    have HROW := hide hrow
    have HRL := hide hrl
    clear hgk hsum hone hcb hnn hrow hI hrl
    cases cb
    · gi_wp2
      refine ⟨trivial, CallsIn.inRound l (callsIn_wide.2 (hcong.mono ?_))⟩
      rintro e w2 ⟨rfl, hb2⟩
      have hkb : KB (w.heap.size + 1) W w2 := (KB.refl _ W).below (Nat.le_refl _) hb2
      have hIe := (unhide HIW).step hb2 (by omega)
      have hs : sumTo (rws 0 ts.length) (cOne ts cs ps) (k + 1) = nn := by rw [unhide HS, unhide HO]; simp
      clear hcong
      gi_wp2
      rw [hs]
      exact ⟨hkb.keeps (by omega), hkb.ka (by omega) (by omega) (by omega), hIe⟩
    · gi_wp2
      refine ⟨trivial, CallsIn.inRound l (callsIn_wide.2 (hcong.mono ?_))⟩
      rintro e w2 ⟨rfl, hb2⟩
      have hkb : KB (w.heap.size + 1) W w2 := (KB.refl _ W).below (Nat.le_refl _) hb2
      have hIe := (unhide HIW).step hb2 (by omega)
      have hy1 := hIe.f1
      clear hcong
      gi_wp2
      refine ⟨trivial, CallsIn.inRound l (callsIn_wide.2 ((allTruths_any cs.length _).mono ?_))⟩
      rintro e wx ⟨rfl, rfl⟩
      gi_wp2
      obtain ⟨wn, hwn⟩ : ∃ wn, w2.alloc (.cells #[.int .i64 cs.length] 3) = wn := ⟨_, rfl⟩
      rw [hwn]
      have hbn : Below w2.heap.size w2 wn := by rw [← hwn]; exact (Below.refl _ _).alloc (Nat.le_refl _) _
      have hX2 : wn.cell? ⟨w2.heap.size, 0, none⟩ = some (.int .i64 cs.length) := by rw [← hwn]; simp [go_sem]
      have hsn : w2.heap.size < wn.heap.size := by rw [← hwn]; simp
      have hs2 : W.heap.size ≤ w2.heap.size := hb2.size
      have hkn : KB (w.heap.size + 1) W wn := hkb.below (B := w2.heap.size) (by omega) hbn
      have hIn : CW w GT GC GP ts.length cs.length ps.length nn wn := hIe.step hbn (by omega)
      have hln : wn.heap[l]? = some (.loop r) := (hkn.2 l hll (by omega)).trans hr
      have hcx := (unhide HIW).c
      have hcmn : CMap wn b (fi row) ts.length 100 := hcm.kept (hkn.2 b hcm.lt (hcm.notCell hcx))
      have hEn : wn.cell? ⟨E, 0, none⟩ = some (.map (some b)) := (World.cell?_of_block (hkn.2 E hlE (by omega))).trans hE
      have hseq2 : SeqRel (Fence.wide.inRound l) 4 Tryz.prog 81 #[.pointer (some ⟨w2.heap.size, 0, none⟩)] (2 ^ cs.length) (TX cs.length) (KA wn.heap.size w2.heap.size w2.heap.size) wn := allTruths_all 4 (by omega) w2.heap.size wn.heap.size cs.length wn h4 hX2
      obtain ⟨g, hg⟩ : ∃ g : Nat → Bool, (fun k => cTru (fi row) cs ps (clI row) (tv cs.length k)) = g := ⟨_, rfl⟩
      rw [hg] at HO
      have HG := hide hg
      have hbnd : b < wn.heap.size := hcmn.lt
      have hbc : b ≠ w.heap.size + 1 := hcm.notCell hcx
      have hEw : E < wn.heap.size := by omega
      have hab2 : AbB wn.heap.size (fun (j : Nat) V => CW w GT GC GP ts.length cs.length ps.length (nn + (List.range j).countP g) V ∧ KB (w.heap.size + 1) wn V) := fun j A C h hs hb => ⟨h.1.step hb (by omega), h.2.below (Nat.le_refl _) hb⟩
      have HCM := hide hcmn
      have HEN := hide hEn
      have HKN := hide hkn
      clear hwn hX2 hkb hIe hy1 hbn hg hcmn hEn hcm hE hx0 hx1 hx2 hkn hr
      refine wpIn_rangeFunc_reln (l0 := l) rfl hln (by omega) rfl trivial (fun _ _ => by simp [go_sem]) hseq2 KA.trans ?_ (Below.refl _ _) ?_ _ hab2 ⟨by simpa using hIn, KB.refl _ _⟩
        (fun j a' V => ∃ H, a' = { tmps := #[.agg #[.slice (some ⟨GT, 0, none⟩) ts.length ts.length, .slice (some ⟨GC, 0, none⟩) cs.length cs.length, .slice (some ⟨GP, 0, none⟩) ps.length ps.length], .pointer (some ⟨w.heap.size, 0, none⟩), .int .i64 0, .pointer (some ⟨w.heap.size + 1, 0, none⟩), .pointer (some ⟨E, 0, none⟩), .slice (some ⟨H, 0, none⟩) cs.length cs.length, undef, .pointer (some ⟨w.heap.size, 0, none⟩), .slice (some ⟨GT, 0, none⟩) ts.length ts.length, .int .i64 ts.length, .func (.func 75) #[] #[.pointer (some ⟨w.heap.size + 1 + 1, 0, none⟩)], .map (some b), .agg #[.slice (some ⟨GT, 0, none⟩) ts.length ts.length, .slice (some ⟨GC, 0, none⟩) cs.length cs.length, .slice (some ⟨GP, 0, none⟩) ps.length ps.length], .map (some b), .bool true, .bool false, .pointer (some ⟨w.heap.size, 1, none⟩), .slice (some ⟨GC, 0, none⟩) cs.length cs.length, .int .i64 cs.length, .func (.func 81) #[] #[.pointer (some ⟨w2.heap.size, 0, none⟩)], .slice (some ⟨H, 0, none⟩) cs.length cs.length, undef, undef, undef, undef, undef, undef, undef, undef, undef, undef, undef, undef, undef, undef], defers := [] } ∧ RowsH V H (tv cs.length j) ∧ j < 2 ^ cs.length) ?ax2 ?assign2 ?body2 ?done2
      · intro V l o o' hlw ho hc hwk
        refine ⟨fun j x hj hx hxc => (World.putObj_heap_other (fun e => ?_)).trans hx, World.putObj_heap_other (by omega), World.putObj_heap_other (by omega)⟩
        subst e
        rw [ho] at hx
        cases hx
        rcases hxc with h | h
        · rw [hc] at h; cases h
        · rw [hwk] at h; cases h
      · rintro k xs V ⟨H, rfl, _⟩; simp
      case ax2 =>
        rintro j a' V l r r' hl hr ⟨H, q1, q2, q3⟩
        refine ⟨H, q1, ⟨by simpa [World.putObj] using q2.1, fun i hi => cell_own (q2.2 i hi) (grownBy_putObj' _ l _) (fun q e => by cases e; exact ⟨_, hr, rfl⟩)⟩, q3⟩
      case assign2 =>
        rintro l2 j xs V K hj hsV ⟨H, rfl, hH⟩ hJ hK
        have hK2 := hK { tmps := #[.agg #[.slice (some ⟨GT, 0, none⟩) ts.length ts.length, .slice (some ⟨GC, 0, none⟩) cs.length cs.length, .slice (some ⟨GP, 0, none⟩) ps.length ps.length], .pointer (some ⟨w.heap.size, 0, none⟩), .int .i64 0, .pointer (some ⟨w.heap.size + 1, 0, none⟩), .pointer (some ⟨E, 0, none⟩), .slice (some ⟨H, 0, none⟩) cs.length cs.length, undef, .pointer (some ⟨w.heap.size, 0, none⟩), .slice (some ⟨GT, 0, none⟩) ts.length ts.length, .int .i64 ts.length, .func (.func 75) #[] #[.pointer (some ⟨w.heap.size + 1 + 1, 0, none⟩)], .map (some b), .agg #[.slice (some ⟨GT, 0, none⟩) ts.length ts.length, .slice (some ⟨GC, 0, none⟩) cs.length cs.length, .slice (some ⟨GP, 0, none⟩) ps.length ps.length], .map (some b), .bool true, .bool false, .pointer (some ⟨w.heap.size, 1, none⟩), .slice (some ⟨GC, 0, none⟩) cs.length cs.length, .int .i64 cs.length, .func (.func 81) #[] #[.pointer (some ⟨w2.heap.size, 0, none⟩)], .slice (some ⟨H, 0, none⟩) cs.length cs.length, undef, undef, undef, undef, undef, undef, undef, undef, undef, undef, undef, undef, undef, undef], defers := [] } V ⟨Nat.le_refl _, fun j o hj ho _ => ho⟩ ⟨fun j o hj ho _ => ho, rfl, rfl⟩ hJ ⟨H, rfl, hH, hj⟩
        clear hK
        gi_wp2
        exact hK2
      case body2 =>
        rintro l2 j a' V hj hl2 ⟨r2, hr2⟩ ⟨hJ, hKB⟩ ⟨H, rfl, hH, hj2⟩
        have hVE : V.cell? ⟨E, 0, none⟩ = some (.map (some b)) := (World.cell?_of_block (hKB.2 E hEw (by omega))).trans (unhide HEN)
        have hVM : CMap V b (fi row) ts.length 100 := (unhide HCM).kept (hKB.2 b hbnd hbc)
        have hszV := hJ.sz
        have hsV : wn.heap.size ≤ V.heap.size := hKB.1
        have hA : Hid (∀ V' : World, Below V.heap.size V V' → Calls Tryz.prog 50 #[.agg #[.slice (some ⟨GT, 0, none⟩) ts.length ts.length, .slice (some ⟨GC, 0, none⟩) cs.length cs.length, .slice (some ⟨GP, 0, none⟩) ps.length ps.length], .agg #[.map (some b), .slice (some ⟨H, 0, none⟩) cs.length cs.length]] V' fun e w' => e = .returned (.bool (decide (∀ p ∈ prs (mkc (fi row) cs) cs.length, (tv cs.length j).getD p.1 false = (tv cs.length j).getD p.2 false))) ∧ Below V'.heap.size V' w') := fun V' h => by
          have q := agreed_any GT GC GP ts.length ps.length b 100 H (fi row) cs (tv cs.length j) V' h4 h7 (tv_length _ _) ((unhide HRC).below (hJ.below.trans (h.mono (by omega))) (unhide HRC).1) (unhide HIC) (unhide HF) (hVM.kept (h.block b hVM.lt)) (hH.same (h.block H hH.1))
          unfold fv sv at q
          rw [tv_length] at q
          exact q
        have hB : Hid (∀ V' : World, Below V.heap.size V V' → Calls Tryz.prog 51 #[.agg #[.slice (some ⟨GT, 0, none⟩) ts.length ts.length, .slice (some ⟨GC, 0, none⟩) cs.length cs.length, .slice (some ⟨GP, 0, none⟩) ps.length ps.length], .agg #[.map (some b), .slice (some ⟨H, 0, none⟩) cs.length cs.length]] V' fun e w' => e = .returned (.bool ((pvs (clI row) (tv cs.length j) ps).getD (ps.length - 1) false)) ∧ Below V'.heap.size V' w') := fun V' h => by
          have q := isTrue_any GT GC GP ts.length cs.length b 100 H (fi row) ps (clI row) (tv cs.length j) V' h1 h100 h7 ((unhide HRP).below (hJ.below.trans (h.mono (by omega))) (unhide HRP).1) (by rw [tv_length]; exact unhide HIP) (unhide HF) (unhide HCL) (hVM.kept (h.block b hVM.lt)) (hH.same (h.block H hH.1))
          unfold fv sv at q
          rw [tv_length] at q
          exact q
        have hgj : g j = (decide (∀ p ∈ prs (mkc (fi row) cs) cs.length, (tv cs.length j).getD p.1 false = (tv cs.length j).getD p.2 false) && (pvs (clI row) (tv cs.length j) ps).getD (ps.length - 1) false) := by rw [← unhide HG]; rfl
        generalize decide (∀ p ∈ prs (mkc (fi row) cs) cs.length, (tv cs.length j).getD p.1 false = (tv cs.length j).getD p.2 false) = a1 at hA hgj
        generalize (pvs (clI row) (tv cs.length j) ps).getD (ps.length - 1) false = a2 at hB hgj
        have hcs : (List.range (j + 1)).countP g = (List.range j).countP g + (if g j = true then 1 else 0) := by
          rw [List.range_succ, List.countP_append]; simp [List.countP_cons]
        have hle2 : (List.range j).countP g ≤ j := by
          have := List.countP_le_length (p := g) (l := List.range j)
          rwa [List.length_range] at this
        have hp16 : 2 ^ cs.length ≤ 16 := by
          have h' : cs.length = 0 ∨ cs.length = 1 ∨ cs.length = 2 ∨ cs.length = 3 ∨ cs.length = 4 := by omega
          rcases h' with h | h | h | h | h <;> rw [h] <;> decide
        generalize (List.range j).countP g = m0 at hJ hcs hle2
        have hm0 : m0 ≤ 16 := by omega
        obtain ⟨V1, hV1⟩ : ∃ V1, V.alloc (.cells #[.map (some b), .slice (some ⟨H, 0, none⟩) cs.length cs.length] 105) = V1 := ⟨_, rfl⟩
        have hbv : Below V.heap.size V V1 := by rw [← hV1]; exact (Below.refl _ _).alloc (Nat.le_refl _) _
        have hJ1 : CW w GT GC GP ts.length cs.length ps.length (nn + m0) V1 := hJ.step hbv (by omega)
        have y0 : V1.cell? ⟨V.heap.size, 0, none⟩ = some (.map (some b)) := by rw [← hV1]; simp [go_sem]
        have y1 : V1.cell? ⟨V.heap.size, 1, none⟩ = some (.slice (some ⟨H, 0, none⟩) cs.length cs.length) := by rw [← hV1]; simp [go_sem]
        have hs1 : V.heap.size < V1.heap.size := by rw [← hV1]; simp
        have HV1 := hide hV1
        have HGJ := hide hgj
        have HCS := hide hcs
        have HJ := hide hJ
        have HJ1 := hide hJ1
        have HKB := hide hKB
        have z0 := hJ1.f0
        have z1 := hJ1.f1
        have z2 := hJ1.f2
        rw [← hV1] at z0 z1 z2
        clear hV1 hgj hcs hJ hJ1 hVM hKB hseq hab hw0 hseq2 hab2 hIn hH hp16 hle2
        gi_wp2
        rw [unhide HV1]
        refine ⟨trivial, CallsIn.inRound l2 (CallsIn.inRound l (callsIn_wide.2 ((unhide hA _ hbv).mono ?_)))⟩
        rintro e w3 ⟨rfl, hb3⟩
        have hb13 : Below V.heap.size V w3 := hbv.trans (hb3.mono (by omega))
        have hJ3 := (unhide HJ1).step hb3 (by have := (unhide HJ1).sz; omega)
        have y03 := (hb3.cell (p := ⟨V.heap.size, 0, none⟩) hs1).trans y0
        have y13 := (hb3.cell (p := ⟨V.heap.size, 1, none⟩) hs1).trans y1
        have hs3 : V1.heap.size ≤ w3.heap.size := hb3.size
        have z0 := hJ3.f0
        have z1 := hJ3.f1
        have z2 := hJ3.f2
        have HJ3 := hide hJ3
        clear hJ3
        have hkv3 : KB (w.heap.size + 1) V w3 := (KB.refl _ V).below (Nat.le_refl _) hb13
        cases a1
        · gi_wp2
          refine ⟨trivial, ?_⟩
          gi_wp2
          have hs : nn + (List.range (j + 1)).countP g = nn + m0 := by rw [unhide HCS, unhide HGJ]; simp
          refine ⟨hkv3.keeps (by omega), hkv3.ka (by omega) (by omega) (by omega), ?_, (unhide HKB).trans hkv3⟩
          rw [hs]
          exact unhide HJ3
        · gi_wp2
          refine ⟨trivial, CallsIn.inRound l2 (CallsIn.inRound l (callsIn_wide.2 ((unhide hB _ hb13).mono ?_)))⟩
          rintro e w4 ⟨rfl, hb4⟩
          have hb14 : Below V.heap.size V w4 := hb13.trans (hb4.mono (by omega))
          have hJ4 := (unhide HJ3).step hb4 (by have := (unhide HJ3).sz; omega)
          have hkv4 : KB (w.heap.size + 1) V w4 := (KB.refl _ V).below (Nat.le_refl _) hb14
          have hc4 := hJ4.c
          have hf4 := hJ4.fr
          have HJ4 := hide hJ4
          clear hJ4
          cases a2
          · gi_wp2
            have hs : nn + (List.range (j + 1)).countP g = nn + m0 := by rw [unhide HCS, unhide HGJ]; simp
            refine ⟨hkv4.keeps (by omega), hkv4.ka (by omega) (by omega) (by omega), ?_, (unhide HKB).trans hkv4⟩
            rw [hs]
            exact unhide HJ4
          · have hcast : (((nn + m0 : Nat) : Int) + 1) = ((nn + m0 + 1 : Nat) : Int) := by omega
            have HCA := hide hcast
            clear hcast
            have hnm : nn + m0 ≤ 20000 := by omega
            generalize hN : nn + m0 = N0 at hc4 hnm HCA
            have HN := hide hN
            clear hN
            gi_wp2
            have hs : nn + (List.range (j + 1)).countP g = N0 + 1 := by rw [unhide HCS, unhide HGJ]; have := unhide HN; simp; omega
            have hkv5 := hkv4.set (.int .i64 ((N0 : Int) + 1))
            refine ⟨hkv5.keeps (by omega), hkv5.ka (by omega) (by omega) (by omega), ?_, (unhide HKB).trans hkv5⟩
            rw [hs, unhide HCA]
            exact (unhide HJ4).count (N0 + 1)
      case done2 =>
        rintro V hsV ⟨hJ, hKB⟩
        have hs : sumTo (rws 0 ts.length) (cOne ts cs ps) (k + 1) = nn + (List.range (2 ^ cs.length)).countP g := by rw [unhide HS, unhide HO]; simp
        gi_wp2
        rw [hs]
        have hkk := (unhide HKN).trans hKB
        exact ⟨hkk.keeps (by omega), hkk.ka (by omega) (by omega) (by omega), hJ⟩
  case done =>
    intro D W hD hI hdef
    have hx := hI.c
    gi_wp2
    refine ⟨by simp, .inl ⟨_, _, rfl, run_takeDeferred hdef, ?_⟩⟩
    refine ⟨_, results_tmp rfl _ _ _, rfl, hI.below.trans ?_⟩
    exact below_put (by omega)

end Go.Proofs.YthcppbmkacbbiaaGreat

namespace Go.Proofs.YthcppbmkacbbiaaGreat
open Go.RowKit Go.Maps Go.WideMaps
open Rdg (Key put St InvP pvs)

set_option maxHeartbeats 400000 in
theorem count_bad (w : World) (s : ByteArray) (hm : s.size ≤ maxLen) (hE : (chk s).1 ≠ 0) :
    Calls Tryz.prog 20 #[.string s] w fun e w' => e = .returned (.tuple #[.int .i64 0, .int .i64 (chk s).1]) ∧ Below w.heap.size w w' := by
  have HR := hide (fun w => read_chk w s hm)
  generalize chk s = c at HR hE
  have hb : (c.1 != 0) = true := by simpa using hE
  go_enter Tryz.func20, Tryz.ntmps20
  go_wp2_with fail
  refine ((unhide HR) _).mono ?_
  rintro e w1 ⟨⟨p0, n0, c0, p1, n1, c1, p2, n2, c2, rfl⟩, h1⟩
  go_wp2_with fail
  go_ret2
  exact ⟨rfl, h1.alloc h1.size _⟩

set_option linter.unusedSimpArgs false in
set_option maxHeartbeats 1000000 in
theorem count_ok (w : World) (s : ByteArray) (hs : s.size ≤ 100) (ts : List Key) (cs : List (Int × Nat)) (ps : List Key) (mm : Nat) (HR : Rdg.rdP (pk s) (s.size + 1) 0 0 [] [] [] = .ok (s.size, ts, cs, ps, mm)) (h0 : 0 < ts.length) (h7 : ts.length ≤ 7) (h4 : cs.length ≤ 4) (hi : Rdg.Inv ts) (hic : Rdg.InvC ts cs)
    (hnd : cs.Nodup) (hip : Rdg.InvP ts.length cs.length ps) (hp0 : 0 < ps.length) (hp : ps.length ≤ 100) (hicc : ∀ x ∈ cs, (x.1 = 80 ∨ x.1 = 81) ∧ x.2 < ts.length) :
    Calls Tryz.prog 20 #[.string s] w fun e w' => e = .returned (.tuple #[.int .i64 (cAll ts cs ps), .int .i64 0]) ∧ Below w.heap.size w w' := by
  have HO := hide (read_right w s hs ts cs ps mm HR h7 h4 hi hic hnd hip hp)
  have HM := hide (fun (GT GC GP : Nat) (W : World) r1 r2 r3 => countModels_any GT GC GP ts cs ps W h0 h7 h4 hp0 hp r1 r2 r3 hi hicc hip)
  generalize cAll ts cs ps = N at HM ⊢
  clear hi hic HR hip hicc hnd
  unfold fv at HO HM
  go_enter Tryz.func20, Tryz.ntmps20
  go_wp2_with fail
  refine (unhide HO).mono ?_
  rintro e w1 ⟨GT, GC, GP, rfl, h1, hfr⟩
  have hT1 := rowT_of hfr.t
  have hC1 := rowC_of hfr.c
  have hP1 := rowT_of hfr.p
  have M1 := hide hT1
  have M2 := hide hC1
  have M3 := hide hP1
  clear hT1 hC1 hP1 HO hfr
  go_wp2_with fail
  obtain ⟨w2, hw2⟩ : ∃ w2, w1.alloc (.cells #[.slice (some ⟨GT, 0, none⟩) ts.length ts.length, .slice (some ⟨GC, 0, none⟩) cs.length cs.length, .slice (some ⟨GP, 0, none⟩) ps.length ps.length] 54) = w2 := ⟨_, rfl⟩
  have hbn : Below w1.heap.size w1 w2 := by rw [← hw2]; exact (Below.refl w1.heap.size w1).alloc (Nat.le_refl _) _
  rw [hw2]
  have hb2 : Below w.heap.size w w2 := h1.trans (hbn.mono h1.size)
  clear hw2
  refine (unhide HM GT GC GP w2 ((unhide M1).same (hbn.block _ (unhide M1).1)) ((unhide M2).same (hbn.block _ (unhide M2).1)) ((unhide M3).same (hbn.block _ (unhide M3).1))).mono ?_
  rintro e w3 ⟨rfl, h3⟩
  have hb3 : Below w.heap.size w w3 := hb2.trans (h3.mono hb2.size)
  go_wp2_with fail
  go_ret2
  exact ⟨rfl, hb3⟩

end Go.Proofs.YthcppbmkacbbiaaGreat

namespace Go.Proofs.YthcppbmkacbbiaaGreat
open Go.RowKit
open Nx

attribute [local go_sem] Oper.semAt_some

/-- What lies while the document looks for the next case: the two rows, as they stand. -/
structure NX (w : World) (G1 G2 nt nc : Nat) (row : List Nat) (hl : List Bool) (W : World) : Prop where
  x0 : W.cell? ⟨w.heap.size, 0, none⟩ = some (.slice (some ⟨G1, 0, none⟩) nt nt)
  x1 : W.cell? ⟨w.heap.size, 1, none⟩ = some (.slice (some ⟨G2, 0, none⟩) nc nc)
  r1 : W.ownsRow 0 3 1 (.slice (some ⟨G1, 0, none⟩) nt nt) nt (row.map kvI)
  r2 : W.ownsRow 0 4 1 (.slice (some ⟨G2, 0, none⟩) nc nc) nc (hl.map Value.bool)
  os : W.os = w.os
  tape : W.tape = w.tape
  output : W.output = w.output
  size : w.heap.size < W.heap.size
  block : ∀ j, j < w.heap.size → j ≠ G1 → j ≠ G2 → W.heap[j]? = w.heap[j]?

theorem NX.drew {w : World} {G1 G2 nt nc : Nat} {row : List Nat} {hl : List Bool} {W : World} (h : NX w G1 G2 nt nc row hl W) : NX w G1 G2 nt nc row hl W.drew := ⟨h.x0, h.x1, h.r1, h.r2, h.os, h.tape, h.output, h.size, h.block⟩

theorem NX.set2 {w : World} {G1 G2 nt nc : Nat} {row : List Nat} {hl : List Bool} {W : World} (h : NX w G1 G2 nt nc row hl W) (hne : G1 ≠ G2) (h2 : G2 < w.heap.size) (p : Nat) (b : Bool) (hl' : List Bool) (he : hl' = hl.set p b) : NX w G1 G2 nt nc row hl' (W.setCell ⟨G2, p, none⟩ (.bool b)) := by
  obtain ⟨q1, q2⟩ := h.r2.stored p (.bool b)
  refine ⟨q2.cell h.x0 (by simp; omega), q2.cell h.x1 (by simp; omega), h.r1.kept q2 (Or.inr (by simpa [Value.ownBlock] using hne)), ?_, q2.os.trans h.os, q2.tape.trans h.tape, q2.output.trans h.output, Nat.lt_of_lt_of_le h.size q2.size, fun j hj n1 n2 => (q2.block j (Nat.lt_trans hj h.size) (by simpa using n2)).trans (h.block j hj n1 n2)⟩
  rw [he, List.map_set]
  exact q1

theorem NX.set1 {w : World} {G1 G2 nt nc : Nat} {row : List Nat} {hl : List Bool} {W : World} (h : NX w G1 G2 nt nc row hl W) (hne : G1 ≠ G2) (h2 : G1 < w.heap.size) (p d : Nat) (row' : List Nat) (he : row' = row.set p d) : NX w G1 G2 nt nc row' hl (W.setCell ⟨G1, p, none⟩ (.int .i64 d)) := by
  obtain ⟨q1, q2⟩ := h.r1.stored p (.int .i64 d)
  refine ⟨q2.cell h.x0 (by simp; omega), q2.cell h.x1 (by simp; omega), ?_, h.r2.kept q2 (Or.inr (by simpa [Value.ownBlock] using fun e => hne e.symm)), q2.os.trans h.os, q2.tape.trans h.tape, q2.output.trans h.output, Nat.lt_of_lt_of_le h.size q2.size, fun j hj n1 n2 => (q2.block j (Nat.lt_trans hj h.size) (by simpa using n1)).trans (h.block j hj n1 n2)⟩
  rw [he, List.map_set]
  exact q1

/-- What next gives. -/
def NP (w : World) (G1 G2 : Nat) (row : List Nat) (hl : List Bool) (e : Ending) (w' : World) : Prop :=
  match nb hl with
  | some hl' => e = .returned (.bool true) ∧ NX w G1 G2 row.length hl.length row hl' w'
  | none => match nxt 0 row with
    | some row' => e = .returned (.bool true) ∧ NX w G1 G2 row.length hl.length row' (List.replicate hl.length false) w'
    | none => e = .returned (.bool false) ∧ ∃ row' hl', NX w G1 G2 row.length hl.length row' hl' w'

set_option linter.unusedSimpArgs false in
set_option maxRecDepth 100000 in
set_option maxHeartbeats 2000000 in
theorem Rnext_any (w : World) (G1 G2 : Nat) (row : List Nat) (hl : List Bool) (h0 : 0 < row.length) (h7 : row.length ≤ 7) (h4 : hl.length ≤ 4) (hv : ∀ x ∈ row, x ≤ 100) (hne : G1 ≠ G2) (hl1 : G1 < w.heap.size) (hl2 : G2 < w.heap.size)
    (h1 : w.ownsRow 0 3 1 (.slice (some ⟨G1, 0, none⟩) row.length row.length) row.length (row.map kvI)) (h2 : w.ownsRow 0 4 1 (.slice (some ⟨G2, 0, none⟩) hl.length hl.length) hl.length (hl.map Value.bool)) :
    Calls Tryz.prog 62 #[.agg #[.slice (some ⟨G1, 0, none⟩) row.length row.length, .slice (some ⟨G2, 0, none⟩) hl.length hl.length]] w (NP w G1 G2 row hl) := by
  obtain ⟨w0, hw0⟩ : ∃ w0, w.alloc (.cells #[.slice (some ⟨G1, 0, none⟩) row.length row.length, .slice (some ⟨G2, 0, none⟩) hl.length hl.length] 118) = w0 := ⟨_, rfl⟩
  have hN0 : NX w G1 G2 row.length hl.length row hl w0 := by
    rw [← hw0]
    exact ⟨by simp [go_sem], by simp [go_sem], h1.alloc _, h2.alloc _, rfl, rfl, rfl, by simp, fun j hj _ _ => Below.heap_alloc _ _ _ hj⟩
  obtain ⟨nt, hnt⟩ : ∃ nt, row.length = nt := ⟨_, rfl⟩
  obtain ⟨nc, hnc⟩ : ∃ nc, hl.length = nc := ⟨_, rfl⟩
  rw [hnt] at hN0 hw0 h0 h7 ⊢
  rw [hnc] at hN0 hw0 h4 ⊢
  have HNT := hide hnt
  have HNC := hide hnc
  have HV := hide hv
  have HW0 := hide hw0
  clear h1 h2 hnt hnc hv hw0
  go_enter Tryz.func62, Tryz.ntmps62
  go_wp2_with fail
  rw [unhide HW0]
  go_loopw [3] (fun i wr => ∃ k : Nat, k ≤ nc ∧ i = .int .i64 ((k : Int) - 1) ∧ NX w G1 G2 nt nc row (hl.take k ++ List.replicate (nc - k) false) wr ∧ Hid (nb (hl.drop k) = none)) (fun i _ => (intOf i + 1).toNat)
  case atStart =>
    refine ⟨nc, Nat.le_refl _, rfl, ?_, ?_⟩
    · rw [List.take_of_length_le (by rw [unhide HNC]; exact Nat.le_refl _), Nat.sub_self]
      simpa using hN0
    · rw [List.drop_eq_nil_of_le (by rw [unhide HNC]; exact Nat.le_refl _)]
      exact hide rfl
  case round =>
    obtain ⟨k, hk, rfl, hN, hno⟩ := hrel
    by_cases hk0 : 0 < k
    · obtain ⟨p, rfl⟩ : ∃ p, k = p + 1 := ⟨k - 1, by omega⟩
      have hcast : (((p + 1 : Nat) : Int) - 1) = (p : Int) := by omega
      rw [hcast]
      clear hcast
      have hpl : p < hl.length := by rw [unhide HNC]; omega
      have hb0 : (0 : Int) ≤ (p : Int) := by omega
      have hpb : (p : Int) < (nc : Int) := by omega
      have htk : hl.take (p + 1) = hl.take p ++ [hl[p]] := by rw [List.take_add_one, List.getElem?_eq_getElem hpl]; rfl
      have hst := nb_here hpl (unhide hno)
      have hA : (hl.take p).length = p := by rw [List.length_take]; omega
      have hcp : wr.cell? ⟨G2, p, none⟩ = some (.bool hl[p]) := by
        rw [hN.r2.cellAt p (by omega), htk, List.append_assoc, List.map_append, List.getElem?_append_right (by rw [List.length_map, hA]; exact Nat.le_refl _), List.length_map, hA, Nat.sub_self]
        rfl
      have hset : ∀ b : Bool, (hl.take (p + 1) ++ List.replicate (nc - (p + 1)) false).set p b = hl.take p ++ b :: List.replicate (nc - (p + 1)) false := fun b => by
        rw [htk, List.append_assoc]
        exact set_mid _ _ _ _ hA
      have hfz : wr.frozen? ⟨G2, p, none⟩ = false := hN.r2.frozenAt p
      rw [unhide HNC] at hst
      have HST := hide hst
      have HSET := hide hset
      clear hst hset htk hno hA
      generalize hl[p] = b at hcp HST
      have hx0 := hN.x0
      have hx1 := hN.x1
      have HN := hide hN
      clear hN
      go_wp2_with fail
      have hS0 : wr.drew.cell? ⟨w.heap.size, 1, none⟩ = some (.slice (some ⟨G2, 0, none⟩) nc nc) ∧ wr.drew.cell? ⟨G2, p, none⟩ = some (.bool b) := ⟨hx1, hcp⟩
      refine wp_region_any rfl (wpAny_of_last (S := fun W' => W'.cell? ⟨w.heap.size, 1, none⟩ = some (.slice (some ⟨G2, 0, none⟩) nc nc) ∧ W'.cell? ⟨G2, p, none⟩ = some (.bool b)) (z := 10) _ _ _ _ ?_)
      simp only [List.size_toArray, List.length_cons, List.length_nil, Nat.reduceAdd, Array.replicate_succ, Array.replicate_zero, List.push_toArray, List.nil_append, List.cons_append]
      change wpAnyL Tryz.prog .any _ _ _ _ _ _ _ wr.drew
      refine wpAnyL_take (i := 0) (v := .pointer (some ⟨w.heap.size, 1, none⟩)) rfl (by kernel_rfl) (by kernel_rfl) (by kernel_rfl) (by kernel_rfl) (fun _ _ _ h => h) (by rfl) (fun w' hS => ?_) hS0 ?_
      · obtain ⟨s1, s2⟩ := hS
        go_simp
      simp only [List.getElem_toArray, List.getElem_cons_zero, List.getElem_cons_succ, Act.put, List.setIfInBounds_toArray, List.set_cons_zero, List.set_cons_succ]
      refine wpAnyL_take (i := 1) (v := .slice (some ⟨G2, 0, none⟩) nc nc) rfl (by kernel_rfl) (by kernel_rfl) (by kernel_rfl) (by kernel_rfl) (fun _ _ _ h => h) (by rfl) (fun w' hS => ?_) hS0 ?_
      · obtain ⟨s1, s2⟩ := hS
        go_simp
      simp only [List.getElem_toArray, List.getElem_cons_zero, List.getElem_cons_succ, Act.put, List.setIfInBounds_toArray, List.set_cons_zero, List.set_cons_succ]
      refine wpAnyL_take (i := 2) (v := .int .i64 p) rfl (by kernel_rfl) (by kernel_rfl) (by kernel_rfl) (by kernel_rfl) (fun _ _ _ h => h) (by rfl) (fun w' hS => ?_) hS0 ?_
      · obtain ⟨s1, s2⟩ := hS
        go_simp
      simp only [List.getElem_toArray, List.getElem_cons_zero, List.getElem_cons_succ, Act.put, List.setIfInBounds_toArray, List.set_cons_zero, List.set_cons_succ]
      refine wpAnyL_take (i := 3) (v := .pointer (some ⟨w.heap.size, 1, none⟩)) rfl (by kernel_rfl) (by kernel_rfl) (by kernel_rfl) (by kernel_rfl) (fun _ _ _ h => h) (by rfl) (fun w' hS => ?_) hS0 ?_
      · obtain ⟨s1, s2⟩ := hS
        go_simp
      simp only [List.getElem_toArray, List.getElem_cons_zero, List.getElem_cons_succ, Act.put, List.setIfInBounds_toArray, List.set_cons_zero, List.set_cons_succ]
      refine wpAnyL_take (i := 4) (v := .slice (some ⟨G2, 0, none⟩) nc nc) rfl (by kernel_rfl) (by kernel_rfl) (by kernel_rfl) (by kernel_rfl) (fun _ _ _ h => h) (by rfl) (fun w' hS => ?_) hS0 ?_
      · obtain ⟨s1, s2⟩ := hS
        go_simp
      simp only [List.getElem_toArray, List.getElem_cons_zero, List.getElem_cons_succ, Act.put, List.setIfInBounds_toArray, List.set_cons_zero, List.set_cons_succ]
      refine wpAnyL_take (i := 5) (v := .int .i64 p) rfl (by kernel_rfl) (by kernel_rfl) (by kernel_rfl) (by kernel_rfl) (fun _ _ _ h => h) (by rfl) (fun w' hS => ?_) hS0 ?_
      · obtain ⟨s1, s2⟩ := hS
        go_simp
      simp only [List.getElem_toArray, List.getElem_cons_zero, List.getElem_cons_succ, Act.put, List.setIfInBounds_toArray, List.set_cons_zero, List.set_cons_succ]
      refine wpAnyL_take (i := 6) (v := .pointer (some ⟨G2, p, none⟩)) rfl (by kernel_rfl) (by kernel_rfl) (by kernel_rfl) (by kernel_rfl) (fun _ _ _ h => h) (by rfl) (fun w' hS => ?_) hS0 ?_
      · obtain ⟨s1, s2⟩ := hS
        go_simp
      simp only [List.getElem_toArray, List.getElem_cons_zero, List.getElem_cons_succ, Act.put, List.setIfInBounds_toArray, List.set_cons_zero, List.set_cons_succ]
      refine wpAnyL_take (i := 7) (v := .bool b) rfl (by kernel_rfl) (by kernel_rfl) (by kernel_rfl) (by kernel_rfl) (fun _ _ _ h => h) (by rfl) (fun w' hS => ?_) hS0 ?_
      · obtain ⟨s1, s2⟩ := hS
        go_simp
      simp only [List.getElem_toArray, List.getElem_cons_zero, List.getElem_cons_succ, Act.put, List.setIfInBounds_toArray, List.set_cons_zero, List.set_cons_succ]
      refine wpAnyL_take (i := 8) (v := .bool (!b)) rfl (by kernel_rfl) (by kernel_rfl) (by kernel_rfl) (by kernel_rfl) (fun _ _ _ h => h) (by rfl) (fun w' hS => ?_) hS0 ?_
      · obtain ⟨s1, s2⟩ := hS
        go_simp
      simp only [List.getElem_toArray, List.getElem_cons_zero, List.getElem_cons_succ, Act.put, List.setIfInBounds_toArray, List.set_cons_zero, List.set_cons_succ]
      refine wpAnyL_take (i := 9) (v := .pointer (some ⟨G2, p, none⟩)) rfl (by kernel_rfl) (by kernel_rfl) (by kernel_rfl) (by kernel_rfl) (fun _ _ _ h => h) (by rfl) (fun w' hS => ?_) hS0 ?_
      · obtain ⟨s1, s2⟩ := hS
        go_simp
      simp only [List.getElem_toArray, List.getElem_cons_zero, List.getElem_cons_succ, Act.put, List.setIfInBounds_toArray, List.set_cons_zero, List.set_cons_succ]
      have hfz2 : wr.drew.frozen? ⟨G2, p, none⟩ = false := hfz
      refine wpAnyL_one (i := 10) (by kernel_rfl) rfl (by rfl) (fun K hK => ?_)
      go_simp
      refine hK.out _ _ (fun h => absurd rfl h) (wpAnyL_done (by kernel_rfl) ?_ _)
      clear hK K
      cases b
      · have hN3 := ((unhide HN).set2 hne hl2 p true _ (unhide HSET true).symm).drew
        have y1 := hN3.x1
        have yc : (wr.setCell ⟨G2, p, none⟩ (.bool true)).drew.cell? ⟨G2, p, none⟩ = some (.bool true) := cell_same _ hcp
        have HN3 := hide hN3
        have hnb := (unhide HST).1 rfl
        have HNB := hide hnb
        clear hN3 hnb
        go_wp2_with fail
        refine bodyPost_ret (v := .bool true) (by simp [results, Tryz.results62, go_sem]) rfl ?_
        unfold NP
        rw [unhide HNB, unhide HNT, unhide HNC]
        exact ⟨rfl, unhide HN3⟩
      · have hN3 := ((unhide HN).set2 hne hl2 p false _ (unhide HSET false).symm).drew
        have y1 := hN3.x1
        have yc : (wr.setCell ⟨G2, p, none⟩ (.bool false)).drew.cell? ⟨G2, p, none⟩ = some (.bool false) := cell_same _ hcp
        have HN3 := hide hN3
        clear hN3
        go_wp2_with fail
        refine ⟨⟨p, by omega, rfl, ?_, (unhide HST).2 rfl⟩, by simp [intOf]⟩
        have e : hl.take p ++ List.replicate (nc - p) false = hl.take p ++ false :: List.replicate (nc - (p + 1)) false := by
          rw [show nc - p = nc - (p + 1) + 1 by omega, List.replicate_succ]
        rw [e]
        exact unhide HN3
    · have hkk : k = 0 := by omega
      subst hkk
      have hnb : nb hl = none := by simpa using unhide hno
      have HNB := hide hnb
      have hN2 : NX w G1 G2 nt nc row (List.replicate nc false) wr := by simpa using hN
      have hx0 := hN2.x0
      have hx1 := hN2.x1
      have HN := hide hN2
      clear hN hno hnb hN2
      go_wp2_with fail
      go_loopw [4] (fun i wr => ∃ k : Nat, 1 ≤ k ∧ k ≤ nt ∧ i = .int .i64 ((k : Int) - 1) ∧ NX w G1 G2 nt nc (row.take k ++ List.replicate (nt - k) 0) (List.replicate nc false) wr ∧ Hid (nxt (cm 0 (row.take k)) (row.drop k) = none)) (fun i _ => (intOf i).toNat)
      case atStart =>
        refine ⟨nt, by omega, Nat.le_refl _, rfl, ?_, ?_⟩
        · rw [List.take_of_length_le (by rw [unhide HNT]; exact Nat.le_refl _), Nat.sub_self]
          simpa using unhide HN
        · rw [List.drop_eq_nil_of_le (by rw [unhide HNT]; exact Nat.le_refl _)]
          exact hide rfl
      case round =>
        clear HN hx0 hx1
        obtain ⟨k, hk1, hk, rfl, hN, hno⟩ := hrel
        obtain ⟨p, rfl⟩ : ∃ p, k = p + 1 := ⟨k - 1, by omega⟩
        have hcast : (((p + 1 : Nat) : Int) - 1) = (p : Int) := by omega
        rw [hcast]
        clear hcast
        have hpl : p < row.length := by rw [unhide HNT]; omega
        by_cases hp0 : 0 < p
        · have hb0 : (0 : Int) < (p : Int) := by omega
          have hpb : (p : Int) < (nt : Int) := by omega
          have htk : row.take (p + 1) = row.take p ++ [row[p]] := by rw [List.take_add_one, List.getElem?_eq_getElem hpl]; rfl
          have hst := nxt_here hpl (unhide hno)
          have hA : (row.take p).length = p := by rw [List.length_take]; omega
          have hgd : ∀ i (hi : i < row.length), row.getD i 0 = row[i] := fun i hi => by rw [List.getD_eq_getElem?_getD, List.getElem?_eq_getElem hi]; rfl
          have hcc : ∀ i, i < p + 1 → wr.cell? ⟨G1, i, none⟩ = some (.int .i64 (row.getD i 0)) := fun i hi => by
            rw [hN.r1.cellAt i (by omega), List.map_append, List.getElem?_append_left (by simp; omega), List.getElem?_map, List.getElem?_take_of_lt hi, List.getElem?_eq_getElem (by omega), hgd i (by omega)]
            rfl
          have hvv : ∀ i, i < p + 1 → row.getD i 0 ≤ 100 := fun i hi => by rw [hgd i (by omega)]; exact unhide HV _ (List.getElem_mem _)
          have htm : ∀ i, i < p + 1 → cm 0 (row.take (i + 1)) = max (cm 0 (row.take i)) (row.getD i 0 + 1) := fun i hi => by rw [hgd i (by omega)]; exact cm_take (by omega) 0
          rw [← hgd p hpl] at hst
          have hset : ∀ d : Nat, (row.take (p + 1) ++ List.replicate (nt - (p + 1)) 0).set p d = row.take p ++ d :: List.replicate (nt - (p + 1)) 0 := fun d => by
            rw [htk, List.append_assoc]
            exact set_mid _ _ _ _ hA
          have hfz : wr.frozen? ⟨G1, p, none⟩ = false := hN.r1.frozenAt p
          rw [unhide HNT] at hst
          have HST := hide hst
          have HSET := hide hset
          have hx0 := hN.x0
          have hx1 := hN.x1
          have HCC := hide hcc
          have HVV := hide hvv
          have HTM := hide htm
          have HN := hide hN
          clear hst hset htk hno hA hN hcc hvv htm hgd
          go_wp2_with fail
          go_loop [5, 6] (fun m j => ∃ q : Nat, q ≤ p ∧ j = .int .i64 q ∧ m = .int .i64 ((cm 0 (row.take q) : Int) - 1)) (fun _ j => p - (intOf j).toNat)
          case atStart => exact ⟨0, Nat.zero_le _, rfl, by simp [cm]⟩
          case round =>
            obtain ⟨q, hq, rfl, rfl⟩ := hrel
            by_cases hqp : q < p
            · have hbq : (q : Int) < (p : Int) := by omega
              have hqn : (q : Int) < (nt : Int) := by omega
              have hcq := unhide HCC q (by omega)
              have hvq := unhide HVV q (by omega)
              have hcm := unhide HTM q (by omega)
              have hmb := cm_le (vs := row.take q) (fun x hx => unhide HV x (List.mem_of_mem_take hx)) 0 (by omega)
              have HCM := hide hcm
              clear hcm
              generalize row.getD q 0 = d at hcq hvq HCM
              generalize cm 0 (row.take q) = m at HCM hmb
              by_cases hdm : (m : Int) - 1 < (d : Int)
              · go_wp2_with fail
                refine ⟨⟨q + 1, hqp, by go_num, ?_⟩, by simp [intOf]; omega⟩
                rw [unhide HCM]
                congr 1; omega
              · go_wp2_with fail
                refine ⟨⟨q + 1, hqp, by go_num, ?_⟩, by simp [intOf]; omega⟩
                rw [unhide HCM]
                congr 1; omega
            · have hqq : q = p := by omega
              subst hqq
              have hbq : ¬ (q : Int) < (q : Int) := by omega
              have hcq := unhide HCC q (by omega)
              have hvq := unhide HVV q (by omega)
              have hmb := cm_le (vs := row.take q) (fun x hx => unhide HV x (List.mem_of_mem_take hx)) 0 (by omega)
              generalize row.getD q 0 = d at hcq hvq HST
              generalize hm : cm 0 (row.take q) = m at HST hmb
              have HM := hide hm
              clear hm
              by_cases hdm : d < m
              · have hle : (d : Int) ≤ (m : Int) - 1 := by omega
                have hnx := (unhide HST).1 hdm
                have HNX := hide hnx
                have hN3 := (unhide HN).set1 hne hl1 q (d + 1) _ (unhide HSET (d + 1)).symm
                have HN3 := hide hN3
                clear hnx hN3
                go_wp2_with fail
                refine bodyPost_ret (v := .bool true) (by simp [results, Tryz.results62, go_sem]) rfl ?_
                unfold NP
                rw [unhide HNB, unhide HNX, unhide HNT, unhide HNC]
                exact ⟨rfl, unhide HN3⟩
              · have hle : ¬ (d : Int) ≤ (m : Int) - 1 := by omega
                have hN3 := (unhide HN).set1 hne hl1 q 0 _ (unhide HSET 0).symm
                have HN3 := hide hN3
                clear hN3
                go_wp2_with fail
                refine ⟨⟨q, hp0, by omega, rfl, ?_, ?_⟩, by simp [intOf]; omega⟩
                · have e : row.take q ++ List.replicate (nt - q) 0 = row.take q ++ 0 :: List.replicate (nt - (q + 1)) 0 := by
                    rw [show nt - q = nt - (q + 1) + 1 by omega, List.replicate_succ]
                  rw [e]
                  exact unhide HN3
                · rw [unhide HM]
                  exact (unhide HST).2 hdm
        · have hpp : p = 0 := by omega
          subst hpp
          have hnn : nxt 0 row = none := nxt_over (unhide hno)
          have HNN := hide hnn
          have HN := hide hN
          clear hnn hN hno
          go_wp2_with fail
          refine bodyPost_ret (v := .bool false) (by simp [results, Tryz.results62, go_sem]) rfl ?_
          unfold NP
          rw [unhide HNB, unhide HNN, unhide HNT, unhide HNC]
          exact ⟨rfl, _, _, unhide HN⟩

end Go.Proofs.YthcppbmkacbbiaaGreat

namespace Go.Proofs.YthcppbmkacbbiaaGreat
open Go.RowKit
open Rdg (St put cut)
open Nx

attribute [local go_sem] Oper.semAt_some

set_option maxHeartbeats 1000000 in
theorem Rcount_bad (w : World) (s : ByteArray) (hm : s.size ≤ maxLen) (hE : (rchk s).1 ≠ 0) :
    Calls Tryz.prog 40 #[.string s] w fun e w' => e = .returned (.tuple #[.int .i64 0, .int .i64 (rchk s).1]) ∧ Below w.heap.size w w' := by
  have HR := hide (fun w => Rread_chk w s hm)
  generalize rchk s = c at HR hE
  have hb : (c.1 != 0) = true := by simpa using hE
  go_enter Tryz.func40, Tryz.ntmps40
  go_wp2_with fail
  refine ((unhide HR) _).mono ?_
  rintro e w1 ⟨rfl, h1⟩
  go_wp2_with fail
  go_ret2
  exact ⟨rfl, h1⟩

/-- What has been laid so far for the first case: its classes, its truths, itself. -/
structure InvY (w0 : World) (nt nc : Nat) (o3 o6 o8 : Option Nat) (W : World) : Prop where
  below : Below w0.heap.size w0 W
  i3 : ∀ G, o3 = some G → w0.heap.size ≤ G ∧ W.heap[G]? = some (.cells (madeCells #[.int .i64 0] nt) 3)
  i6 : ∀ H, o6 = some H → w0.heap.size ≤ H ∧ W.heap[H]? = some (.cells (madeCells #[.bool false] nc) 4)
  i8 : ∀ X, o8 = some X → w0.heap.size ≤ X ∧ W.heap[X]? = some (.cells #[.slice none 0 0, .slice none 0 0] 118)

theorem InvY.grow {w0 : World} {nt nc : Nat} {o3 o6 o8 : Option Nat} {W W' : World} (h : InvY w0 nt nc o3 o6 o8 W) (hb : Below W.heap.size W W') : InvY w0 nt nc o3 o6 o8 W' where
  below := h.below.trans (hb.mono h.below.size)
  i3 := fun H e => ⟨(h.i3 H e).1, (hb.block H (Array.getElem?_eq_some_iff.1 (h.i3 H e).2).1).trans (h.i3 H e).2⟩
  i6 := fun H e => ⟨(h.i6 H e).1, (hb.block H (Array.getElem?_eq_some_iff.1 (h.i6 H e).2).1).trans (h.i6 H e).2⟩
  i8 := fun X e => ⟨(h.i8 X e).1, (hb.block X (Array.getElem?_eq_some_iff.1 (h.i8 X e).2).1).trans (h.i8 X e).2⟩

theorem InvY.s3 {w0 : World} {nt nc : Nat} {o6 o8 : Option Nat} {W : World} (h : InvY w0 nt nc none o6 o8 W) : InvY w0 nt nc (some W.heap.size) o6 o8 (W.alloc (.cells (madeCells #[.int .i64 0] nt) 3)) := by
  have h2 := h.grow (below_alloc_one W (.cells (madeCells #[.int .i64 0] nt) 3))
  exact ⟨h2.below, fun X e => (by cases e; exact ⟨h.below.size, heap_alloc_new _ _⟩), h2.i6, h2.i8⟩

theorem InvY.s6 {w0 : World} {nt nc : Nat} {o3 o8 : Option Nat} {W : World} (h : InvY w0 nt nc o3 none o8 W) : InvY w0 nt nc o3 (some W.heap.size) o8 (W.alloc (.cells (madeCells #[.bool false] nc) 4)) := by
  have h2 := h.grow (below_alloc_one W (.cells (madeCells #[.bool false] nc) 4))
  exact ⟨h2.below, h2.i3, fun X e => (by cases e; exact ⟨h.below.size, heap_alloc_new _ _⟩), h2.i8⟩

theorem InvY.s8 {w0 : World} {nt nc : Nat} {o3 o6 : Option Nat} {W : World} (h : InvY w0 nt nc o3 o6 none W) : InvY w0 nt nc o3 o6 (some W.heap.size) (W.alloc (.cells #[.slice none 0 0, .slice none 0 0] 118)) := by
  have h2 := h.grow (below_alloc_one W (.cells #[.slice none 0 0, .slice none 0 0] 118))
  exact ⟨h2.below, h2.i3, h2.i6, fun X e => (by cases e; exact ⟨h.below.size, heap_alloc_new _ _⟩)⟩

theorem InvY.seen {w0 : World} {nt nc B : Nat} {o3 o6 o8 : Option Nat} {W : World} {v4 v5 : Value} (h : InvY w0 nt nc o3 o6 o8 W) (c4 : w0.cell? ⟨B, 4, none⟩ = some v4) (c5 : w0.cell? ⟨B, 5, none⟩ = some v5) : W.cell? ⟨B, 4, none⟩ = some v4 ∧ W.cell? ⟨B, 5, none⟩ = some v5 :=
  ⟨(h.below.cell (p := ⟨B, 4, none⟩) (World.block_lt_of_cell? w0 _ c4)).trans c4, (h.below.cell (p := ⟨B, 5, none⟩) (World.block_lt_of_cell? w0 _ c5)).trans c5⟩

theorem InvY.seen2 {w0 : World} {nt nc B X : Nat} {o3 o6 : Option Nat} {W : World} {v4 v5 u v : Value} (h : InvY w0 nt nc o3 o6 (some X) W) (c4 : w0.cell? ⟨B, 4, none⟩ = some v4) (c5 : w0.cell? ⟨B, 5, none⟩ = some v5) :
    ((W.setCell ⟨X, 0, none⟩ u).setCell ⟨X, 1, none⟩ v).cell? ⟨B, 4, none⟩ = some v4 ∧ ((W.setCell ⟨X, 0, none⟩ u).setCell ⟨X, 1, none⟩ v).cell? ⟨B, 5, none⟩ = some v5 := by
  have hB := World.block_lt_of_cell? w0 _ c4
  have hX := (h.i8 X rfl).1
  have hne : B ≠ X := fun e => by subst e; exact absurd hB (by show ¬ B < _; omega)
  have hk : ((W.setCell ⟨X, 0, none⟩ u).setCell ⟨X, 1, none⟩ v).heap[B]? = W.heap[B]? := (Below.heap_setCell _ _ _ _ hne).trans (Below.heap_setCell _ _ _ _ hne)
  obtain ⟨h4, h5⟩ := h.seen c4 c5
  exact ⟨(World.cell?_of_block hk).trans h4, (World.cell?_of_block hk).trans h5⟩

/-- The first case is laid. -/
structure LaidY (w0 : World) (nt nc G H X : Nat) (W : World) : Prop where
  below : Below w0.heap.size w0 W
  lg : w0.heap.size ≤ G
  lh : w0.heap.size ≤ H
  lx : w0.heap.size ≤ X
  g : W.heap[G]? = some (.cells (madeCells #[.int .i64 0] nt) 3)
  h : W.heap[H]? = some (.cells (madeCells #[.bool false] nc) 4)
  x : W.heap[X]? = some (.cells #[.slice (some ⟨G, 0, none⟩) nt nt, .slice (some ⟨H, 0, none⟩) nc nc] 118)

theorem cells_ne {W : World} {a b t u : Nat} {p q : Array Value} (ha : W.heap[a]? = some (.cells p t)) (hb : W.heap[b]? = some (.cells q u)) (h : t ≠ u) : a ≠ b := fun e => by
  subst e
  rw [ha] at hb
  have h1 := Option.some.inj hb
  injection h1 with _ h2 _
  exact h h2

theorem InvY.fin {w0 : World} {nt nc G H X : Nat} {W : World} (h : InvY w0 nt nc (some G) (some H) (some X) W) : LaidY w0 nt nc G H X ((W.setCell ⟨X, 0, none⟩ (.slice (some ⟨G, 0, none⟩) nt nt)).setCell ⟨X, 1, none⟩ (.slice (some ⟨H, 0, none⟩) nc nc)) := by
  obtain ⟨lx, hx⟩ := h.i8 X rfl
  obtain ⟨lh, hh⟩ := h.i6 H rfl
  obtain ⟨lg, hg⟩ := h.i3 G rfl
  have n1 : H ≠ X := cells_ne hh hx (by decide)
  have n2 : G ≠ X := cells_ne hg hx (by decide)
  have hk : ∀ j, j ≠ X → ((W.setCell ⟨X, 0, none⟩ (.slice (some ⟨G, 0, none⟩) nt nt)).setCell ⟨X, 1, none⟩ (.slice (some ⟨H, 0, none⟩) nc nc)).heap[j]? = W.heap[j]? := fun j hj => (Below.heap_setCell _ _ _ _ hj).trans (Below.heap_setCell _ _ _ _ hj)
  exact ⟨(h.below.setCell (p := ⟨X, 0, none⟩) lx _).setCell (p := ⟨X, 1, none⟩) lx _, lg, lh, lx, (hk G n2).trans hg, (hk H n1).trans hh, set_two hx⟩

/-- Between two cases: the case as it stands. -/
structure YW (w1 : World) (G H X nt nc : Nat) (row : List Nat) (hl : List Bool) (W : World) : Prop where
  x0 : W.cell? ⟨X, 0, none⟩ = some (.slice (some ⟨G, 0, none⟩) nt nt)
  x1 : W.cell? ⟨X, 1, none⟩ = some (.slice (some ⟨H, 0, none⟩) nc nc)
  r1 : W.ownsRow 0 3 1 (.slice (some ⟨G, 0, none⟩) nt nt) nt (row.map kvI)
  r2 : W.ownsRow 0 4 1 (.slice (some ⟨H, 0, none⟩) nc nc) nc (hl.map Value.bool)
  below : Below w1.heap.size w1 W

theorem YW.step {w1 : World} {G H X nt nc : Nat} {row : List Nat} {hl : List Bool} {W W' : World} (h : YW w1 G H X nt nc row hl W) (hb : Below W.heap.size W W') : YW w1 G H X nt nc row hl W' := by
  have hg : W.grownBy W' none := ⟨hb.os, hb.tape, hb.output, hb.size, fun k hk _ => hb.block k hk⟩
  exact ⟨hg.cell h.x0 (by simp), hg.cell h.x1 (by simp), h.r1.kept hg (Or.inr (by simp [Value.ownBlock])), h.r2.kept hg (Or.inr (by simp [Value.ownBlock])), h.below.trans (hb.mono h.below.size)⟩

theorem YW.next {w1 : World} {G H X nt nc : Nat} {row row' : List Nat} {hl hl' : List Bool} {W W' : World} (h : YW w1 G H X nt nc row hl W) (hg : X ≠ G) (hh : X ≠ H) (lg : w1.heap.size ≤ G) (lh : w1.heap.size ≤ H) (hn : NX W G H nt nc row' hl' W') : YW w1 G H X nt nc row' hl' W' := by
  have hX := World.block_lt_of_cell? W _ h.x0
  have hb : W'.heap[X]? = W.heap[X]? := hn.block X hX hg hh
  have hs := h.below.size
  exact ⟨(World.cell?_of_block hb).trans h.x0, (World.cell?_of_block hb).trans h.x1, hn.r1, hn.r2, ⟨hn.os.trans h.below.os, hn.tape.trans h.below.tape, hn.output.trans h.below.output, Nat.le_trans hs (Nat.le_of_lt hn.size), fun j hj => (hn.block j (by omega) (by omega) (by omega)).trans (h.below.block j hj)⟩⟩

theorem clI_len (row : List Nat) : (clI row).length = row.length := by simp [clI]

theorem YW.cs {w1 : World} {G H X nt nc : Nat} {row : List Nat} {hl : List Bool} {W : World} (h : YW w1 G H X nt nc row hl W) (h1 : row.length = nt) (h2 : hl.length = nc) : CS W W.heap.size (.slice (some ⟨G, 0, none⟩) nt nt) (.slice (some ⟨H, 0, none⟩) nc nc) (clI row) hl := by
  refine ⟨⟨_, _, by rw [clI_len, h1], fun _ => ⟨G, rfl, (h.r1.lt G rfl).2, fun j hj => ?_⟩⟩, ⟨_, _, by rw [h2], fun _ => ⟨H, rfl, (h.r2.lt H rfl).2, fun j hj => ?_⟩⟩⟩
  · have hj' : j < row.length := by rw [clI_len] at hj; exact hj
    rw [h.r1.cellAt j (by omega)]
    simp [clI, kvI, hj']
  · rw [h.r2.cellAt j (by omega)]
    simp [hj]

/-- r says what is left of the cases; v is the number so far. -/
def YI (w1 : World) (s : ByteArray) (T C : List (List UInt8)) (nt nc G H X r : Nat) (v : Value) (wr : World) : Prop :=
  ∃ k row j hl, (rws 0 nt)[k]? = some row ∧ (bls nc)[j]? = some hl ∧ r = ((rws 0 nt).length - k) * 20 - j ∧ v = .int .i64 ((sumTo (rws 0 nt) (dOne s T C) k + ((bls nc).take j).countP (fun hl => snd T C (clI row) hl && tru s (clI row) hl) : Nat)) ∧ YW w1 G H X nt nc row hl wr

theorem row_heap {W : World} {G n e : Nat} {z : Value} (h : W.heap[G]? = some (.cells (madeCells #[z] n) e)) (hn : n ≤ 100) : W.ownsRow 0 e 1 (.slice (some ⟨G, 0, none⟩) n n) n (List.replicate n z) := by
  have e1 : (madeCells #[z] n).toList = List.replicate n z := toList_madeCells_one _ _
  refine ⟨by simp, .inr ⟨G, n, madeCells #[z] n, rfl, Nat.zero_le _, h, Nat.le_refl _, by unfold maxLen; omega, ?_, ?_⟩⟩
  · have := congrArg List.length e1
    simpa using this
  · rw [e1, Nat.mul_one, List.take_of_length_le (by simp)]

set_option linter.unusedSimpArgs false in
set_option maxRecDepth 100000 in
set_option maxHeartbeats 2000000 in
theorem Rcount_ok (w : World) (s : ByteArray) (hs : s.size ≤ 100) (τ : St) (HT : Hid (rall s = τ)) (hE : τ.E = 0) (hlt : ¬ τ.a < s.size) (h0 : 0 < τ.T.length) (h7 : τ.T.length ≤ 7) (h4 : τ.C.length ≤ 4) (hG : GoodT τ.T τ.C) :
    Calls Tryz.prog 40 #[.string s] w fun e w' => e = .returned (.tuple #[.int .i64 (dAll s τ.T τ.C), .int .i64 0]) ∧ Below w.heap.size w w' := by
  have HR := hide (Rread_ok w s hs τ HT hE hlt h7 h4)
  have HS := hide (fun (w1 : World) (cl : List Int) (hl : List Bool) (k1 k2 v4 v5 : Value) h1 h2 h => sound_walk w1 w.heap.size τ.T τ.C cl hl k1 k2 v4 v5 hG h7 h4 h1 h2 h)
  have HV := hide (fun (w1 : World) (cl : List Int) (hl : List Bool) (k1 k2 : Value) h1 h2 h => true_any w1 s k1 k2 cl hl hs (by rw [unhide HT]; exact hE) (by rw [unhide HT]; exact h1) (by rw [unhide HT]; exact h2) h)
  have hdl := dOne_le s τ.T τ.C h4
  have HDL := hide hdl
  obtain ⟨N, hN⟩ : ∃ N, dAll s τ.T τ.C = N := ⟨_, rfl⟩
  rw [hN]
  have HN := hide hN
  clear hN hdl
  obtain ⟨nt, hnt⟩ : ∃ nt, τ.T.length = nt := ⟨_, rfl⟩
  obtain ⟨nc, hnc⟩ : ∃ nc, τ.C.length = nc := ⟨_, rfl⟩
  rw [hnt] at h0 h7
  rw [hnc] at h4
  have HNT := hide hnt
  have HNC := hide hnc
  have HMI : Hid (∀ W : World, (Instr.makeSlice 58 (.int .i64 (nt : Int)) (.int .i64 (nt : Int))).run Tryz.prog W = .ok (.slice (some ⟨W.heap.size, 0, none⟩) nt nt) (W.alloc (.cells (madeCells #[.int .i64 0] nt) 3))) := fun W =>
    run_make_row' (P := Tryz.prog) 58 3 (.int .i64 0) 8 Tryz.underlying58 infoI rfl .i64 .i64 nt (by omega) (by omega) W
  have HMK : Hid (∀ W : World, (Instr.makeSlice 103 (.int .i64 (nc : Int)) (.int .i64 (nc : Int))).run Tryz.prog W = .ok (.slice (some ⟨W.heap.size, 0, none⟩) nc nc) (W.alloc (.cells (madeCells #[.bool false] nc) 4))) := fun W =>
    run_make_row' (P := Tryz.prog) 103 4 (.bool false) 1 Tryz.underlying103 infoL rfl .i64 .i64 nc (by omega) (by omega) W
  clear hnt hnc
  go_enter Tryz.func40, Tryz.ntmps40
  go_wp2_with fail
  refine (unhide HR).mono ?_
  rintro e w1 ⟨rfl, h1, hI⟩
  obtain ⟨v4, v5, c4, c5, r4, r5, _⟩ := hI.rows
  have hlt1 := hI.lt
  obtain ⟨a4, p4, rfl⟩ := own_slice r4
  obtain ⟨a5, p5, rfl⟩ := own_slice r5
  have R4 := hide (row_base r4 (Nat.zero_le _))
  have R5 := hide (row_base r5 (Nat.zero_le _))
  clear hI HR r4 r5
  rw [unhide HNT] at c4
  rw [unhide HNC] at c5
  have hI : InvY w1 nt nc none none none w1 := ⟨Below.refl _ _, fun _ e => (by cases e), fun _ e => (by cases e), fun _ e => (by cases e)⟩
  go_wp2_with fail
  refine Code.wp_mono (Q := fun e a W' => e = .normal ∧ ∃ (G H X : Nat), a = { tmps := #[.string s, undef, .int .i64 0, .int .i64 0, .pointer (some ⟨w.heap.size, 0, none⟩), .int .i64 0, .int .i64 0, .pointer (some ⟨X, 0, none⟩), undef, undef, undef, undef, .tuple #[.pointer (some ⟨w.heap.size, 0, none⟩), .int .i64 0, .int .i64 0], .string s, .tuple #[.pointer (some ⟨w.heap.size, 0, none⟩), .int .i64 0, .int .i64 0], .pointer (some ⟨w.heap.size, 0, none⟩), .int .i64 0, .int .i64 0, .int .i64 0, .bool false, undef, .pointer (some ⟨w.heap.size, 0, none⟩), .pointer (some ⟨w.heap.size, 0, none⟩), .pointer (some ⟨w.heap.size, 4, none⟩), .slice a4 nt p4, .int .i64 nt, .slice (some ⟨G, 0, none⟩) nt nt, .pointer (some ⟨w.heap.size, 0, none⟩), .pointer (some ⟨w.heap.size, 0, none⟩), .pointer (some ⟨w.heap.size, 5, none⟩), .slice a5 nc p5, .int .i64 nc, .slice (some ⟨H, 0, none⟩) nc nc, .agg #[.slice (some ⟨G, 0, none⟩) nt nt, .slice (some ⟨H, 0, none⟩) nc nc], undef, undef, undef, undef, undef, undef, undef, undef, undef, undef, undef, undef, undef, undef, undef], defers := [] } ∧ LaidY w1 nt nc G H X W') ?_ ?_
  rotate_left
  · refine wp_region_held (S := fun W' => W'.cell? ⟨w.heap.size, 4, none⟩ = some (.slice a4 nt p4) ∧ W'.cell? ⟨w.heap.size, 5, none⟩ = some (.slice a5 nc p5)) rfl ?_
    simp only [List.size_toArray, List.length_cons, List.length_nil, Nat.reduceAdd, Array.replicate_succ, Array.replicate_zero, List.push_toArray, List.nil_append, List.cons_append]
    have hI := hI.grow ((Below.refl _ w1).drew)
    change wpAnyH Tryz.prog .any _ _ _ _ _ _ w1.drew
    generalize w1.drew = W at hI ⊢
    have hS0 := hI.seen c4 c5
    refine wpAnyH_take (i := 0) (v := .pointer (some ⟨w.heap.size, 0, none⟩)) rfl (by kernel_rfl) (by kernel_rfl) (by kernel_rfl) (fun _ _ _ h => (by cases h.1)) (Or.inl ⟨by rfl, fun w' hS => ?_⟩) hS0 ?_
    · obtain ⟨s1, s2⟩ := hS
      go_simp
    simp only [List.getElem_toArray, List.getElem_cons_zero, List.getElem_cons_succ, Act.put, List.setIfInBounds_toArray, List.set_cons_zero, List.set_cons_succ]
    refine wpAnyH_take (i := 1) (v := .pointer (some ⟨w.heap.size, 0, none⟩)) rfl (by kernel_rfl) (by kernel_rfl) (by kernel_rfl) (fun _ _ _ h => (by cases h.1)) (Or.inl ⟨by rfl, fun w' hS => ?_⟩) hS0 ?_
    · obtain ⟨s1, s2⟩ := hS
      go_simp
    simp only [List.getElem_toArray, List.getElem_cons_zero, List.getElem_cons_succ, Act.put, List.setIfInBounds_toArray, List.set_cons_zero, List.set_cons_succ]
    refine wpAnyH_take (i := 2) (v := .pointer (some ⟨w.heap.size, 4, none⟩)) rfl (by kernel_rfl) (by kernel_rfl) (by kernel_rfl) (fun _ _ _ h => (by cases h.1)) (Or.inl ⟨by rfl, fun w' hS => ?_⟩) hS0 ?_
    · obtain ⟨s1, s2⟩ := hS
      go_simp
    simp only [List.getElem_toArray, List.getElem_cons_zero, List.getElem_cons_succ, Act.put, List.setIfInBounds_toArray, List.set_cons_zero, List.set_cons_succ]
    refine wpAnyH_take (i := 3) (v := .slice a4 nt p4) rfl (by kernel_rfl) (by kernel_rfl) (by kernel_rfl) (fun _ _ _ h => (by cases h.1)) (Or.inl ⟨by rfl, fun w' hS => ?_⟩) hS0 ?_
    · obtain ⟨s1, s2⟩ := hS
      go_simp
    simp only [List.getElem_toArray, List.getElem_cons_zero, List.getElem_cons_succ, Act.put, List.setIfInBounds_toArray, List.set_cons_zero, List.set_cons_succ]
    refine wpAnyH_take (i := 4) (v := .int .i64 nt) rfl (by kernel_rfl) (by kernel_rfl) (by kernel_rfl) (fun _ _ _ h => (by cases h.1)) (Or.inl ⟨by rfl, fun w' hS => ?_⟩) hS0 ?_
    · obtain ⟨s1, s2⟩ := hS
      go_simp
    simp only [List.getElem_toArray, List.getElem_cons_zero, List.getElem_cons_succ, Act.put, List.setIfInBounds_toArray, List.set_cons_zero, List.set_cons_succ]
    refine wpAnyH_take (i := 6) (v := .pointer (some ⟨w.heap.size, 0, none⟩)) rfl (by kernel_rfl) (by kernel_rfl) (by kernel_rfl) (fun _ _ _ h => (by cases h.1)) (Or.inl ⟨by rfl, fun w' hS => ?_⟩) hS0 ?_
    · obtain ⟨s1, s2⟩ := hS
      go_simp
    simp only [List.getElem_toArray, List.getElem_cons_zero, List.getElem_cons_succ, Act.put, List.setIfInBounds_toArray, List.set_cons_zero, List.set_cons_succ]
    refine wpAnyH_take (i := 7) (v := .pointer (some ⟨w.heap.size, 0, none⟩)) rfl (by kernel_rfl) (by kernel_rfl) (by kernel_rfl) (fun _ _ _ h => (by cases h.1)) (Or.inl ⟨by rfl, fun w' hS => ?_⟩) hS0 ?_
    · obtain ⟨s1, s2⟩ := hS
      go_simp
    simp only [List.getElem_toArray, List.getElem_cons_zero, List.getElem_cons_succ, Act.put, List.setIfInBounds_toArray, List.set_cons_zero, List.set_cons_succ]
    refine wpAnyH_take (i := 8) (v := .pointer (some ⟨w.heap.size, 5, none⟩)) rfl (by kernel_rfl) (by kernel_rfl) (by kernel_rfl) (fun _ _ _ h => (by cases h.1)) (Or.inl ⟨by rfl, fun w' hS => ?_⟩) hS0 ?_
    · obtain ⟨s1, s2⟩ := hS
      go_simp
    simp only [List.getElem_toArray, List.getElem_cons_zero, List.getElem_cons_succ, Act.put, List.setIfInBounds_toArray, List.set_cons_zero, List.set_cons_succ]
    refine wpAnyH_take (i := 9) (v := .slice a5 nc p5) rfl (by kernel_rfl) (by kernel_rfl) (by kernel_rfl) (fun _ _ _ h => (by cases h.1)) (Or.inl ⟨by rfl, fun w' hS => ?_⟩) hS0 ?_
    · obtain ⟨s1, s2⟩ := hS
      go_simp
    simp only [List.getElem_toArray, List.getElem_cons_zero, List.getElem_cons_succ, Act.put, List.setIfInBounds_toArray, List.set_cons_zero, List.set_cons_succ]
    refine wpAnyH_take (i := 10) (v := .int .i64 nc) rfl (by kernel_rfl) (by kernel_rfl) (by kernel_rfl) (fun _ _ _ h => (by cases h.1)) (Or.inl ⟨by rfl, fun w' hS => ?_⟩) hS0 ?_
    · obtain ⟨s1, s2⟩ := hS
      go_simp
    simp only [List.getElem_toArray, List.getElem_cons_zero, List.getElem_cons_succ, Act.put, List.setIfInBounds_toArray, List.set_cons_zero, List.set_cons_succ]
    clear hS0
    refine wpAnyH_all (rs := [5, 11, 13]) (by kernel_rfl) (by simp) ?_
    intro i hi
    simp only [List.mem_cons, List.not_mem_nil, or_false] at hi
    rcases hi with rfl | rfl | rfl
    · refine wpOp_one (by rfl) (by rfl) (fun K hK => ?_)
      have hI2 := hI.s3
      have hmk := unhide HMI W
      go_simp
      refine hK.out _ _ ⟨hI2.seen c4 c5, ?_⟩
      clear hK K
      simp only [List.getElem_toArray, List.getElem_cons_zero, List.getElem_cons_succ, Act.put, List.setIfInBounds_toArray, List.set_cons_zero, List.set_cons_succ]
      generalize W.alloc (.cells (madeCells #[.int .i64 0] nt) 3) = W2 at hI2 ⊢
      clear hmk
      generalize W.heap.size = G at hI2 ⊢
      clear hI W
      rename World => W
      have hI := hI2
      clear hI2
      refine wpAnyH_all (rs := [11, 13]) (by kernel_rfl) (by simp) ?_
      intro i hi
      simp only [List.mem_cons, List.not_mem_nil, or_false] at hi
      rcases hi with rfl | rfl
      · refine wpOp_one (by rfl) (by rfl) (fun K hK => ?_)
        have hI2 := hI.s6
        have hmk := unhide HMK W
        go_simp
        refine hK.out _ _ ⟨hI2.seen c4 c5, ?_⟩
        clear hK K
        simp only [List.getElem_toArray, List.getElem_cons_zero, List.getElem_cons_succ, Act.put, List.setIfInBounds_toArray, List.set_cons_zero, List.set_cons_succ]
        generalize W.alloc (.cells (madeCells #[.bool false] nc) 4) = W2 at hI2 ⊢
        clear hmk
        generalize W.heap.size = H at hI2 ⊢
        clear hI W
        rename World => W
        have hI := hI2
        clear hI2
        refine wpAnyH_all (rs := [12, 13]) (by kernel_rfl) (by simp) ?_
        intro i hi
        simp only [List.mem_cons, List.not_mem_nil, or_false] at hi
        rcases hi with rfl | rfl
        · refine wpOp_one (by rfl) (by rfl) (fun K hK => ?_)
          go_simp
          refine hK.out _ _ ⟨hI.seen c4 c5, ?_⟩
          clear hK K
          simp only [List.getElem_toArray, List.getElem_cons_zero, List.getElem_cons_succ, Act.put, List.setIfInBounds_toArray, List.set_cons_zero, List.set_cons_succ]
          refine wpAnyH_all (rs := [13]) (by kernel_rfl) (by simp) ?_
          intro i hi
          simp only [List.mem_cons, List.not_mem_nil, or_false] at hi
          subst hi
          refine wpOp_one (by rfl) (by rfl) (fun K hK => ?_)
          have hI2 := hI.s8
          go_simp
          refine hK.out _ _ ⟨hI2.seen c4 c5, ?_⟩
          clear hK K
          simp only [List.getElem_toArray, List.getElem_cons_zero, List.getElem_cons_succ, Act.put, List.setIfInBounds_toArray, List.set_cons_zero, List.set_cons_succ]
          generalize W.alloc (.cells #[.slice none 0 0, .slice none 0 0] 118) = W2 at hI2 ⊢
          generalize W.heap.size = X at hI2 ⊢
          clear hI W
          rename World => W
          have hI := hI2
          clear hI2
          refine wpAnyH_all (rs := [14]) (by kernel_rfl) (by simp) ?_
          intro i hi
          simp only [List.mem_cons, List.not_mem_nil, or_false] at hi
          subst hi
          have cx := (hI.i8 X rfl).2
          have cx0 : W.cell? ⟨X, 0, none⟩ = some (.slice none 0 0) := by rw [Lib.cell_of_heap cx]; rfl
          have cx1 : W.cell? ⟨X, 1, none⟩ = some (.slice none 0 0) := by rw [Lib.cell_of_heap cx]; rfl
          have fx0 : W.frozen? ⟨X, 0, none⟩ = false := Lib.frozen_of_heap cx 0
          have fx1 : W.frozen? ⟨X, 1, none⟩ = false := Lib.frozen_of_heap cx 1
          refine wpOp_one (by rfl) (by rfl) (fun K hK => ?_)
          go_simp
          refine hK.out _ _ ⟨hI.seen2 c4 c5, wpAnyH_done (by kernel_rfl) ⟨rfl, G, H, X, rfl, hI.fin⟩ _⟩
        · refine wpOp_one (by rfl) (by rfl) (fun K hK => ?_)
          have hI2 := hI.s8
          go_simp
          refine hK.out _ _ ⟨hI2.seen c4 c5, ?_⟩
          clear hK K
          simp only [List.getElem_toArray, List.getElem_cons_zero, List.getElem_cons_succ, Act.put, List.setIfInBounds_toArray, List.set_cons_zero, List.set_cons_succ]
          generalize W.alloc (.cells #[.slice none 0 0, .slice none 0 0] 118) = W2 at hI2 ⊢
          generalize W.heap.size = X at hI2 ⊢
          clear hI W
          rename World => W
          have hI := hI2
          clear hI2
          refine wpAnyH_all (rs := [12]) (by kernel_rfl) (by simp) ?_
          intro i hi
          simp only [List.mem_cons, List.not_mem_nil, or_false] at hi
          subst hi
          refine wpOp_one (by rfl) (by rfl) (fun K hK => ?_)
          go_simp
          refine hK.out _ _ ⟨hI.seen c4 c5, ?_⟩
          clear hK K
          simp only [List.getElem_toArray, List.getElem_cons_zero, List.getElem_cons_succ, Act.put, List.setIfInBounds_toArray, List.set_cons_zero, List.set_cons_succ]
          refine wpAnyH_all (rs := [14]) (by kernel_rfl) (by simp) ?_
          intro i hi
          simp only [List.mem_cons, List.not_mem_nil, or_false] at hi
          subst hi
          have cx := (hI.i8 X rfl).2
          have cx0 : W.cell? ⟨X, 0, none⟩ = some (.slice none 0 0) := by rw [Lib.cell_of_heap cx]; rfl
          have cx1 : W.cell? ⟨X, 1, none⟩ = some (.slice none 0 0) := by rw [Lib.cell_of_heap cx]; rfl
          have fx0 : W.frozen? ⟨X, 0, none⟩ = false := Lib.frozen_of_heap cx 0
          have fx1 : W.frozen? ⟨X, 1, none⟩ = false := Lib.frozen_of_heap cx 1
          refine wpOp_one (by rfl) (by rfl) (fun K hK => ?_)
          go_simp
          refine hK.out _ _ ⟨hI.seen2 c4 c5, wpAnyH_done (by kernel_rfl) ⟨rfl, G, H, X, rfl, hI.fin⟩ _⟩
      · refine wpOp_one (by rfl) (by rfl) (fun K hK => ?_)
        have hI2 := hI.s8
        go_simp
        refine hK.out _ _ ⟨hI2.seen c4 c5, ?_⟩
        clear hK K
        simp only [List.getElem_toArray, List.getElem_cons_zero, List.getElem_cons_succ, Act.put, List.setIfInBounds_toArray, List.set_cons_zero, List.set_cons_succ]
        generalize W.alloc (.cells #[.slice none 0 0, .slice none 0 0] 118) = W2 at hI2 ⊢
        generalize W.heap.size = X at hI2 ⊢
        clear hI W
        rename World => W
        have hI := hI2
        clear hI2
        refine wpAnyH_all (rs := [11]) (by kernel_rfl) (by simp) ?_
        intro i hi
        simp only [List.mem_cons, List.not_mem_nil, or_false] at hi
        subst hi
        refine wpOp_one (by rfl) (by rfl) (fun K hK => ?_)
        have hI2 := hI.s6
        have hmk := unhide HMK W
        go_simp
        refine hK.out _ _ ⟨hI2.seen c4 c5, ?_⟩
        clear hK K
        simp only [List.getElem_toArray, List.getElem_cons_zero, List.getElem_cons_succ, Act.put, List.setIfInBounds_toArray, List.set_cons_zero, List.set_cons_succ]
        generalize W.alloc (.cells (madeCells #[.bool false] nc) 4) = W2 at hI2 ⊢
        clear hmk
        generalize W.heap.size = H at hI2 ⊢
        clear hI W
        rename World => W
        have hI := hI2
        clear hI2
        refine wpAnyH_all (rs := [12]) (by kernel_rfl) (by simp) ?_
        intro i hi
        simp only [List.mem_cons, List.not_mem_nil, or_false] at hi
        subst hi
        refine wpOp_one (by rfl) (by rfl) (fun K hK => ?_)
        go_simp
        refine hK.out _ _ ⟨hI.seen c4 c5, ?_⟩
        clear hK K
        simp only [List.getElem_toArray, List.getElem_cons_zero, List.getElem_cons_succ, Act.put, List.setIfInBounds_toArray, List.set_cons_zero, List.set_cons_succ]
        refine wpAnyH_all (rs := [14]) (by kernel_rfl) (by simp) ?_
        intro i hi
        simp only [List.mem_cons, List.not_mem_nil, or_false] at hi
        subst hi
        have cx := (hI.i8 X rfl).2
        have cx0 : W.cell? ⟨X, 0, none⟩ = some (.slice none 0 0) := by rw [Lib.cell_of_heap cx]; rfl
        have cx1 : W.cell? ⟨X, 1, none⟩ = some (.slice none 0 0) := by rw [Lib.cell_of_heap cx]; rfl
        have fx0 : W.frozen? ⟨X, 0, none⟩ = false := Lib.frozen_of_heap cx 0
        have fx1 : W.frozen? ⟨X, 1, none⟩ = false := Lib.frozen_of_heap cx 1
        refine wpOp_one (by rfl) (by rfl) (fun K hK => ?_)
        go_simp
        refine hK.out _ _ ⟨hI.seen2 c4 c5, wpAnyH_done (by kernel_rfl) ⟨rfl, G, H, X, rfl, hI.fin⟩ _⟩
    · refine wpOp_one (by rfl) (by rfl) (fun K hK => ?_)
      have hI2 := hI.s6
      have hmk := unhide HMK W
      go_simp
      refine hK.out _ _ ⟨hI2.seen c4 c5, ?_⟩
      clear hK K
      simp only [List.getElem_toArray, List.getElem_cons_zero, List.getElem_cons_succ, Act.put, List.setIfInBounds_toArray, List.set_cons_zero, List.set_cons_succ]
      generalize W.alloc (.cells (madeCells #[.bool false] nc) 4) = W2 at hI2 ⊢
      clear hmk
      generalize W.heap.size = H at hI2 ⊢
      clear hI W
      rename World => W
      have hI := hI2
      clear hI2
      refine wpAnyH_all (rs := [5, 13]) (by kernel_rfl) (by simp) ?_
      intro i hi
      simp only [List.mem_cons, List.not_mem_nil, or_false] at hi
      rcases hi with rfl | rfl
      · refine wpOp_one (by rfl) (by rfl) (fun K hK => ?_)
        have hI2 := hI.s3
        have hmk := unhide HMI W
        go_simp
        refine hK.out _ _ ⟨hI2.seen c4 c5, ?_⟩
        clear hK K
        simp only [List.getElem_toArray, List.getElem_cons_zero, List.getElem_cons_succ, Act.put, List.setIfInBounds_toArray, List.set_cons_zero, List.set_cons_succ]
        generalize W.alloc (.cells (madeCells #[.int .i64 0] nt) 3) = W2 at hI2 ⊢
        clear hmk
        generalize W.heap.size = G at hI2 ⊢
        clear hI W
        rename World => W
        have hI := hI2
        clear hI2
        refine wpAnyH_all (rs := [12, 13]) (by kernel_rfl) (by simp) ?_
        intro i hi
        simp only [List.mem_cons, List.not_mem_nil, or_false] at hi
        rcases hi with rfl | rfl
        · refine wpOp_one (by rfl) (by rfl) (fun K hK => ?_)
          go_simp
          refine hK.out _ _ ⟨hI.seen c4 c5, ?_⟩
          clear hK K
          simp only [List.getElem_toArray, List.getElem_cons_zero, List.getElem_cons_succ, Act.put, List.setIfInBounds_toArray, List.set_cons_zero, List.set_cons_succ]
          refine wpAnyH_all (rs := [13]) (by kernel_rfl) (by simp) ?_
          intro i hi
          simp only [List.mem_cons, List.not_mem_nil, or_false] at hi
          subst hi
          refine wpOp_one (by rfl) (by rfl) (fun K hK => ?_)
          have hI2 := hI.s8
          go_simp
          refine hK.out _ _ ⟨hI2.seen c4 c5, ?_⟩
          clear hK K
          simp only [List.getElem_toArray, List.getElem_cons_zero, List.getElem_cons_succ, Act.put, List.setIfInBounds_toArray, List.set_cons_zero, List.set_cons_succ]
          generalize W.alloc (.cells #[.slice none 0 0, .slice none 0 0] 118) = W2 at hI2 ⊢
          generalize W.heap.size = X at hI2 ⊢
          clear hI W
          rename World => W
          have hI := hI2
          clear hI2
          refine wpAnyH_all (rs := [14]) (by kernel_rfl) (by simp) ?_
          intro i hi
          simp only [List.mem_cons, List.not_mem_nil, or_false] at hi
          subst hi
          have cx := (hI.i8 X rfl).2
          have cx0 : W.cell? ⟨X, 0, none⟩ = some (.slice none 0 0) := by rw [Lib.cell_of_heap cx]; rfl
          have cx1 : W.cell? ⟨X, 1, none⟩ = some (.slice none 0 0) := by rw [Lib.cell_of_heap cx]; rfl
          have fx0 : W.frozen? ⟨X, 0, none⟩ = false := Lib.frozen_of_heap cx 0
          have fx1 : W.frozen? ⟨X, 1, none⟩ = false := Lib.frozen_of_heap cx 1
          refine wpOp_one (by rfl) (by rfl) (fun K hK => ?_)
          go_simp
          refine hK.out _ _ ⟨hI.seen2 c4 c5, wpAnyH_done (by kernel_rfl) ⟨rfl, G, H, X, rfl, hI.fin⟩ _⟩
        · refine wpOp_one (by rfl) (by rfl) (fun K hK => ?_)
          have hI2 := hI.s8
          go_simp
          refine hK.out _ _ ⟨hI2.seen c4 c5, ?_⟩
          clear hK K
          simp only [List.getElem_toArray, List.getElem_cons_zero, List.getElem_cons_succ, Act.put, List.setIfInBounds_toArray, List.set_cons_zero, List.set_cons_succ]
          generalize W.alloc (.cells #[.slice none 0 0, .slice none 0 0] 118) = W2 at hI2 ⊢
          generalize W.heap.size = X at hI2 ⊢
          clear hI W
          rename World => W
          have hI := hI2
          clear hI2
          refine wpAnyH_all (rs := [12]) (by kernel_rfl) (by simp) ?_
          intro i hi
          simp only [List.mem_cons, List.not_mem_nil, or_false] at hi
          subst hi
          refine wpOp_one (by rfl) (by rfl) (fun K hK => ?_)
          go_simp
          refine hK.out _ _ ⟨hI.seen c4 c5, ?_⟩
          clear hK K
          simp only [List.getElem_toArray, List.getElem_cons_zero, List.getElem_cons_succ, Act.put, List.setIfInBounds_toArray, List.set_cons_zero, List.set_cons_succ]
          refine wpAnyH_all (rs := [14]) (by kernel_rfl) (by simp) ?_
          intro i hi
          simp only [List.mem_cons, List.not_mem_nil, or_false] at hi
          subst hi
          have cx := (hI.i8 X rfl).2
          have cx0 : W.cell? ⟨X, 0, none⟩ = some (.slice none 0 0) := by rw [Lib.cell_of_heap cx]; rfl
          have cx1 : W.cell? ⟨X, 1, none⟩ = some (.slice none 0 0) := by rw [Lib.cell_of_heap cx]; rfl
          have fx0 : W.frozen? ⟨X, 0, none⟩ = false := Lib.frozen_of_heap cx 0
          have fx1 : W.frozen? ⟨X, 1, none⟩ = false := Lib.frozen_of_heap cx 1
          refine wpOp_one (by rfl) (by rfl) (fun K hK => ?_)
          go_simp
          refine hK.out _ _ ⟨hI.seen2 c4 c5, wpAnyH_done (by kernel_rfl) ⟨rfl, G, H, X, rfl, hI.fin⟩ _⟩
      · refine wpOp_one (by rfl) (by rfl) (fun K hK => ?_)
        have hI2 := hI.s8
        go_simp
        refine hK.out _ _ ⟨hI2.seen c4 c5, ?_⟩
        clear hK K
        simp only [List.getElem_toArray, List.getElem_cons_zero, List.getElem_cons_succ, Act.put, List.setIfInBounds_toArray, List.set_cons_zero, List.set_cons_succ]
        generalize W.alloc (.cells #[.slice none 0 0, .slice none 0 0] 118) = W2 at hI2 ⊢
        generalize W.heap.size = X at hI2 ⊢
        clear hI W
        rename World => W
        have hI := hI2
        clear hI2
        refine wpAnyH_all (rs := [5]) (by kernel_rfl) (by simp) ?_
        intro i hi
        simp only [List.mem_cons, List.not_mem_nil, or_false] at hi
        subst hi
        refine wpOp_one (by rfl) (by rfl) (fun K hK => ?_)
        have hI2 := hI.s3
        have hmk := unhide HMI W
        go_simp
        refine hK.out _ _ ⟨hI2.seen c4 c5, ?_⟩
        clear hK K
        simp only [List.getElem_toArray, List.getElem_cons_zero, List.getElem_cons_succ, Act.put, List.setIfInBounds_toArray, List.set_cons_zero, List.set_cons_succ]
        generalize W.alloc (.cells (madeCells #[.int .i64 0] nt) 3) = W2 at hI2 ⊢
        clear hmk
        generalize W.heap.size = G at hI2 ⊢
        clear hI W
        rename World => W
        have hI := hI2
        clear hI2
        refine wpAnyH_all (rs := [12]) (by kernel_rfl) (by simp) ?_
        intro i hi
        simp only [List.mem_cons, List.not_mem_nil, or_false] at hi
        subst hi
        refine wpOp_one (by rfl) (by rfl) (fun K hK => ?_)
        go_simp
        refine hK.out _ _ ⟨hI.seen c4 c5, ?_⟩
        clear hK K
        simp only [List.getElem_toArray, List.getElem_cons_zero, List.getElem_cons_succ, Act.put, List.setIfInBounds_toArray, List.set_cons_zero, List.set_cons_succ]
        refine wpAnyH_all (rs := [14]) (by kernel_rfl) (by simp) ?_
        intro i hi
        simp only [List.mem_cons, List.not_mem_nil, or_false] at hi
        subst hi
        have cx := (hI.i8 X rfl).2
        have cx0 : W.cell? ⟨X, 0, none⟩ = some (.slice none 0 0) := by rw [Lib.cell_of_heap cx]; rfl
        have cx1 : W.cell? ⟨X, 1, none⟩ = some (.slice none 0 0) := by rw [Lib.cell_of_heap cx]; rfl
        have fx0 : W.frozen? ⟨X, 0, none⟩ = false := Lib.frozen_of_heap cx 0
        have fx1 : W.frozen? ⟨X, 1, none⟩ = false := Lib.frozen_of_heap cx 1
        refine wpOp_one (by rfl) (by rfl) (fun K hK => ?_)
        go_simp
        refine hK.out _ _ ⟨hI.seen2 c4 c5, wpAnyH_done (by kernel_rfl) ⟨rfl, G, H, X, rfl, hI.fin⟩ _⟩
    · refine wpOp_one (by rfl) (by rfl) (fun K hK => ?_)
      have hI2 := hI.s8
      go_simp
      refine hK.out _ _ ⟨hI2.seen c4 c5, ?_⟩
      clear hK K
      simp only [List.getElem_toArray, List.getElem_cons_zero, List.getElem_cons_succ, Act.put, List.setIfInBounds_toArray, List.set_cons_zero, List.set_cons_succ]
      generalize W.alloc (.cells #[.slice none 0 0, .slice none 0 0] 118) = W2 at hI2 ⊢
      generalize W.heap.size = X at hI2 ⊢
      clear hI W
      rename World => W
      have hI := hI2
      clear hI2
      refine wpAnyH_all (rs := [5, 11]) (by kernel_rfl) (by simp) ?_
      intro i hi
      simp only [List.mem_cons, List.not_mem_nil, or_false] at hi
      rcases hi with rfl | rfl
      · refine wpOp_one (by rfl) (by rfl) (fun K hK => ?_)
        have hI2 := hI.s3
        have hmk := unhide HMI W
        go_simp
        refine hK.out _ _ ⟨hI2.seen c4 c5, ?_⟩
        clear hK K
        simp only [List.getElem_toArray, List.getElem_cons_zero, List.getElem_cons_succ, Act.put, List.setIfInBounds_toArray, List.set_cons_zero, List.set_cons_succ]
        generalize W.alloc (.cells (madeCells #[.int .i64 0] nt) 3) = W2 at hI2 ⊢
        clear hmk
        generalize W.heap.size = G at hI2 ⊢
        clear hI W
        rename World => W
        have hI := hI2
        clear hI2
        refine wpAnyH_all (rs := [11]) (by kernel_rfl) (by simp) ?_
        intro i hi
        simp only [List.mem_cons, List.not_mem_nil, or_false] at hi
        subst hi
        refine wpOp_one (by rfl) (by rfl) (fun K hK => ?_)
        have hI2 := hI.s6
        have hmk := unhide HMK W
        go_simp
        refine hK.out _ _ ⟨hI2.seen c4 c5, ?_⟩
        clear hK K
        simp only [List.getElem_toArray, List.getElem_cons_zero, List.getElem_cons_succ, Act.put, List.setIfInBounds_toArray, List.set_cons_zero, List.set_cons_succ]
        generalize W.alloc (.cells (madeCells #[.bool false] nc) 4) = W2 at hI2 ⊢
        clear hmk
        generalize W.heap.size = H at hI2 ⊢
        clear hI W
        rename World => W
        have hI := hI2
        clear hI2
        refine wpAnyH_all (rs := [12]) (by kernel_rfl) (by simp) ?_
        intro i hi
        simp only [List.mem_cons, List.not_mem_nil, or_false] at hi
        subst hi
        refine wpOp_one (by rfl) (by rfl) (fun K hK => ?_)
        go_simp
        refine hK.out _ _ ⟨hI.seen c4 c5, ?_⟩
        clear hK K
        simp only [List.getElem_toArray, List.getElem_cons_zero, List.getElem_cons_succ, Act.put, List.setIfInBounds_toArray, List.set_cons_zero, List.set_cons_succ]
        refine wpAnyH_all (rs := [14]) (by kernel_rfl) (by simp) ?_
        intro i hi
        simp only [List.mem_cons, List.not_mem_nil, or_false] at hi
        subst hi
        have cx := (hI.i8 X rfl).2
        have cx0 : W.cell? ⟨X, 0, none⟩ = some (.slice none 0 0) := by rw [Lib.cell_of_heap cx]; rfl
        have cx1 : W.cell? ⟨X, 1, none⟩ = some (.slice none 0 0) := by rw [Lib.cell_of_heap cx]; rfl
        have fx0 : W.frozen? ⟨X, 0, none⟩ = false := Lib.frozen_of_heap cx 0
        have fx1 : W.frozen? ⟨X, 1, none⟩ = false := Lib.frozen_of_heap cx 1
        refine wpOp_one (by rfl) (by rfl) (fun K hK => ?_)
        go_simp
        refine hK.out _ _ ⟨hI.seen2 c4 c5, wpAnyH_done (by kernel_rfl) ⟨rfl, G, H, X, rfl, hI.fin⟩ _⟩
      · refine wpOp_one (by rfl) (by rfl) (fun K hK => ?_)
        have hI2 := hI.s6
        have hmk := unhide HMK W
        go_simp
        refine hK.out _ _ ⟨hI2.seen c4 c5, ?_⟩
        clear hK K
        simp only [List.getElem_toArray, List.getElem_cons_zero, List.getElem_cons_succ, Act.put, List.setIfInBounds_toArray, List.set_cons_zero, List.set_cons_succ]
        generalize W.alloc (.cells (madeCells #[.bool false] nc) 4) = W2 at hI2 ⊢
        clear hmk
        generalize W.heap.size = H at hI2 ⊢
        clear hI W
        rename World => W
        have hI := hI2
        clear hI2
        refine wpAnyH_all (rs := [5]) (by kernel_rfl) (by simp) ?_
        intro i hi
        simp only [List.mem_cons, List.not_mem_nil, or_false] at hi
        subst hi
        refine wpOp_one (by rfl) (by rfl) (fun K hK => ?_)
        have hI2 := hI.s3
        have hmk := unhide HMI W
        go_simp
        refine hK.out _ _ ⟨hI2.seen c4 c5, ?_⟩
        clear hK K
        simp only [List.getElem_toArray, List.getElem_cons_zero, List.getElem_cons_succ, Act.put, List.setIfInBounds_toArray, List.set_cons_zero, List.set_cons_succ]
        generalize W.alloc (.cells (madeCells #[.int .i64 0] nt) 3) = W2 at hI2 ⊢
        clear hmk
        generalize W.heap.size = G at hI2 ⊢
        clear hI W
        rename World => W
        have hI := hI2
        clear hI2
        refine wpAnyH_all (rs := [12]) (by kernel_rfl) (by simp) ?_
        intro i hi
        simp only [List.mem_cons, List.not_mem_nil, or_false] at hi
        subst hi
        refine wpOp_one (by rfl) (by rfl) (fun K hK => ?_)
        go_simp
        refine hK.out _ _ ⟨hI.seen c4 c5, ?_⟩
        clear hK K
        simp only [List.getElem_toArray, List.getElem_cons_zero, List.getElem_cons_succ, Act.put, List.setIfInBounds_toArray, List.set_cons_zero, List.set_cons_succ]
        refine wpAnyH_all (rs := [14]) (by kernel_rfl) (by simp) ?_
        intro i hi
        simp only [List.mem_cons, List.not_mem_nil, or_false] at hi
        subst hi
        have cx := (hI.i8 X rfl).2
        have cx0 : W.cell? ⟨X, 0, none⟩ = some (.slice none 0 0) := by rw [Lib.cell_of_heap cx]; rfl
        have cx1 : W.cell? ⟨X, 1, none⟩ = some (.slice none 0 0) := by rw [Lib.cell_of_heap cx]; rfl
        have fx0 : W.frozen? ⟨X, 0, none⟩ = false := Lib.frozen_of_heap cx 0
        have fx1 : W.frozen? ⟨X, 1, none⟩ = false := Lib.frozen_of_heap cx 1
        refine wpOp_one (by rfl) (by rfl) (fun K hK => ?_)
        go_simp
        refine hK.out _ _ ⟨hI.seen2 c4 c5, wpAnyH_done (by kernel_rfl) ⟨rfl, G, H, X, rfl, hI.fin⟩ _⟩
  · rintro e a W ⟨rfl, G, H, X, rfl, hL⟩
    dsimp only
    have hxg : X ≠ G := cells_ne hL.x hL.g (by decide)
    have hxh : X ≠ H := cells_ne hL.x hL.h (by decide)
    have hgh : G ≠ H := cells_ne hL.g hL.h (by decide)
    have lg := hL.lg
    have lh := hL.lh
    have lx := hL.lx
    have hx0 : W.cell? ⟨X, 0, none⟩ = some (.slice (some ⟨G, 0, none⟩) nt nt) := by rw [Lib.cell_of_heap hL.x]; rfl
    have hx1 : W.cell? ⟨X, 1, none⟩ = some (.slice (some ⟨H, 0, none⟩) nc nc) := by rw [Lib.cell_of_heap hL.x]; rfl
    have hY0 : YW w1 G H X nt nc (List.replicate nt 0) (List.replicate nc false) W := ⟨hx0, hx1, by rw [List.map_replicate]; exact row_heap hL.g (by omega), by rw [List.map_replicate]; exact row_heap hL.h (by omega), hL.below⟩
    have hI0 : YI w1 s τ.T τ.C nt nc G H X ((rws 0 nt).length * 20) (.int .i64 0) W := ⟨0, _, 0, _, rws_zero _ _, bls_zero _, by simp, by simp [sumTo_zero], hY0⟩
    clear hL hx0 hx1 hY0 hI HMI HMK
    go_wp2_with fail
    go_loopw [8] (fun v wr => ∃ r, YI w1 s τ.T τ.C nt nc G H X r v wr) (fun v wr => Classical.epsilon fun r => YI w1 s τ.T τ.C nt nc G H X r v wr ∧ ∀ m, YI w1 s τ.T τ.C nt nc G H X m v wr → r ≤ m)
    case atStart => exact ⟨_, hI0⟩
    case round =>
      clear hI0
      have hsp := eps_spec hrel
      obtain ⟨k, row, j, hl, hrow, hhl, hr, rfl, hY⟩ := hsp
      have hkl : k < (rws 0 nt).length := (List.getElem?_eq_some_iff.1 hrow).1
      have hjl : j < (bls nc).length := (List.getElem?_eq_some_iff.1 hhl).1
      have hgk : (rws 0 nt)[k] = row := (List.getElem?_eq_some_iff.1 hrow).2
      have hgj : (bls nc)[j] = hl := (List.getElem?_eq_some_iff.1 hhl).2
      have hrl : row.length = nt := rws_len _ _ row (List.mem_of_getElem? hrow)
      have hhl2 : hl.length = nc := bls_len _ hl (List.mem_of_getElem? hhl)
      have hle : ∀ x ∈ row, x ≤ 100 := fun x hx => by have := rws_le _ _ row (List.mem_of_getElem? hrow) x hx; omega
      have ho1 := rws_orb nt 0 k hkl
      have ho2 := bls_orb nc j hjl
      rw [hgk] at ho1
      rw [hgj] at ho2
      have hb16 : (bls nc).length ≤ 16 := by
        rw [bls_length]
        have h' : nc = 0 ∨ nc = 1 ∨ nc = 2 ∨ nc = 3 ∨ nc = 4 := by omega
        rcases h' with h | h | h | h | h <;> rw [h] <;> decide
      have hsum := sumTo_succ (rws 0 nt) (dOne s τ.T τ.C) hkl
      rw [hgk] at hsum
      have hsle := sumTo_le (rws 0 nt) (dOne s τ.T τ.C) (unhide HDL) k
      have hfew := rws_few h7
      obtain ⟨gg, hgg⟩ : ∃ gg : List Bool → Bool, (fun hl => snd τ.T τ.C (clI row) hl && tru s (clI row) hl) = gg := ⟨_, rfl⟩
      have hd1 : dOne s τ.T τ.C row = (bls nc).countP gg := by unfold dOne; rw [hgg, unhide HNC]
      have hct : ((bls nc).take (j + 1)).countP gg = ((bls nc).take j).countP gg + if gg hl = true then 1 else 0 := by
        rw [List.take_add_one, hhl, List.countP_append]
        simp [List.countP_cons]
      have hcle : ((bls nc).take j).countP gg ≤ 16 := Nat.le_trans List.countP_le_length (by rw [List.length_take]; omega)
      have hgq : gg hl = (snd τ.T τ.C (clI row) hl && tru s (clI row) hl) := by rw [← hgg]
      -- what the three calls do
      have hfin : Hid (∀ (W3 W4 : World) (e : Ending), YW w1 G H X nt nc row hl W3 → NP W3 G H row hl e W4 →
          (e = .returned (.bool true) ∧ ∃ r', r' < (Classical.epsilon fun r => YI w1 s τ.T τ.C nt nc G H X r (.int .i64 ((sumTo (rws 0 nt) (dOne s τ.T τ.C) k + ((bls nc).take j).countP gg : Nat))) wr ∧ ∀ m, YI w1 s τ.T τ.C nt nc G H X m (.int .i64 ((sumTo (rws 0 nt) (dOne s τ.T τ.C) k + ((bls nc).take j).countP gg : Nat))) wr → r ≤ m) ∧ YI w1 s τ.T τ.C nt nc G H X r' (.int .i64 ((sumTo (rws 0 nt) (dOne s τ.T τ.C) k + ((bls nc).take j).countP gg + if gg hl = true then 1 else 0 : Nat))) W4) ∨
          (e = .returned (.bool false) ∧ N = sumTo (rws 0 nt) (dOne s τ.T τ.C) k + ((bls nc).take j).countP gg + (if gg hl = true then 1 else 0) ∧ Below w1.heap.size w1 W4)) := by
        intro W3 W4 e hy hn
        rw [hgg] at hr
        unfold NP at hn
        rw [ho2, ho1, hrl, hhl2] at hn
        by_cases hjn : j + 1 < (bls nc).length
        · rw [if_pos hjn, List.getElem?_eq_getElem hjn] at hn
          obtain ⟨rfl, hn⟩ := hn
          refine Or.inl ⟨rfl, ((rws 0 nt).length - k) * 20 - (j + 1), by rw [hr]; omega, k, row, j + 1, _, hrow, List.getElem?_eq_getElem hjn, rfl, ?_, hy.next hxg hxh lg lh hn⟩
          rw [hgg, hct, Nat.add_assoc]
        · rw [if_neg hjn] at hn
          have hall : (bls nc).countP gg = ((bls nc).take (j + 1)).countP gg := by rw [List.take_of_length_le (by omega)]
          by_cases hkn : k + 1 < (rws 0 nt).length
          · rw [if_pos hkn, List.getElem?_eq_getElem hkn] at hn
            obtain ⟨rfl, hn⟩ := hn
            refine Or.inl ⟨rfl, ((rws 0 nt).length - (k + 1)) * 20, by rw [hr]; omega, k + 1, _, 0, _, List.getElem?_eq_getElem hkn, bls_zero _, by simp, ?_, hy.next hxg hxh lg lh hn⟩
            rw [hsum, hd1, hall, hct]
            simp [Nat.add_assoc]
          · rw [if_neg hkn] at hn
            obtain ⟨rfl, row', hl', hn⟩ := hn
            refine Or.inr ⟨rfl, ?_, (hy.next hxg hxh lg lh hn).below⟩
            rw [← unhide HN]
            unfold dAll
            rw [unhide HNT, show (rws 0 nt).length = k + 1 by omega, hsum, hd1, hall, hct, Nat.add_assoc]
      have hmv := hY.x0
      have hmw := hY.x1
      have HY := hide hY
      have HGQ := hide hgq
      have HRL := hide hrl
      have HHL := hide hhl2
      have HLE := hide hle
      rw [hgg]
      have hm1 : sumTo (rws 0 nt) (dOne s τ.T τ.C) k + ((bls nc).take j).countP gg ≤ 40000 := by omega
      clear hr hrel hrow hhl hgk hgj ho1 ho2 hsum hd1 hct hgq hY hrl hhl2 hle hgg hsle hcle
      generalize sumTo (rws 0 nt) (dOne s τ.T τ.C) k + ((bls nc).take j).countP gg = m0 at hfin hm1 ⊢
      have hsn : SndIn (wr.alloc (.cells #[.slice (some ⟨G, 0, none⟩) nt nt, .slice (some ⟨H, 0, none⟩) nc nc] 118)) w.heap.size wr.heap.size τ.T τ.C (clI row) hl (.slice (some ⟨G, 0, none⟩) nt nt) (.slice (some ⟨H, 0, none⟩) nc nc) (.slice a4 τ.T.length p4) (.slice a5 τ.C.length p5) := by
        have hb := (unhide HY).below
        have hb2 : Below w1.heap.size w1 (wr.alloc (.cells #[.slice (some ⟨G, 0, none⟩) nt nt, .slice (some ⟨H, 0, none⟩) nc nc] 118)) := hb.alloc hb.size _
        have hg : w1.grownBy (wr.alloc (.cells #[.slice (some ⟨G, 0, none⟩) nt nt, .slice (some ⟨H, 0, none⟩) nc nc] 118)) none := ⟨hb2.os, hb2.tape, hb2.output, hb2.size, fun k hk _ => hb2.block k hk⟩
        refine ⟨?_, ?_, by simp [go_sem], by simp [go_sem], (unhide R4).kept hg (Classical.em _), (unhide R5).kept hg (Classical.em _), ((unhide HY).cs (unhide HRL) (unhide HHL)).below ((Below.refl _ _).alloc (Nat.le_refl _) _)⟩
        · rw [unhide HNT]; exact hg.cell c4 (by simp)
        · rw [unhide HNC]; exact hg.cell c5 (by simp)
      have hS := unhide HS wr (clI row) hl (.slice (some ⟨G, 0, none⟩) nt nt) (.slice (some ⟨H, 0, none⟩) nc nc) (.slice a4 τ.T.length p4) (.slice a5 τ.C.length p5) (by rw [clI_len, unhide HRL, unhide HNT]; exact Nat.le_refl _) (by rw [unhide HHL, unhide HNC]; exact Nat.le_refl _) hsn
      have hVV : Hid (∀ W2 : World, YW w1 G H X nt nc row hl W2 → Calls Tryz.prog 61 #[.string s, .agg #[.slice (some ⟨G, 0, none⟩) nt nt, .slice (some ⟨H, 0, none⟩) nc nc]] W2 fun e w' => e = .returned (.bool (tru s (clI row) hl)) ∧ Below W2.heap.size W2 w') := fun W2 hy =>
        unhide HV W2 (clI row) hl (.slice (some ⟨G, 0, none⟩) nt nt) (.slice (some ⟨H, 0, none⟩) nc nc) (by rw [clI_len, unhide HRL, unhide HNT]; exact Nat.le_refl _) (by rw [unhide HHL, unhide HNC]; exact Nat.le_refl _) (hy.cs (unhide HRL) (unhide HHL))
      have hNN : Hid (∀ W2 : World, YW w1 G H X nt nc row hl W2 → Calls Tryz.prog 62 #[.agg #[.slice (some ⟨G, 0, none⟩) nt nt, .slice (some ⟨H, 0, none⟩) nc nc]] W2 (NP W2 G H row hl)) := fun W2 hy => by
        have q := Rnext_any W2 G H row hl (by rw [unhide HRL]; exact h0) (by rw [unhide HRL]; exact h7) (by rw [unhide HHL]; exact h4) (unhide HLE) hgh (hy.r1.lt G rfl).2 (hy.r2.lt H rfl).2 (by rw [unhide HRL]; exact hy.r1) (by rw [unhide HHL]; exact hy.r2)
        rw [unhide HRL, unhide HHL] at q
        exact q
      generalize snd τ.T τ.C (clI row) hl = q1 at hS HGQ
      generalize tru s (clI row) hl = q2 at hVV HGQ
      generalize gg hl = gh at hfin HGQ
      clear hsn HS HV HRL HHL HLE
      go_wp2_with fail
      refine hS.mono ?_
      rintro e w2 ⟨rfl, hb2⟩
      have hY2 := (unhide HY).step hb2
      clear hS
      cases q1
      · have hgf : gh = false := by rw [unhide HGQ]; rfl
        subst hgf
        have y0 := hY2.x0
        have y1 := hY2.x1
        have HY2 := hide hY2
        clear hY2
        go_wp2_with fail
        refine (unhide hNN w2 (unhide HY2)).mono ?_
        rintro e w4 hnp
        rcases unhide hfin w2 w4 e (unhide HY2) hnp with ⟨rfl, r', hr', hyi⟩ | ⟨rfl, hNe, hbe⟩
        · go_wp2_with fail
          exact ⟨⟨r', by simpa using hyi⟩, eps_lt (by simpa using hyi) hr'⟩
        · have HNE := hide hNe
          clear hNe hnp
          go_wp2_with fail
          refine bodyPost_ret (v := .tuple #[.int .i64 (m0 : Nat), .int .i64 0]) (by simp [results, Tryz.results40, go_sem]) rfl ⟨?_, h1.trans (hbe.mono h1.size)⟩
          have := unhide HNE
          rw [show N = m0 by simpa using this]
      · have y0 := hY2.x0
        have y1 := hY2.x1
        have HY2 := hide hY2
        clear hY2
        go_wp2_with fail
        refine (unhide hVV w2 (unhide HY2)).mono ?_
        rintro e w3 ⟨rfl, hb3⟩
        have hY3 := (unhide HY2).step hb3
        have y0 := hY3.x0
        have y1 := hY3.x1
        have HY3 := hide hY3
        clear hY3
        cases q2
        · have hgf : gh = false := by rw [unhide HGQ]; rfl
          subst hgf
          go_wp2_with fail
          refine (unhide hNN w3 (unhide HY3)).mono ?_
          rintro e w4 hnp
          rcases unhide hfin w3 w4 e (unhide HY3) hnp with ⟨rfl, r', hr', hyi⟩ | ⟨rfl, hNe, hbe⟩
          · go_wp2_with fail
            exact ⟨⟨r', by simpa using hyi⟩, eps_lt (by simpa using hyi) hr'⟩
          · have HNE := hide hNe
            clear hNe hnp
            go_wp2_with fail
            refine bodyPost_ret (v := .tuple #[.int .i64 (m0 : Nat), .int .i64 0]) (by simp [results, Tryz.results40, go_sem]) rfl ⟨?_, h1.trans (hbe.mono h1.size)⟩
            have := unhide HNE
            rw [show N = m0 by simpa using this]
        · have hgf : gh = true := by rw [unhide HGQ]; rfl
          subst hgf
          go_wp2_with fail
          refine (unhide hNN w3 (unhide HY3)).mono ?_
          rintro e w4 hnp
          rcases unhide hfin w3 w4 e (unhide HY3) hnp with ⟨rfl, r', hr', hyi⟩ | ⟨rfl, hNe, hbe⟩
          · go_wp2_with fail
            have hyi2 : YI w1 s τ.T τ.C nt nc G H X r' (.int .i64 ((m0 : Int) + 1)) w4 := by simpa using hyi
            exact ⟨⟨r', hyi2⟩, eps_lt hyi2 hr'⟩
          · have HNE := hide hNe
            clear hNe hnp
            go_wp2_with fail
            refine bodyPost_ret (v := .tuple #[.int .i64 ((m0 : Int) + 1), .int .i64 0]) (by simp [results, Tryz.results40, go_sem]) rfl ⟨?_, h1.trans (hbe.mono h1.size)⟩
            have hq := unhide HNE
            rw [show N = m0 + 1 by simpa using hq]
            simp

end Go.Proofs.YthcppbmkacbbiaaGreat

namespace Go.Proofs.YthcppbmkacbbiaaGreat
open Go.RowKit
open Rdg (St put Key)

theorem some_term {ts : List Key} {cs : List (Int × Nat)} {ps : List Key} (hc : Rdg.InvC ts cs) (hp : Rdg.InvP ts.length cs.length ps) (h : 0 < ps.length) : 0 < ts.length := by
  rcases hp.ok 0 h with ⟨_, q, _⟩ | ⟨_, q, _⟩ | ⟨_, q, _⟩ | ⟨_, q, _⟩
  · omega
  · omega
  · have := (hc cs[ps[0].2.1] (List.getElem_mem q)).2
    omega
  · omega

/-- What Count tells. -/
def ctell (s : ByteArray) : Int × Int := if s.size ≤ 100 ∧ (chk s).1 = 0 then ((dAll s (rall s).T (rall s).C : Nat), 0) else (0, (chk s).1)

theorem count_any (w : World) (s : ByteArray) (hm : s.size ≤ maxLen) :
    Calls Tryz.prog 20 #[.string s] w fun e w' => e = .returned (.tuple #[.int .i64 (ctell s).1, .int .i64 (ctell s).2]) ∧ Below w.heap.size w w' := by
  unfold ctell
  by_cases h : s.size ≤ 100 ∧ (chk s).1 = 0
  · rw [if_pos h]
    obtain ⟨ts, cs, ps, h1, h2, h3, h4, h5, h6, h7, h8, h9, h10, h11, h12⟩ := right_parts s h.1 h.2
    have h0 : 0 < ts.length := some_term h5 h10 h11
    have g := count_ok w s h.1 ts cs ps _ h1 h0 h2 h3 h4 h5 h9 h10 h11 h12 (fun x hx => h5 x hx)
    rw [← all_eq s ts cs ps h1 h3 h4 h5] at g
    rw [h6]
    exact g
  · rw [if_neg h]
    exact count_bad w s hm (chk_long h)

theorem Rcount_any (w : World) (s : ByteArray) (hm : s.size ≤ maxLen) :
    Calls Tryz.prog 40 #[.string s] w fun e w' => e = .returned (.tuple #[.int .i64 (ctell s).1, .int .i64 (ctell s).2]) ∧ Below w.heap.size w w' := by
  unfold ctell
  by_cases h : s.size ≤ 100 ∧ (chk s).1 = 0
  · rw [if_pos h]
    obtain ⟨ts, cs, ps, h1, h2, h3, h4, h5, h6, h7, h8, h9, h10, h11, h12⟩ := right_parts s h.1 h.2
    have hT : (rall s).T = Rdg.texts ts := by rw [h6]
    have hC : (rall s).C = ctx ts cs := by rw [h6]
    have h0 : 0 < ts.length := some_term h5 h10 h11
    exact Rcount_ok w s h.1 (rall s) (hide rfl) (by rw [h6]) (by rw [h6]; simp) (by rw [hT, Rdg.texts_length]; exact h0) (by rw [hT, Rdg.texts_length]; exact h2) (by rw [hC, show (ctx ts cs).length = cs.length by simp [ctx]]; exact h3) (by rw [hT, hC]; exact good_texts h4 h5 h7 h8)
  · rw [if_neg h]
    have g := Rcount_bad w s hm (by rw [rchk_chk]; exact chk_long h)
    rw [rchk_chk] at g
    exact g

set_option maxRecDepth 100000 in
set_option maxHeartbeats 1000000 in
theorem plays_count (w : World) (n : Int) (s t : ByteArray) (hm : s.size ≤ maxLen) :
    Calls Tryz.prog 29 #[.agg #[.int .i64 4, .int .i64 n, .string s, .string t]] w fun e w' => e = .returned (.bool true) ∧ Below w.heap.size w w' := by
  have H1 := hide (fun w => count_any w s hm)
  have H2 := hide (fun w => Rcount_any w s hm)
  generalize ctell s = c at H1 H2
  obtain ⟨x, E⟩ := c
  go_enter Tryz.func29, Tryz.ntmps29
  go_wp2_with fail
  refine ((unhide H1) _).mono ?_
  rintro e w1 ⟨rfl, b1⟩
  have hlt : w.heap.size < (w.alloc (.cells #[.int .i64 4, .int .i64 n, .string s, .string t] 48)).heap.size := by simp
  have x0 : w1.cell? ⟨w.heap.size, 2, none⟩ = some (.string s) := by rw [b1.cell hlt]; exact World.cell?_alloc_at _ _ _ _ rfl
  go_wp2_with fail
  refine ((unhide H2) _).mono ?_
  rintro e w2 ⟨rfl, b2⟩
  go_wp2_with fail
  refine (num_any _ _).mono ?_
  rintro e w3 ⟨rfl, rfl⟩
  go_wp2_with fail
  go_ret
  refine ⟨by simp, ?_⟩
  have hsz := b1.size
  exact (((Below.refl w.heap.size w).alloc (Nat.le_refl _) _).trans (b1.mono (by simp))).trans (b2.mono (by simp at hsz; omega))

end Go.Proofs.YthcppbmkacbbiaaGreat
