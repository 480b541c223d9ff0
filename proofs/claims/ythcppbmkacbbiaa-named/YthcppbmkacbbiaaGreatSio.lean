import Derived.Test.YthcppbmkacbbiaaGreatWrtM
import Derived.Test.YthcppbmkacbbiaaGreatAlkTM
import Derived.Laws.IdiomStrings
import Derived.Deep.OwnRows
namespace Go.Proofs.YthcppbmkacbbiaaGreat
open Go.RowKit Go.Maps Go.WideMaps
open Rdg (Key put okPc pv1 jn isJoint pvs InvP)

attribute [local go_sem] Oper.semAt_some

/-- The truths that a text tells. -/
def hlo (s : ByteArray) (nt nc : Nat) : List Bool := (List.range nc).map fun c => s.data.toList.getD (nt + 1 + c) 0 == 49

theorem wpOp_one {P : Program} {ops : Array Oper} {Q : Exit → Act → World → Prop} {i : Nat} {o : Oper} {a : Act} {w : World} {K : Act → World → Prop} (ho : ops[i]? = some o) (hw : Region.wanted o (yielded ops a.tmps) = true)
    (h : ∀ K' : Act → World → Prop, Shut (∀ a w, K a w → K' a w) → Oper.wp P o a w K' Q) : wpOp P ops Q i K a w := by
  refine wpOp_step ho (fun K' hK => ?_)
  rw [if_pos hw]
  exact h K' hK

/-- The case is laid. -/
structure Laid4 (w0 : World) (keys : List UInt8) (nc b H X : Nat) (W : World) : Prop where
  below : Below w0.heap.size w0 W
  lb : w0.heap.size ≤ b
  lh : w0.heap.size ≤ H
  lx : w0.heap.size ≤ X
  m : CMap W b (fi keys) keys.length 100
  h : W.heap[H]? = some (.cells (madeCells #[.bool false] nc) 4)
  x : W.heap[X]? = some (.cells #[.map (some b), .slice (some ⟨H, 0, none⟩) nc nc] 105)

theorem CMap.obj {W : World} {b n c : Nat} {f : Nat → Nat} (h : CMap W b f n c) : ∃ o : Obj, W.heap[b]? = some o ∧ ∀ c t fz, o ≠ .cells c t fz := by
  obtain ⟨D, nn, _, ⟨es, clock, h1, _⟩, _⟩ := h
  exact ⟨_, h1, fun _ _ _ e => by cases e⟩

theorem set_two {W : World} {X t : Nat} {p q u v : Value} (h : W.heap[X]? = some (.cells #[p, q] t)) : ((W.setCell ⟨X, 0, none⟩ u).setCell ⟨X, 1, none⟩ v).heap[X]? = some (.cells #[u, v] t) := by
  have h1 : (W.setCell ⟨X, 0, none⟩ u).heap[X]? = some (.cells #[u, q] t) := by simp [World.setCell, Array.getElem?_modify, h]
  generalize W.setCell ⟨X, 0, none⟩ u = W1 at h1 ⊢
  simp [World.setCell, Array.getElem?_modify, h1]

/-- The truths are read, up to k. -/
structure L5 (w0 : World) (keys : List UInt8) (nc b H X k : Nat) (hb : Nat → Bool) (W : World) : Prop where
  below : Below w0.heap.size w0 W
  lb : w0.heap.size ≤ b
  lh : w0.heap.size ≤ H
  lx : w0.heap.size ≤ X
  m : CMap W b (fi keys) keys.length 100
  x0 : W.cell? ⟨X, 0, none⟩ = some (.map (some b))
  x1 : W.cell? ⟨X, 1, none⟩ = some (.slice (some ⟨H, 0, none⟩) nc nc)
  hlt : H < W.heap.size
  c : ∀ c, c < nc → W.cell? ⟨H, c, none⟩ = some (.bool (decide (c < k) && hb c))
  fz : ∀ c, W.frozen? ⟨H, c, none⟩ = false
  nx : X ≠ H
  nb : b ≠ H

theorem Laid4.five {w0 : World} {keys : List UInt8} {nc b H X : Nat} {W : World} (h : Laid4 w0 keys nc b H X W) (hb : Nat → Bool) : L5 w0 keys nc b H X 0 hb W where
  below := h.below
  lb := h.lb
  lh := h.lh
  lx := h.lx
  m := h.m
  x0 := by rw [Lib.cell_of_heap h.x]; rfl
  x1 := by rw [Lib.cell_of_heap h.x]; rfl
  hlt := (Array.getElem?_eq_some_iff.1 h.h).1
  c := fun c hc => by
    rw [Lib.cell_of_heap h.h]
    simp [madeCells, hc, Nat.mod_one]
  fz := fun c => Lib.frozen_of_heap h.h c
  nx := fun e => by
    have h1 := h.x
    subst e
    rw [h.h] at h1
    have h2 := Option.some.inj h1
    injection h2 with _ h3 _
    exact absurd h3 (by decide)
  nb := fun e => by
    subst e
    obtain ⟨o, h1, h2⟩ := h.m.obj
    rw [h.h] at h1
    exact h2 _ _ _ (Option.some.inj h1).symm

theorem L5.next {w0 : World} {keys : List UInt8} {nc b H X k : Nat} {hb : Nat → Bool} {W : World} {v : Bool} (h : L5 w0 keys nc b H X k hb W) (hk : k < nc) (hv : hb k = v) : L5 w0 keys nc b H X (k + 1) hb (W.drew.setCell ⟨H, k, none⟩ (.bool v)) where
  below := (h.below.drew).setCell (p := ⟨H, k, none⟩) h.lh _
  lb := h.lb
  lh := h.lh
  lx := h.lx
  m := h.m.kept (Below.heap_setCell _ _ _ _ h.nb)
  x0 := (cell_other' (by simp; exact fun e => absurd e.symm h.nx)).trans h.x0
  x1 := (cell_other' (by simp; exact fun e => absurd e.symm h.nx)).trans h.x1
  hlt := by have := h.hlt; simpa [World.setCell] using this
  c := fun c hc => by
    by_cases e : c = k
    · subst e
      have h1 := h.c c hc
      rw [cell_same (w := W.drew) (.bool v) h1, ← hv]
      simp
    · refine (cell_other' (p := ⟨H, k, none⟩) (q := ⟨H, c, none⟩) (fun e2 => e (by injection e2 with _ h2 _; exact h2.symm))).trans ?_
      have h1 := h.c c hc
      have e2 : decide (c < k + 1) = decide (c < k) := by simp; omega
      rw [e2]
      exact h1
  fz := fun c => by rw [World.frozen?_setCell]; exact h.fz c
  nx := h.nx
  nb := h.nb

theorem L5.rows {w0 : World} {keys : List UInt8} {nc b H X : Nat} {hb : Nat → Bool} {W : World} (h : L5 w0 keys nc b H X nc hb W) : RowsH W H ((List.range nc).map hb) := by
  refine ⟨h.hlt, fun i hi => ?_⟩
  have hi2 : i < nc := by simpa using hi
  rw [h.c i hi2]
  simp [hi2]

theorem bytes_eq (l : List UInt8) (s : ByteArray) : (l == s.toList) = decide (l = s.data.toList) := by
  have e : s.toList = s.data.toList := ByteArray.toList_eq s
  rw [e]
  by_cases h : l = s.data.toList
  · rw [decide_eq_true h, beq_iff_eq]; exact h
  · rw [decide_eq_false h, beq_eq_false_iff_ne]; exact h

theorem u49_eq (bt : UInt8) : (((bt.toNat : Nat) : Int) == 49) = (bt == 49) := by
  by_cases h : bt = 49
  · subst h; rfl
  · have h2 : bt.toNat ≠ 49 := fun e => h (UInt8.toNat.inj (e : bt.toNat = (49 : UInt8).toNat))
    have h3 : ((bt.toNat : Nat) : Int) ≠ 49 := by omega
    rw [beq_eq_false_iff_ne.2 h, beq_eq_false_iff_ne.2 h3]

theorem wrap_small {a : Int} (h0 : 0 ≤ a) (h1 : a ≤ 1000000) : IntKind.i64.wrap a = a := by
  simp [IntKind.wrap, IntKind.bits, IntKind.signed]
  omega

theorem Inv4.fin {w0 : World} {keys : List UInt8} {nc G b H X : Nat} {W : World} (h : Inv4 w0 keys nc (some G) (some b) (some H) (some X) W) : Laid4 w0 keys nc b H X ((W.setCell ⟨X, 0, none⟩ (.map (some b))).setCell ⟨X, 1, none⟩ (.slice (some ⟨H, 0, none⟩) nc nc)) := by
  obtain ⟨lx, hx⟩ := h.i8 X rfl
  obtain ⟨lh, hh⟩ := h.i6 H rfl
  obtain ⟨lb, hm⟩ := h.i4 b rfl
  have n1 : H ≠ X := fun e => by
    subst e
    rw [hx] at hh
    have h1 := Option.some.inj hh
    injection h1 with _ h2 _
    exact absurd h2 (by decide)
  have n2 : b ≠ X := fun e => by
    subst e
    obtain ⟨o, h1, h2⟩ := hm.obj
    rw [hx] at h1
    exact h2 _ _ _ (Option.some.inj h1).symm
  have hk : ∀ j, j ≠ X → ((W.setCell ⟨X, 0, none⟩ (.map (some b))).setCell ⟨X, 1, none⟩ (.slice (some ⟨H, 0, none⟩) nc nc)).heap[j]? = W.heap[j]? := fun j hj => (Below.heap_setCell _ _ _ _ hj).trans (Below.heap_setCell _ _ _ _ hj)
  exact ⟨(h.below.setCell (p := ⟨X, 0, none⟩) lx _).setCell (p := ⟨X, 1, none⟩) lx _, lb, lh, lx, hm.kept (hk b n2), (hk H n1).trans hh, set_two hx⟩

set_option linter.unusedSimpArgs false in
set_option maxRecDepth 100000 in
set_option maxHeartbeats 2000000 in
theorem situation_ok (GT GC GP nt nc np : Nat) (s : ByteArray) (w : World) (h7 : nt ≤ 7) (h4 : nc ≤ 4) (hs : s.size = nt + 1 + nc) :
    Calls Tryz.prog 54 #[fv GT GC GP nt nc np, .string s] w fun e w' => ∃ b H, e = .returned (.tuple #[sv b H nc, .bool (decide (wrt (fi (s.data.toList.take nt)) nt (hlo s nt nc) = s.data.toList))]) ∧ w.heap.size ≤ b ∧ w.heap.size ≤ H ∧ CMap w' b (fi (s.data.toList.take nt)) nt 100 ∧ RowsH w' H (hlo s nt nc) ∧ Below w.heap.size w w' := by
  unfold fv
  go_enter Tryz.func54, Tryz.ntmps54
  go_wp2_with fail
  obtain ⟨w0, hw0⟩ : ∃ w0, (w.alloc (.cells #[.slice (some ⟨GT, 0, none⟩) nt nt, .slice (some ⟨GC, 0, none⟩) nc nc, .slice (some ⟨GP, 0, none⟩) np np] 54)).alloc (.cells #[.map none, .slice none 0 0] 105) = w0 := ⟨_, rfl⟩
  have hb0 : Below w.heap.size w w0 := by rw [← hw0]; exact two_below _ _ _
  have hz0 : w0.heap.size = w.heap.size + 2 := by rw [← hw0]; simp
  have hk0 : w0.cell? ⟨w.heap.size, 0, none⟩ = some (.slice (some ⟨GT, 0, none⟩) nt nt) := by rw [← hw0]; simp [go_sem]
  have hk1 : w0.cell? ⟨w.heap.size, 1, none⟩ = some (.slice (some ⟨GC, 0, none⟩) nc nc) := by rw [← hw0]; simp [go_sem]
  have hk2 : w0.cell? ⟨w.heap.size, 2, none⟩ = some (.slice (some ⟨GP, 0, none⟩) np np) := by rw [← hw0]; simp [go_sem]
  have hr0 : w0.cell? ⟨w.heap.size + 1, 0, none⟩ = some (.map none) := by rw [← hw0]; simp [go_sem]
  have hr1 : w0.cell? ⟨w.heap.size + 1, 1, none⟩ = some (.slice none 0 0) := by rw [← hw0]; simp [go_sem]
  have hq0 : w0.frozen? ⟨w.heap.size + 1, 0, none⟩ = false := by rw [← hw0]; simp [go_sem]
  have hq1 : w0.frozen? ⟨w.heap.size + 1, 1, none⟩ = false := by rw [← hw0]; simp [go_sem]
  rw [hw0]
  clear hw0
  have hS0 : w0.drew.cell? ⟨w.heap.size, 0, none⟩ = some (.slice (some ⟨GT, 0, none⟩) nt nt) ∧ w0.drew.cell? ⟨w.heap.size, 1, none⟩ = some (.slice (some ⟨GC, 0, none⟩) nc nc) := ⟨hk0, hk1⟩
  refine wp_region_held (S := fun W' => W'.cell? ⟨w.heap.size, 0, none⟩ = some (.slice (some ⟨GT, 0, none⟩) nt nt) ∧ W'.cell? ⟨w.heap.size, 1, none⟩ = some (.slice (some ⟨GC, 0, none⟩) nc nc)) rfl ?_
  simp only [List.size_toArray, List.length_cons, List.length_nil, Nat.reduceAdd, Array.replicate_succ, Array.replicate_zero, List.push_toArray, List.nil_append, List.cons_append]
  change wpAnyH Tryz.prog .any _ _ _ _ _ _ w0.drew
  refine wpAnyH_take (i := 0) (v := .pointer (some ⟨w.heap.size, 0, none⟩)) rfl (by kernel_rfl) (by kernel_rfl) (by kernel_rfl) (fun _ _ _ h => h) (Or.inl ⟨by rfl, fun w' hS => ?_⟩) hS0 ?_
  · obtain ⟨s1, s2⟩ := hS
    go_simp
  simp only [List.getElem_toArray, List.getElem_cons_zero, List.getElem_cons_succ, Act.put, List.setIfInBounds_toArray, List.set_cons_zero, List.set_cons_succ]
  refine wpAnyH_take (i := 1) (v := .slice (some ⟨GT, 0, none⟩) nt nt) rfl (by kernel_rfl) (by kernel_rfl) (by kernel_rfl) (fun _ _ _ h => h) (Or.inl ⟨by rfl, fun w' hS => ?_⟩) hS0 ?_
  · obtain ⟨s1, s2⟩ := hS
    go_simp
  simp only [List.getElem_toArray, List.getElem_cons_zero, List.getElem_cons_succ, Act.put, List.setIfInBounds_toArray, List.set_cons_zero, List.set_cons_succ]
  refine wpAnyH_take (i := 2) (v := .int .i64 nt) rfl (by kernel_rfl) (by kernel_rfl) (by kernel_rfl) (fun _ _ _ h => h) (Or.inl ⟨by rfl, fun w' hS => ?_⟩) hS0 ?_
  · obtain ⟨s1, s2⟩ := hS
    go_simp
  simp only [List.getElem_toArray, List.getElem_cons_zero, List.getElem_cons_succ, Act.put, List.setIfInBounds_toArray, List.set_cons_zero, List.set_cons_succ]
  refine wpAnyH_take (i := 3) (v := .pointer (some ⟨w.heap.size, 1, none⟩)) rfl (by kernel_rfl) (by kernel_rfl) (by kernel_rfl) (fun _ _ _ h => h) (Or.inl ⟨by rfl, fun w' hS => ?_⟩) hS0 ?_
  · obtain ⟨s1, s2⟩ := hS
    go_simp
  simp only [List.getElem_toArray, List.getElem_cons_zero, List.getElem_cons_succ, Act.put, List.setIfInBounds_toArray, List.set_cons_zero, List.set_cons_succ]
  refine wpAnyH_take (i := 4) (v := .slice (some ⟨GC, 0, none⟩) nc nc) rfl (by kernel_rfl) (by kernel_rfl) (by kernel_rfl) (fun _ _ _ h => h) (Or.inl ⟨by rfl, fun w' hS => ?_⟩) hS0 ?_
  · obtain ⟨s1, s2⟩ := hS
    go_simp
  simp only [List.getElem_toArray, List.getElem_cons_zero, List.getElem_cons_succ, Act.put, List.setIfInBounds_toArray, List.set_cons_zero, List.set_cons_succ]
  refine wpAnyH_take (i := 5) (v := .int .i64 nc) rfl (by kernel_rfl) (by kernel_rfl) (by kernel_rfl) (fun _ _ _ h => h) (Or.inl ⟨by rfl, fun w' hS => ?_⟩) hS0 ?_
  · obtain ⟨s1, s2⟩ := hS
    go_simp
  simp only [List.getElem_toArray, List.getElem_cons_zero, List.getElem_cons_succ, Act.put, List.setIfInBounds_toArray, List.set_cons_zero, List.set_cons_succ]
  refine wpAnyH_one (i := 6) (by kernel_rfl) rfl (by rfl) (fun K hK => ?_)
  go_simp
  refine hK.out _ _ hS0 ?_
  clear hK K
  simp only [List.getElem_toArray, List.getElem_cons_zero, List.getElem_cons_succ, Act.put, List.setIfInBounds_toArray, List.set_cons_zero, List.set_cons_succ]
  refine wpAnyH_one (i := 7) (by kernel_rfl) rfl (by rfl) (fun K hK => ?_)
  go_simp
  refine hK.out _ _ hS0 (wpAnyH_done (by kernel_rfl) ?_ _)
  clear hK K hS0
  have heq : decide ((s.size : Int) = (nt : Int) + 1 + (nc : Int)) = true := by simp; omega
  have heq2 : (s.size : Int) = (nt : Int) + 1 + (nc : Int) := by omega
  have htk : (s.extract 0 nt).data.toList = s.data.toList.take nt := by simp
  have hts : (s.extract 0 nt).size = nt := by simp; omega
  have HCV : Hid (∀ W : World, (convert 9 107 (.string (s.extract 0 nt))).run Tryz.prog W = .ok (.slice (some ⟨W.heap.size, 0, none⟩) nt (grownCap W nt 0 5)) (W.drew.alloc (.cells (bytesRow (s.extract 0 nt) (grownCap W nt 0 5)) 5 ((bytesRow (s.extract 0 nt) (grownCap W nt 0 5)).size, (bytesRow (s.extract 0 nt) (grownCap W nt 0 5)).size + 1)))) := fun W => by
    have h := run_bytes_of_string (P := Tryz.prog) W 9 107 5 (s.extract 0 nt) Tryz.underlying9 Tryz.underlying107 Tryz.underlying5
    rw [hts] at h
    exact h
  have HMK : Hid (∀ W : World, (Instr.makeSlice 103 (.int .i64 (nc : Int)) (.int .i64 (nc : Int))).run Tryz.prog W = .ok (.slice (some ⟨W.heap.size, 0, none⟩) nc nc) (W.alloc (.cells (madeCells #[.bool false] nc) 4))) := fun W =>
    run_make_row' (P := Tryz.prog) 103 4 (.bool false) 1 Tryz.underlying103 infoL rfl .i64 .i64 nc (by omega) (by omega) W
  have HTG : Hid (∀ (W : World) (G cap : Nat), RowsB W G (s.extract 0 nt).data.toList → Calls Tryz.prog 97 #[.slice (some ⟨G, 0, none⟩) nt cap] W fun e w' => ∃ b, e = .returned (.map (some b)) ∧ W.heap.size ≤ b ∧ Below W.heap.size W w' ∧ CMap w' b (fi (s.extract 0 nt).data.toList) (s.extract 0 nt).data.toList.length 100) := fun W G cap hG => by
    have hlen : (s.extract 0 nt).data.toList.length = nt := by simpa using hts
    have h := togetherB_any G cap (s.extract 0 nt).data.toList W (by omega) hG (fun x _ => ⟨_, keyB x⟩)
    rw [hlen] at h ⊢
    exact h
  have hI : Inv4 w0.drew (s.extract 0 nt).data.toList nc none none none none w0.drew := ⟨Below.refl _ _, fun _ e => (by cases e), fun _ e => (by cases e), fun _ e => (by cases e), fun _ e => (by cases e)⟩
  have hnti : (nt : Int) ≤ (s.size : Int) := by omega
  have HTK := hide htk
  have HTS := hide hts
  have HSS := hide hs
  clear htk hts
  go_wp2_with fail
  refine Code.wp_mono (Q := fun e a W' => e = .normal ∧ ∃ (G cap b H X : Nat), a = { tmps := #[.agg #[.slice (some ⟨GT, 0, none⟩) nt nt, .slice (some ⟨GC, 0, none⟩) nc nc, .slice (some ⟨GP, 0, none⟩) np np], .string s, .pointer (some ⟨w.heap.size, 0, none⟩), undef, .pointer (some ⟨w.heap.size + 1, 0, none⟩), .bool false, .int .i64 nt, .int .i64 nc, .pointer (some ⟨X, 0, none⟩), undef, .pointer (some ⟨w.heap.size, 0, none⟩), .slice (some ⟨GT, 0, none⟩) nt nt, .int .i64 nt, .pointer (some ⟨w.heap.size, 1, none⟩), .slice (some ⟨GC, 0, none⟩) nc nc, .int .i64 nc, .string s, .int .i64 ((nt : Int) + 1 + (nc : Int)), .int .i64 nt, .int .i64 ((nt : Int) + 1), .int .i64 nc, .int .i64 ((nt : Int) + 1 + (nc : Int)), .bool false, undef, .string s, .int .i64 nt, .string (s.extract 0 nt), .slice (some ⟨G, 0, none⟩) nt cap, .map (some b), .int .i64 nc, .slice (some ⟨H, 0, none⟩) nc nc, .agg #[.map (some b), .slice (some ⟨H, 0, none⟩) nc nc], undef, undef, undef, undef, undef, undef, undef, undef, undef, undef, undef, undef, undef, undef, undef, undef, undef, undef, undef, undef, undef, undef, undef, undef], defers := [] } ∧ Laid4 w0.drew (s.extract 0 nt).data.toList nc b H X W') ?_ ?_
  rotate_left
  · refine wp_region_held (S := fun _ => True) rfl ?_
    simp only [List.size_toArray, List.length_cons, List.length_nil, Nat.reduceAdd, Array.replicate_succ, Array.replicate_zero, List.push_toArray, List.nil_append, List.cons_append]
    have hgd : Below w0.drew.heap.size w0.drew w0.drew.drew := (Below.refl _ _).drew
    have hI := hI.grow hgd
    change wpAnyH Tryz.prog .any _ _ _ _ _ _ w0.drew.drew
    generalize w0.drew.drew = W at hI ⊢
    have hS0 : True := trivial
    refine wpAnyH_take (i := 0) (v := .string s) rfl (by kernel_rfl) (by kernel_rfl) (by kernel_rfl) (fun _ _ _ h => (by cases h.1)) (Or.inl ⟨by rfl, fun w' hS => ?_⟩) hS0 ?_
    · go_simp
    simp only [List.getElem_toArray, List.getElem_cons_zero, List.getElem_cons_succ, Act.put, List.setIfInBounds_toArray, List.set_cons_zero, List.set_cons_succ]
    refine wpAnyH_take (i := 1) (v := .int .i64 nt) rfl (by kernel_rfl) (by kernel_rfl) (by kernel_rfl) (fun _ _ _ h => (by cases h.1)) (Or.inl ⟨by rfl, fun w' hS => ?_⟩) hS0 ?_
    · go_simp
    simp only [List.getElem_toArray, List.getElem_cons_zero, List.getElem_cons_succ, Act.put, List.setIfInBounds_toArray, List.set_cons_zero, List.set_cons_succ]
    refine wpAnyH_take (i := 2) (v := .string (s.extract 0 nt)) rfl (by kernel_rfl) (by kernel_rfl) (by kernel_rfl) (fun _ _ _ h => (by cases h.1)) (Or.inl ⟨by rfl, fun w' hS => ?_⟩) hS0 ?_
    · go_simp
      intro h; omega
    simp only [List.getElem_toArray, List.getElem_cons_zero, List.getElem_cons_succ, Act.put, List.setIfInBounds_toArray, List.set_cons_zero, List.set_cons_succ]
    refine wpAnyH_take (i := 5) (v := .int .i64 nc) rfl (by kernel_rfl) (by kernel_rfl) (by kernel_rfl) (fun _ _ _ h => (by cases h.1)) (Or.inl ⟨by rfl, fun w' hS => ?_⟩) hS0 ?_
    · go_simp
    simp only [List.getElem_toArray, List.getElem_cons_zero, List.getElem_cons_succ, Act.put, List.setIfInBounds_toArray, List.set_cons_zero, List.set_cons_succ]
    refine wpAnyH_all (rs := [3, 6, 8]) (by kernel_rfl) (by simp) ?_
    intro i hi
    simp only [List.mem_cons, List.not_mem_nil, or_false] at hi
    rcases hi with rfl | rfl | rfl
    · refine wpOp_one (by rfl) (by rfl) (fun K hK => ?_)
      obtain ⟨G, hX⟩ : ∃ X, W.heap.size = X := ⟨_, rfl⟩
      obtain ⟨cap, hcap⟩ : ∃ c, grownCap W nt 0 5 = c := ⟨_, rfl⟩
      have hcv := unhide HCV W
      rw [hX, hcap] at hcv
      have hI2 := hI.s3 (cap := cap) (fz := ((bytesRow (s.extract 0 nt) cap).size, (bytesRow (s.extract 0 nt) cap).size + 1))
      rw [hX] at hI2
      generalize W.drew.alloc (.cells (bytesRow (s.extract 0 nt) cap) 5 ((bytesRow (s.extract 0 nt) cap).size, (bytesRow (s.extract 0 nt) cap).size + 1)) = W2 at hI2 hcv
      go_simp
      refine hK.out _ _ ⟨trivial, ?_⟩
      clear hK K hcv hX hcap hI W
      rename World => W
      have hI := hI2
      clear hI2
      simp only [List.getElem_toArray, List.getElem_cons_zero, List.getElem_cons_succ, Act.put, List.setIfInBounds_toArray, List.set_cons_zero, List.set_cons_succ]
      refine wpAnyH_all (rs := [4, 6, 8]) (by kernel_rfl) (by simp) ?_
      intro i hi
      simp only [List.mem_cons, List.not_mem_nil, or_false] at hi
      rcases hi with rfl | rfl | rfl
      · refine wpOp_one (by rfl) (by rfl) (fun K hK => ?_)
        go_simp
        refine (unhide HTG W G cap (hI.i3 G rfl).2).mono ?_
        rintro e W2 ⟨b, rfl, hb1, hb2, hb3⟩
        have hI2 := hI.s4 hb2 hb1 hb3
        refine hK.out _ _ ⟨trivial, ?_⟩
        clear hK K hb1 hb2 hb3 hI W
        rename World => W
        have hI := hI2
        clear hI2
        simp only [List.getElem_toArray, List.getElem_cons_zero, List.getElem_cons_succ, Act.put, List.setIfInBounds_toArray, List.set_cons_zero, List.set_cons_succ]
        refine wpAnyH_all (rs := [6, 8]) (by kernel_rfl) (by simp) ?_
        intro i hi
        simp only [List.mem_cons, List.not_mem_nil, or_false] at hi
        rcases hi with rfl | rfl
        · refine wpOp_one (by rfl) (by rfl) (fun K hK => ?_)
          have hI2 := hI.s6
          have hmk := unhide HMK W
          go_simp
          refine hK.out _ _ ⟨trivial, ?_⟩
          clear hK K
          simp only [List.getElem_toArray, List.getElem_cons_zero, List.getElem_cons_succ, Act.put, List.setIfInBounds_toArray, List.set_cons_zero, List.set_cons_succ]
          generalize W.alloc (.cells (madeCells #[.bool false] nc) 4) = W2 at hI2 ⊢
          clear hmk
          generalize W.heap.size = H at hI2 ⊢
          clear hI W
          rename World => W
          have hI := hI2
          clear hI2
          refine wpAnyH_all (rs := [7, 8]) (by kernel_rfl) (by simp) ?_
          intro i hi
          simp only [List.mem_cons, List.not_mem_nil, or_false] at hi
          rcases hi with rfl | rfl
          · refine wpOp_one (by rfl) (by rfl) (fun K hK => ?_)
            go_simp
            refine hK.out _ _ ⟨trivial, ?_⟩
            clear hK K
            simp only [List.getElem_toArray, List.getElem_cons_zero, List.getElem_cons_succ, Act.put, List.setIfInBounds_toArray, List.set_cons_zero, List.set_cons_succ]
            refine wpAnyH_all (rs := [8]) (by kernel_rfl) (by simp) ?_
            intro i hi
            simp only [List.mem_cons, List.not_mem_nil, or_false] at hi
            subst hi
            refine wpOp_one (by rfl) (by rfl) (fun K hK => ?_)
            have hI2 := hI.s8
            go_simp
            refine hK.out _ _ ⟨trivial, ?_⟩
            clear hK K
            simp only [List.getElem_toArray, List.getElem_cons_zero, List.getElem_cons_succ, Act.put, List.setIfInBounds_toArray, List.set_cons_zero, List.set_cons_succ]
            generalize W.alloc (.cells #[.map none, .slice none 0 0] 105) = W2 at hI2 ⊢
            generalize W.heap.size = X at hI2 ⊢
            clear hI W
            rename World => W
            have hI := hI2
            clear hI2
            refine wpAnyH_all (rs := [9]) (by kernel_rfl) (by simp) ?_
            intro i hi
            simp only [List.mem_cons, List.not_mem_nil, or_false] at hi
            subst hi
            have cx := (hI.i8 X rfl).2
            have cx0 : W.cell? ⟨X, 0, none⟩ = some (.map none) := by rw [Lib.cell_of_heap cx]; rfl
            have cx1 : W.cell? ⟨X, 1, none⟩ = some (.slice none 0 0) := by rw [Lib.cell_of_heap cx]; rfl
            have fx0 : W.frozen? ⟨X, 0, none⟩ = false := Lib.frozen_of_heap cx 0
            have fx1 : W.frozen? ⟨X, 1, none⟩ = false := Lib.frozen_of_heap cx 1
            refine wpOp_one (by rfl) (by rfl) (fun K hK => ?_)
            go_simp
            refine hK.out _ _ ⟨trivial, wpAnyH_done (by kernel_rfl) ⟨rfl, G, cap, b, H, X, rfl, hI.fin⟩ _⟩
          · refine wpOp_one (by rfl) (by rfl) (fun K hK => ?_)
            have hI2 := hI.s8
            go_simp
            refine hK.out _ _ ⟨trivial, ?_⟩
            clear hK K
            simp only [List.getElem_toArray, List.getElem_cons_zero, List.getElem_cons_succ, Act.put, List.setIfInBounds_toArray, List.set_cons_zero, List.set_cons_succ]
            generalize W.alloc (.cells #[.map none, .slice none 0 0] 105) = W2 at hI2 ⊢
            generalize W.heap.size = X at hI2 ⊢
            clear hI W
            rename World => W
            have hI := hI2
            clear hI2
            refine wpAnyH_all (rs := [7]) (by kernel_rfl) (by simp) ?_
            intro i hi
            simp only [List.mem_cons, List.not_mem_nil, or_false] at hi
            subst hi
            refine wpOp_one (by rfl) (by rfl) (fun K hK => ?_)
            go_simp
            refine hK.out _ _ ⟨trivial, ?_⟩
            clear hK K
            simp only [List.getElem_toArray, List.getElem_cons_zero, List.getElem_cons_succ, Act.put, List.setIfInBounds_toArray, List.set_cons_zero, List.set_cons_succ]
            refine wpAnyH_all (rs := [9]) (by kernel_rfl) (by simp) ?_
            intro i hi
            simp only [List.mem_cons, List.not_mem_nil, or_false] at hi
            subst hi
            have cx := (hI.i8 X rfl).2
            have cx0 : W.cell? ⟨X, 0, none⟩ = some (.map none) := by rw [Lib.cell_of_heap cx]; rfl
            have cx1 : W.cell? ⟨X, 1, none⟩ = some (.slice none 0 0) := by rw [Lib.cell_of_heap cx]; rfl
            have fx0 : W.frozen? ⟨X, 0, none⟩ = false := Lib.frozen_of_heap cx 0
            have fx1 : W.frozen? ⟨X, 1, none⟩ = false := Lib.frozen_of_heap cx 1
            refine wpOp_one (by rfl) (by rfl) (fun K hK => ?_)
            go_simp
            refine hK.out _ _ ⟨trivial, wpAnyH_done (by kernel_rfl) ⟨rfl, G, cap, b, H, X, rfl, hI.fin⟩ _⟩
        · refine wpOp_one (by rfl) (by rfl) (fun K hK => ?_)
          have hI2 := hI.s8
          go_simp
          refine hK.out _ _ ⟨trivial, ?_⟩
          clear hK K
          simp only [List.getElem_toArray, List.getElem_cons_zero, List.getElem_cons_succ, Act.put, List.setIfInBounds_toArray, List.set_cons_zero, List.set_cons_succ]
          generalize W.alloc (.cells #[.map none, .slice none 0 0] 105) = W2 at hI2 ⊢
          generalize W.heap.size = X at hI2 ⊢
          clear hI W
          rename World => W
          have hI := hI2
          clear hI2
          refine wpAnyH_all (rs := [6]) (by kernel_rfl) (by simp) ?_
          intro i hi
          simp only [List.mem_cons, List.not_mem_nil, or_false] at hi
          subst hi
          refine wpOp_one (by rfl) (by rfl) (fun K hK => ?_)
          have hI2 := hI.s6
          have hmk := unhide HMK W
          go_simp
          refine hK.out _ _ ⟨trivial, ?_⟩
          clear hK K
          simp only [List.getElem_toArray, List.getElem_cons_zero, List.getElem_cons_succ, Act.put, List.setIfInBounds_toArray, List.set_cons_zero, List.set_cons_succ]
          generalize W.alloc (.cells (madeCells #[.bool false] nc) 4) = W2 at hI2 ⊢
          clear hmk
          generalize W.heap.size = H at hI2 ⊢
          clear hI W
          rename World => W
          have hI := hI2
          clear hI2
          refine wpAnyH_all (rs := [7]) (by kernel_rfl) (by simp) ?_
          intro i hi
          simp only [List.mem_cons, List.not_mem_nil, or_false] at hi
          subst hi
          refine wpOp_one (by rfl) (by rfl) (fun K hK => ?_)
          go_simp
          refine hK.out _ _ ⟨trivial, ?_⟩
          clear hK K
          simp only [List.getElem_toArray, List.getElem_cons_zero, List.getElem_cons_succ, Act.put, List.setIfInBounds_toArray, List.set_cons_zero, List.set_cons_succ]
          refine wpAnyH_all (rs := [9]) (by kernel_rfl) (by simp) ?_
          intro i hi
          simp only [List.mem_cons, List.not_mem_nil, or_false] at hi
          subst hi
          have cx := (hI.i8 X rfl).2
          have cx0 : W.cell? ⟨X, 0, none⟩ = some (.map none) := by rw [Lib.cell_of_heap cx]; rfl
          have cx1 : W.cell? ⟨X, 1, none⟩ = some (.slice none 0 0) := by rw [Lib.cell_of_heap cx]; rfl
          have fx0 : W.frozen? ⟨X, 0, none⟩ = false := Lib.frozen_of_heap cx 0
          have fx1 : W.frozen? ⟨X, 1, none⟩ = false := Lib.frozen_of_heap cx 1
          refine wpOp_one (by rfl) (by rfl) (fun K hK => ?_)
          go_simp
          refine hK.out _ _ ⟨trivial, wpAnyH_done (by kernel_rfl) ⟨rfl, G, cap, b, H, X, rfl, hI.fin⟩ _⟩
      · refine wpOp_one (by rfl) (by rfl) (fun K hK => ?_)
        have hI2 := hI.s6
        have hmk := unhide HMK W
        go_simp
        refine hK.out _ _ ⟨trivial, ?_⟩
        clear hK K
        simp only [List.getElem_toArray, List.getElem_cons_zero, List.getElem_cons_succ, Act.put, List.setIfInBounds_toArray, List.set_cons_zero, List.set_cons_succ]
        generalize W.alloc (.cells (madeCells #[.bool false] nc) 4) = W2 at hI2 ⊢
        clear hmk
        generalize W.heap.size = H at hI2 ⊢
        clear hI W
        rename World => W
        have hI := hI2
        clear hI2
        refine wpAnyH_all (rs := [4, 8]) (by kernel_rfl) (by simp) ?_
        intro i hi
        simp only [List.mem_cons, List.not_mem_nil, or_false] at hi
        rcases hi with rfl | rfl
        · refine wpOp_one (by rfl) (by rfl) (fun K hK => ?_)
          go_simp
          refine (unhide HTG W G cap (hI.i3 G rfl).2).mono ?_
          rintro e W2 ⟨b, rfl, hb1, hb2, hb3⟩
          have hI2 := hI.s4 hb2 hb1 hb3
          refine hK.out _ _ ⟨trivial, ?_⟩
          clear hK K hb1 hb2 hb3 hI W
          rename World => W
          have hI := hI2
          clear hI2
          simp only [List.getElem_toArray, List.getElem_cons_zero, List.getElem_cons_succ, Act.put, List.setIfInBounds_toArray, List.set_cons_zero, List.set_cons_succ]
          refine wpAnyH_all (rs := [7, 8]) (by kernel_rfl) (by simp) ?_
          intro i hi
          simp only [List.mem_cons, List.not_mem_nil, or_false] at hi
          rcases hi with rfl | rfl
          · refine wpOp_one (by rfl) (by rfl) (fun K hK => ?_)
            go_simp
            refine hK.out _ _ ⟨trivial, ?_⟩
            clear hK K
            simp only [List.getElem_toArray, List.getElem_cons_zero, List.getElem_cons_succ, Act.put, List.setIfInBounds_toArray, List.set_cons_zero, List.set_cons_succ]
            refine wpAnyH_all (rs := [8]) (by kernel_rfl) (by simp) ?_
            intro i hi
            simp only [List.mem_cons, List.not_mem_nil, or_false] at hi
            subst hi
            refine wpOp_one (by rfl) (by rfl) (fun K hK => ?_)
            have hI2 := hI.s8
            go_simp
            refine hK.out _ _ ⟨trivial, ?_⟩
            clear hK K
            simp only [List.getElem_toArray, List.getElem_cons_zero, List.getElem_cons_succ, Act.put, List.setIfInBounds_toArray, List.set_cons_zero, List.set_cons_succ]
            generalize W.alloc (.cells #[.map none, .slice none 0 0] 105) = W2 at hI2 ⊢
            generalize W.heap.size = X at hI2 ⊢
            clear hI W
            rename World => W
            have hI := hI2
            clear hI2
            refine wpAnyH_all (rs := [9]) (by kernel_rfl) (by simp) ?_
            intro i hi
            simp only [List.mem_cons, List.not_mem_nil, or_false] at hi
            subst hi
            have cx := (hI.i8 X rfl).2
            have cx0 : W.cell? ⟨X, 0, none⟩ = some (.map none) := by rw [Lib.cell_of_heap cx]; rfl
            have cx1 : W.cell? ⟨X, 1, none⟩ = some (.slice none 0 0) := by rw [Lib.cell_of_heap cx]; rfl
            have fx0 : W.frozen? ⟨X, 0, none⟩ = false := Lib.frozen_of_heap cx 0
            have fx1 : W.frozen? ⟨X, 1, none⟩ = false := Lib.frozen_of_heap cx 1
            refine wpOp_one (by rfl) (by rfl) (fun K hK => ?_)
            go_simp
            refine hK.out _ _ ⟨trivial, wpAnyH_done (by kernel_rfl) ⟨rfl, G, cap, b, H, X, rfl, hI.fin⟩ _⟩
          · refine wpOp_one (by rfl) (by rfl) (fun K hK => ?_)
            have hI2 := hI.s8
            go_simp
            refine hK.out _ _ ⟨trivial, ?_⟩
            clear hK K
            simp only [List.getElem_toArray, List.getElem_cons_zero, List.getElem_cons_succ, Act.put, List.setIfInBounds_toArray, List.set_cons_zero, List.set_cons_succ]
            generalize W.alloc (.cells #[.map none, .slice none 0 0] 105) = W2 at hI2 ⊢
            generalize W.heap.size = X at hI2 ⊢
            clear hI W
            rename World => W
            have hI := hI2
            clear hI2
            refine wpAnyH_all (rs := [7]) (by kernel_rfl) (by simp) ?_
            intro i hi
            simp only [List.mem_cons, List.not_mem_nil, or_false] at hi
            subst hi
            refine wpOp_one (by rfl) (by rfl) (fun K hK => ?_)
            go_simp
            refine hK.out _ _ ⟨trivial, ?_⟩
            clear hK K
            simp only [List.getElem_toArray, List.getElem_cons_zero, List.getElem_cons_succ, Act.put, List.setIfInBounds_toArray, List.set_cons_zero, List.set_cons_succ]
            refine wpAnyH_all (rs := [9]) (by kernel_rfl) (by simp) ?_
            intro i hi
            simp only [List.mem_cons, List.not_mem_nil, or_false] at hi
            subst hi
            have cx := (hI.i8 X rfl).2
            have cx0 : W.cell? ⟨X, 0, none⟩ = some (.map none) := by rw [Lib.cell_of_heap cx]; rfl
            have cx1 : W.cell? ⟨X, 1, none⟩ = some (.slice none 0 0) := by rw [Lib.cell_of_heap cx]; rfl
            have fx0 : W.frozen? ⟨X, 0, none⟩ = false := Lib.frozen_of_heap cx 0
            have fx1 : W.frozen? ⟨X, 1, none⟩ = false := Lib.frozen_of_heap cx 1
            refine wpOp_one (by rfl) (by rfl) (fun K hK => ?_)
            go_simp
            refine hK.out _ _ ⟨trivial, wpAnyH_done (by kernel_rfl) ⟨rfl, G, cap, b, H, X, rfl, hI.fin⟩ _⟩
        · refine wpOp_one (by rfl) (by rfl) (fun K hK => ?_)
          have hI2 := hI.s8
          go_simp
          refine hK.out _ _ ⟨trivial, ?_⟩
          clear hK K
          simp only [List.getElem_toArray, List.getElem_cons_zero, List.getElem_cons_succ, Act.put, List.setIfInBounds_toArray, List.set_cons_zero, List.set_cons_succ]
          generalize W.alloc (.cells #[.map none, .slice none 0 0] 105) = W2 at hI2 ⊢
          generalize W.heap.size = X at hI2 ⊢
          clear hI W
          rename World => W
          have hI := hI2
          clear hI2
          refine wpAnyH_all (rs := [4]) (by kernel_rfl) (by simp) ?_
          intro i hi
          simp only [List.mem_cons, List.not_mem_nil, or_false] at hi
          subst hi
          refine wpOp_one (by rfl) (by rfl) (fun K hK => ?_)
          go_simp
          refine (unhide HTG W G cap (hI.i3 G rfl).2).mono ?_
          rintro e W2 ⟨b, rfl, hb1, hb2, hb3⟩
          have hI2 := hI.s4 hb2 hb1 hb3
          refine hK.out _ _ ⟨trivial, ?_⟩
          clear hK K hb1 hb2 hb3 hI W
          rename World => W
          have hI := hI2
          clear hI2
          simp only [List.getElem_toArray, List.getElem_cons_zero, List.getElem_cons_succ, Act.put, List.setIfInBounds_toArray, List.set_cons_zero, List.set_cons_succ]
          refine wpAnyH_all (rs := [7]) (by kernel_rfl) (by simp) ?_
          intro i hi
          simp only [List.mem_cons, List.not_mem_nil, or_false] at hi
          subst hi
          refine wpOp_one (by rfl) (by rfl) (fun K hK => ?_)
          go_simp
          refine hK.out _ _ ⟨trivial, ?_⟩
          clear hK K
          simp only [List.getElem_toArray, List.getElem_cons_zero, List.getElem_cons_succ, Act.put, List.setIfInBounds_toArray, List.set_cons_zero, List.set_cons_succ]
          refine wpAnyH_all (rs := [9]) (by kernel_rfl) (by simp) ?_
          intro i hi
          simp only [List.mem_cons, List.not_mem_nil, or_false] at hi
          subst hi
          have cx := (hI.i8 X rfl).2
          have cx0 : W.cell? ⟨X, 0, none⟩ = some (.map none) := by rw [Lib.cell_of_heap cx]; rfl
          have cx1 : W.cell? ⟨X, 1, none⟩ = some (.slice none 0 0) := by rw [Lib.cell_of_heap cx]; rfl
          have fx0 : W.frozen? ⟨X, 0, none⟩ = false := Lib.frozen_of_heap cx 0
          have fx1 : W.frozen? ⟨X, 1, none⟩ = false := Lib.frozen_of_heap cx 1
          refine wpOp_one (by rfl) (by rfl) (fun K hK => ?_)
          go_simp
          refine hK.out _ _ ⟨trivial, wpAnyH_done (by kernel_rfl) ⟨rfl, G, cap, b, H, X, rfl, hI.fin⟩ _⟩
      · refine wpOp_one (by rfl) (by rfl) (fun K hK => ?_)
        have hI2 := hI.s8
        go_simp
        refine hK.out _ _ ⟨trivial, ?_⟩
        clear hK K
        simp only [List.getElem_toArray, List.getElem_cons_zero, List.getElem_cons_succ, Act.put, List.setIfInBounds_toArray, List.set_cons_zero, List.set_cons_succ]
        generalize W.alloc (.cells #[.map none, .slice none 0 0] 105) = W2 at hI2 ⊢
        generalize W.heap.size = X at hI2 ⊢
        clear hI W
        rename World => W
        have hI := hI2
        clear hI2
        refine wpAnyH_all (rs := [4, 6]) (by kernel_rfl) (by simp) ?_
        intro i hi
        simp only [List.mem_cons, List.not_mem_nil, or_false] at hi
        rcases hi with rfl | rfl
        · refine wpOp_one (by rfl) (by rfl) (fun K hK => ?_)
          go_simp
          refine (unhide HTG W G cap (hI.i3 G rfl).2).mono ?_
          rintro e W2 ⟨b, rfl, hb1, hb2, hb3⟩
          have hI2 := hI.s4 hb2 hb1 hb3
          refine hK.out _ _ ⟨trivial, ?_⟩
          clear hK K hb1 hb2 hb3 hI W
          rename World => W
          have hI := hI2
          clear hI2
          simp only [List.getElem_toArray, List.getElem_cons_zero, List.getElem_cons_succ, Act.put, List.setIfInBounds_toArray, List.set_cons_zero, List.set_cons_succ]
          refine wpAnyH_all (rs := [6]) (by kernel_rfl) (by simp) ?_
          intro i hi
          simp only [List.mem_cons, List.not_mem_nil, or_false] at hi
          subst hi
          refine wpOp_one (by rfl) (by rfl) (fun K hK => ?_)
          have hI2 := hI.s6
          have hmk := unhide HMK W
          go_simp
          refine hK.out _ _ ⟨trivial, ?_⟩
          clear hK K
          simp only [List.getElem_toArray, List.getElem_cons_zero, List.getElem_cons_succ, Act.put, List.setIfInBounds_toArray, List.set_cons_zero, List.set_cons_succ]
          generalize W.alloc (.cells (madeCells #[.bool false] nc) 4) = W2 at hI2 ⊢
          clear hmk
          generalize W.heap.size = H at hI2 ⊢
          clear hI W
          rename World => W
          have hI := hI2
          clear hI2
          refine wpAnyH_all (rs := [7]) (by kernel_rfl) (by simp) ?_
          intro i hi
          simp only [List.mem_cons, List.not_mem_nil, or_false] at hi
          subst hi
          refine wpOp_one (by rfl) (by rfl) (fun K hK => ?_)
          go_simp
          refine hK.out _ _ ⟨trivial, ?_⟩
          clear hK K
          simp only [List.getElem_toArray, List.getElem_cons_zero, List.getElem_cons_succ, Act.put, List.setIfInBounds_toArray, List.set_cons_zero, List.set_cons_succ]
          refine wpAnyH_all (rs := [9]) (by kernel_rfl) (by simp) ?_
          intro i hi
          simp only [List.mem_cons, List.not_mem_nil, or_false] at hi
          subst hi
          have cx := (hI.i8 X rfl).2
          have cx0 : W.cell? ⟨X, 0, none⟩ = some (.map none) := by rw [Lib.cell_of_heap cx]; rfl
          have cx1 : W.cell? ⟨X, 1, none⟩ = some (.slice none 0 0) := by rw [Lib.cell_of_heap cx]; rfl
          have fx0 : W.frozen? ⟨X, 0, none⟩ = false := Lib.frozen_of_heap cx 0
          have fx1 : W.frozen? ⟨X, 1, none⟩ = false := Lib.frozen_of_heap cx 1
          refine wpOp_one (by rfl) (by rfl) (fun K hK => ?_)
          go_simp
          refine hK.out _ _ ⟨trivial, wpAnyH_done (by kernel_rfl) ⟨rfl, G, cap, b, H, X, rfl, hI.fin⟩ _⟩
        · refine wpOp_one (by rfl) (by rfl) (fun K hK => ?_)
          have hI2 := hI.s6
          have hmk := unhide HMK W
          go_simp
          refine hK.out _ _ ⟨trivial, ?_⟩
          clear hK K
          simp only [List.getElem_toArray, List.getElem_cons_zero, List.getElem_cons_succ, Act.put, List.setIfInBounds_toArray, List.set_cons_zero, List.set_cons_succ]
          generalize W.alloc (.cells (madeCells #[.bool false] nc) 4) = W2 at hI2 ⊢
          clear hmk
          generalize W.heap.size = H at hI2 ⊢
          clear hI W
          rename World => W
          have hI := hI2
          clear hI2
          refine wpAnyH_all (rs := [4]) (by kernel_rfl) (by simp) ?_
          intro i hi
          simp only [List.mem_cons, List.not_mem_nil, or_false] at hi
          subst hi
          refine wpOp_one (by rfl) (by rfl) (fun K hK => ?_)
          go_simp
          refine (unhide HTG W G cap (hI.i3 G rfl).2).mono ?_
          rintro e W2 ⟨b, rfl, hb1, hb2, hb3⟩
          have hI2 := hI.s4 hb2 hb1 hb3
          refine hK.out _ _ ⟨trivial, ?_⟩
          clear hK K hb1 hb2 hb3 hI W
          rename World => W
          have hI := hI2
          clear hI2
          simp only [List.getElem_toArray, List.getElem_cons_zero, List.getElem_cons_succ, Act.put, List.setIfInBounds_toArray, List.set_cons_zero, List.set_cons_succ]
          refine wpAnyH_all (rs := [7]) (by kernel_rfl) (by simp) ?_
          intro i hi
          simp only [List.mem_cons, List.not_mem_nil, or_false] at hi
          subst hi
          refine wpOp_one (by rfl) (by rfl) (fun K hK => ?_)
          go_simp
          refine hK.out _ _ ⟨trivial, ?_⟩
          clear hK K
          simp only [List.getElem_toArray, List.getElem_cons_zero, List.getElem_cons_succ, Act.put, List.setIfInBounds_toArray, List.set_cons_zero, List.set_cons_succ]
          refine wpAnyH_all (rs := [9]) (by kernel_rfl) (by simp) ?_
          intro i hi
          simp only [List.mem_cons, List.not_mem_nil, or_false] at hi
          subst hi
          have cx := (hI.i8 X rfl).2
          have cx0 : W.cell? ⟨X, 0, none⟩ = some (.map none) := by rw [Lib.cell_of_heap cx]; rfl
          have cx1 : W.cell? ⟨X, 1, none⟩ = some (.slice none 0 0) := by rw [Lib.cell_of_heap cx]; rfl
          have fx0 : W.frozen? ⟨X, 0, none⟩ = false := Lib.frozen_of_heap cx 0
          have fx1 : W.frozen? ⟨X, 1, none⟩ = false := Lib.frozen_of_heap cx 1
          refine wpOp_one (by rfl) (by rfl) (fun K hK => ?_)
          go_simp
          refine hK.out _ _ ⟨trivial, wpAnyH_done (by kernel_rfl) ⟨rfl, G, cap, b, H, X, rfl, hI.fin⟩ _⟩
    · refine wpOp_one (by rfl) (by rfl) (fun K hK => ?_)
      have hI2 := hI.s6
      have hmk := unhide HMK W
      go_simp
      refine hK.out _ _ ⟨trivial, ?_⟩
      clear hK K
      simp only [List.getElem_toArray, List.getElem_cons_zero, List.getElem_cons_succ, Act.put, List.setIfInBounds_toArray, List.set_cons_zero, List.set_cons_succ]
      generalize W.alloc (.cells (madeCells #[.bool false] nc) 4) = W2 at hI2 ⊢
      clear hmk
      generalize W.heap.size = H at hI2 ⊢
      clear hI W
      rename World => W
      have hI := hI2
      clear hI2
      refine wpAnyH_all (rs := [3, 8]) (by kernel_rfl) (by simp) ?_
      intro i hi
      simp only [List.mem_cons, List.not_mem_nil, or_false] at hi
      rcases hi with rfl | rfl
      · refine wpOp_one (by rfl) (by rfl) (fun K hK => ?_)
        obtain ⟨G, hX⟩ : ∃ X, W.heap.size = X := ⟨_, rfl⟩
        obtain ⟨cap, hcap⟩ : ∃ c, grownCap W nt 0 5 = c := ⟨_, rfl⟩
        have hcv := unhide HCV W
        rw [hX, hcap] at hcv
        have hI2 := hI.s3 (cap := cap) (fz := ((bytesRow (s.extract 0 nt) cap).size, (bytesRow (s.extract 0 nt) cap).size + 1))
        rw [hX] at hI2
        generalize W.drew.alloc (.cells (bytesRow (s.extract 0 nt) cap) 5 ((bytesRow (s.extract 0 nt) cap).size, (bytesRow (s.extract 0 nt) cap).size + 1)) = W2 at hI2 hcv
        go_simp
        refine hK.out _ _ ⟨trivial, ?_⟩
        clear hK K hcv hX hcap hI W
        rename World => W
        have hI := hI2
        clear hI2
        simp only [List.getElem_toArray, List.getElem_cons_zero, List.getElem_cons_succ, Act.put, List.setIfInBounds_toArray, List.set_cons_zero, List.set_cons_succ]
        refine wpAnyH_all (rs := [4, 8]) (by kernel_rfl) (by simp) ?_
        intro i hi
        simp only [List.mem_cons, List.not_mem_nil, or_false] at hi
        rcases hi with rfl | rfl
        · refine wpOp_one (by rfl) (by rfl) (fun K hK => ?_)
          go_simp
          refine (unhide HTG W G cap (hI.i3 G rfl).2).mono ?_
          rintro e W2 ⟨b, rfl, hb1, hb2, hb3⟩
          have hI2 := hI.s4 hb2 hb1 hb3
          refine hK.out _ _ ⟨trivial, ?_⟩
          clear hK K hb1 hb2 hb3 hI W
          rename World => W
          have hI := hI2
          clear hI2
          simp only [List.getElem_toArray, List.getElem_cons_zero, List.getElem_cons_succ, Act.put, List.setIfInBounds_toArray, List.set_cons_zero, List.set_cons_succ]
          refine wpAnyH_all (rs := [7, 8]) (by kernel_rfl) (by simp) ?_
          intro i hi
          simp only [List.mem_cons, List.not_mem_nil, or_false] at hi
          rcases hi with rfl | rfl
          · refine wpOp_one (by rfl) (by rfl) (fun K hK => ?_)
            go_simp
            refine hK.out _ _ ⟨trivial, ?_⟩
            clear hK K
            simp only [List.getElem_toArray, List.getElem_cons_zero, List.getElem_cons_succ, Act.put, List.setIfInBounds_toArray, List.set_cons_zero, List.set_cons_succ]
            refine wpAnyH_all (rs := [8]) (by kernel_rfl) (by simp) ?_
            intro i hi
            simp only [List.mem_cons, List.not_mem_nil, or_false] at hi
            subst hi
            refine wpOp_one (by rfl) (by rfl) (fun K hK => ?_)
            have hI2 := hI.s8
            go_simp
            refine hK.out _ _ ⟨trivial, ?_⟩
            clear hK K
            simp only [List.getElem_toArray, List.getElem_cons_zero, List.getElem_cons_succ, Act.put, List.setIfInBounds_toArray, List.set_cons_zero, List.set_cons_succ]
            generalize W.alloc (.cells #[.map none, .slice none 0 0] 105) = W2 at hI2 ⊢
            generalize W.heap.size = X at hI2 ⊢
            clear hI W
            rename World => W
            have hI := hI2
            clear hI2
            refine wpAnyH_all (rs := [9]) (by kernel_rfl) (by simp) ?_
            intro i hi
            simp only [List.mem_cons, List.not_mem_nil, or_false] at hi
            subst hi
            have cx := (hI.i8 X rfl).2
            have cx0 : W.cell? ⟨X, 0, none⟩ = some (.map none) := by rw [Lib.cell_of_heap cx]; rfl
            have cx1 : W.cell? ⟨X, 1, none⟩ = some (.slice none 0 0) := by rw [Lib.cell_of_heap cx]; rfl
            have fx0 : W.frozen? ⟨X, 0, none⟩ = false := Lib.frozen_of_heap cx 0
            have fx1 : W.frozen? ⟨X, 1, none⟩ = false := Lib.frozen_of_heap cx 1
            refine wpOp_one (by rfl) (by rfl) (fun K hK => ?_)
            go_simp
            refine hK.out _ _ ⟨trivial, wpAnyH_done (by kernel_rfl) ⟨rfl, G, cap, b, H, X, rfl, hI.fin⟩ _⟩
          · refine wpOp_one (by rfl) (by rfl) (fun K hK => ?_)
            have hI2 := hI.s8
            go_simp
            refine hK.out _ _ ⟨trivial, ?_⟩
            clear hK K
            simp only [List.getElem_toArray, List.getElem_cons_zero, List.getElem_cons_succ, Act.put, List.setIfInBounds_toArray, List.set_cons_zero, List.set_cons_succ]
            generalize W.alloc (.cells #[.map none, .slice none 0 0] 105) = W2 at hI2 ⊢
            generalize W.heap.size = X at hI2 ⊢
            clear hI W
            rename World => W
            have hI := hI2
            clear hI2
            refine wpAnyH_all (rs := [7]) (by kernel_rfl) (by simp) ?_
            intro i hi
            simp only [List.mem_cons, List.not_mem_nil, or_false] at hi
            subst hi
            refine wpOp_one (by rfl) (by rfl) (fun K hK => ?_)
            go_simp
            refine hK.out _ _ ⟨trivial, ?_⟩
            clear hK K
            simp only [List.getElem_toArray, List.getElem_cons_zero, List.getElem_cons_succ, Act.put, List.setIfInBounds_toArray, List.set_cons_zero, List.set_cons_succ]
            refine wpAnyH_all (rs := [9]) (by kernel_rfl) (by simp) ?_
            intro i hi
            simp only [List.mem_cons, List.not_mem_nil, or_false] at hi
            subst hi
            have cx := (hI.i8 X rfl).2
            have cx0 : W.cell? ⟨X, 0, none⟩ = some (.map none) := by rw [Lib.cell_of_heap cx]; rfl
            have cx1 : W.cell? ⟨X, 1, none⟩ = some (.slice none 0 0) := by rw [Lib.cell_of_heap cx]; rfl
            have fx0 : W.frozen? ⟨X, 0, none⟩ = false := Lib.frozen_of_heap cx 0
            have fx1 : W.frozen? ⟨X, 1, none⟩ = false := Lib.frozen_of_heap cx 1
            refine wpOp_one (by rfl) (by rfl) (fun K hK => ?_)
            go_simp
            refine hK.out _ _ ⟨trivial, wpAnyH_done (by kernel_rfl) ⟨rfl, G, cap, b, H, X, rfl, hI.fin⟩ _⟩
        · refine wpOp_one (by rfl) (by rfl) (fun K hK => ?_)
          have hI2 := hI.s8
          go_simp
          refine hK.out _ _ ⟨trivial, ?_⟩
          clear hK K
          simp only [List.getElem_toArray, List.getElem_cons_zero, List.getElem_cons_succ, Act.put, List.setIfInBounds_toArray, List.set_cons_zero, List.set_cons_succ]
          generalize W.alloc (.cells #[.map none, .slice none 0 0] 105) = W2 at hI2 ⊢
          generalize W.heap.size = X at hI2 ⊢
          clear hI W
          rename World => W
          have hI := hI2
          clear hI2
          refine wpAnyH_all (rs := [4]) (by kernel_rfl) (by simp) ?_
          intro i hi
          simp only [List.mem_cons, List.not_mem_nil, or_false] at hi
          subst hi
          refine wpOp_one (by rfl) (by rfl) (fun K hK => ?_)
          go_simp
          refine (unhide HTG W G cap (hI.i3 G rfl).2).mono ?_
          rintro e W2 ⟨b, rfl, hb1, hb2, hb3⟩
          have hI2 := hI.s4 hb2 hb1 hb3
          refine hK.out _ _ ⟨trivial, ?_⟩
          clear hK K hb1 hb2 hb3 hI W
          rename World => W
          have hI := hI2
          clear hI2
          simp only [List.getElem_toArray, List.getElem_cons_zero, List.getElem_cons_succ, Act.put, List.setIfInBounds_toArray, List.set_cons_zero, List.set_cons_succ]
          refine wpAnyH_all (rs := [7]) (by kernel_rfl) (by simp) ?_
          intro i hi
          simp only [List.mem_cons, List.not_mem_nil, or_false] at hi
          subst hi
          refine wpOp_one (by rfl) (by rfl) (fun K hK => ?_)
          go_simp
          refine hK.out _ _ ⟨trivial, ?_⟩
          clear hK K
          simp only [List.getElem_toArray, List.getElem_cons_zero, List.getElem_cons_succ, Act.put, List.setIfInBounds_toArray, List.set_cons_zero, List.set_cons_succ]
          refine wpAnyH_all (rs := [9]) (by kernel_rfl) (by simp) ?_
          intro i hi
          simp only [List.mem_cons, List.not_mem_nil, or_false] at hi
          subst hi
          have cx := (hI.i8 X rfl).2
          have cx0 : W.cell? ⟨X, 0, none⟩ = some (.map none) := by rw [Lib.cell_of_heap cx]; rfl
          have cx1 : W.cell? ⟨X, 1, none⟩ = some (.slice none 0 0) := by rw [Lib.cell_of_heap cx]; rfl
          have fx0 : W.frozen? ⟨X, 0, none⟩ = false := Lib.frozen_of_heap cx 0
          have fx1 : W.frozen? ⟨X, 1, none⟩ = false := Lib.frozen_of_heap cx 1
          refine wpOp_one (by rfl) (by rfl) (fun K hK => ?_)
          go_simp
          refine hK.out _ _ ⟨trivial, wpAnyH_done (by kernel_rfl) ⟨rfl, G, cap, b, H, X, rfl, hI.fin⟩ _⟩
      · refine wpOp_one (by rfl) (by rfl) (fun K hK => ?_)
        have hI2 := hI.s8
        go_simp
        refine hK.out _ _ ⟨trivial, ?_⟩
        clear hK K
        simp only [List.getElem_toArray, List.getElem_cons_zero, List.getElem_cons_succ, Act.put, List.setIfInBounds_toArray, List.set_cons_zero, List.set_cons_succ]
        generalize W.alloc (.cells #[.map none, .slice none 0 0] 105) = W2 at hI2 ⊢
        generalize W.heap.size = X at hI2 ⊢
        clear hI W
        rename World => W
        have hI := hI2
        clear hI2
        refine wpAnyH_all (rs := [3]) (by kernel_rfl) (by simp) ?_
        intro i hi
        simp only [List.mem_cons, List.not_mem_nil, or_false] at hi
        subst hi
        refine wpOp_one (by rfl) (by rfl) (fun K hK => ?_)
        obtain ⟨G, hX⟩ : ∃ X, W.heap.size = X := ⟨_, rfl⟩
        obtain ⟨cap, hcap⟩ : ∃ c, grownCap W nt 0 5 = c := ⟨_, rfl⟩
        have hcv := unhide HCV W
        rw [hX, hcap] at hcv
        have hI2 := hI.s3 (cap := cap) (fz := ((bytesRow (s.extract 0 nt) cap).size, (bytesRow (s.extract 0 nt) cap).size + 1))
        rw [hX] at hI2
        generalize W.drew.alloc (.cells (bytesRow (s.extract 0 nt) cap) 5 ((bytesRow (s.extract 0 nt) cap).size, (bytesRow (s.extract 0 nt) cap).size + 1)) = W2 at hI2 hcv
        go_simp
        refine hK.out _ _ ⟨trivial, ?_⟩
        clear hK K hcv hX hcap hI W
        rename World => W
        have hI := hI2
        clear hI2
        simp only [List.getElem_toArray, List.getElem_cons_zero, List.getElem_cons_succ, Act.put, List.setIfInBounds_toArray, List.set_cons_zero, List.set_cons_succ]
        refine wpAnyH_all (rs := [4]) (by kernel_rfl) (by simp) ?_
        intro i hi
        simp only [List.mem_cons, List.not_mem_nil, or_false] at hi
        subst hi
        refine wpOp_one (by rfl) (by rfl) (fun K hK => ?_)
        go_simp
        refine (unhide HTG W G cap (hI.i3 G rfl).2).mono ?_
        rintro e W2 ⟨b, rfl, hb1, hb2, hb3⟩
        have hI2 := hI.s4 hb2 hb1 hb3
        refine hK.out _ _ ⟨trivial, ?_⟩
        clear hK K hb1 hb2 hb3 hI W
        rename World => W
        have hI := hI2
        clear hI2
        simp only [List.getElem_toArray, List.getElem_cons_zero, List.getElem_cons_succ, Act.put, List.setIfInBounds_toArray, List.set_cons_zero, List.set_cons_succ]
        refine wpAnyH_all (rs := [7]) (by kernel_rfl) (by simp) ?_
        intro i hi
        simp only [List.mem_cons, List.not_mem_nil, or_false] at hi
        subst hi
        refine wpOp_one (by rfl) (by rfl) (fun K hK => ?_)
        go_simp
        refine hK.out _ _ ⟨trivial, ?_⟩
        clear hK K
        simp only [List.getElem_toArray, List.getElem_cons_zero, List.getElem_cons_succ, Act.put, List.setIfInBounds_toArray, List.set_cons_zero, List.set_cons_succ]
        refine wpAnyH_all (rs := [9]) (by kernel_rfl) (by simp) ?_
        intro i hi
        simp only [List.mem_cons, List.not_mem_nil, or_false] at hi
        subst hi
        have cx := (hI.i8 X rfl).2
        have cx0 : W.cell? ⟨X, 0, none⟩ = some (.map none) := by rw [Lib.cell_of_heap cx]; rfl
        have cx1 : W.cell? ⟨X, 1, none⟩ = some (.slice none 0 0) := by rw [Lib.cell_of_heap cx]; rfl
        have fx0 : W.frozen? ⟨X, 0, none⟩ = false := Lib.frozen_of_heap cx 0
        have fx1 : W.frozen? ⟨X, 1, none⟩ = false := Lib.frozen_of_heap cx 1
        refine wpOp_one (by rfl) (by rfl) (fun K hK => ?_)
        go_simp
        refine hK.out _ _ ⟨trivial, wpAnyH_done (by kernel_rfl) ⟨rfl, G, cap, b, H, X, rfl, hI.fin⟩ _⟩
    · refine wpOp_one (by rfl) (by rfl) (fun K hK => ?_)
      have hI2 := hI.s8
      go_simp
      refine hK.out _ _ ⟨trivial, ?_⟩
      clear hK K
      simp only [List.getElem_toArray, List.getElem_cons_zero, List.getElem_cons_succ, Act.put, List.setIfInBounds_toArray, List.set_cons_zero, List.set_cons_succ]
      generalize W.alloc (.cells #[.map none, .slice none 0 0] 105) = W2 at hI2 ⊢
      generalize W.heap.size = X at hI2 ⊢
      clear hI W
      rename World => W
      have hI := hI2
      clear hI2
      refine wpAnyH_all (rs := [3, 6]) (by kernel_rfl) (by simp) ?_
      intro i hi
      simp only [List.mem_cons, List.not_mem_nil, or_false] at hi
      rcases hi with rfl | rfl
      · refine wpOp_one (by rfl) (by rfl) (fun K hK => ?_)
        obtain ⟨G, hX⟩ : ∃ X, W.heap.size = X := ⟨_, rfl⟩
        obtain ⟨cap, hcap⟩ : ∃ c, grownCap W nt 0 5 = c := ⟨_, rfl⟩
        have hcv := unhide HCV W
        rw [hX, hcap] at hcv
        have hI2 := hI.s3 (cap := cap) (fz := ((bytesRow (s.extract 0 nt) cap).size, (bytesRow (s.extract 0 nt) cap).size + 1))
        rw [hX] at hI2
        generalize W.drew.alloc (.cells (bytesRow (s.extract 0 nt) cap) 5 ((bytesRow (s.extract 0 nt) cap).size, (bytesRow (s.extract 0 nt) cap).size + 1)) = W2 at hI2 hcv
        go_simp
        refine hK.out _ _ ⟨trivial, ?_⟩
        clear hK K hcv hX hcap hI W
        rename World => W
        have hI := hI2
        clear hI2
        simp only [List.getElem_toArray, List.getElem_cons_zero, List.getElem_cons_succ, Act.put, List.setIfInBounds_toArray, List.set_cons_zero, List.set_cons_succ]
        refine wpAnyH_all (rs := [4, 6]) (by kernel_rfl) (by simp) ?_
        intro i hi
        simp only [List.mem_cons, List.not_mem_nil, or_false] at hi
        rcases hi with rfl | rfl
        · refine wpOp_one (by rfl) (by rfl) (fun K hK => ?_)
          go_simp
          refine (unhide HTG W G cap (hI.i3 G rfl).2).mono ?_
          rintro e W2 ⟨b, rfl, hb1, hb2, hb3⟩
          have hI2 := hI.s4 hb2 hb1 hb3
          refine hK.out _ _ ⟨trivial, ?_⟩
          clear hK K hb1 hb2 hb3 hI W
          rename World => W
          have hI := hI2
          clear hI2
          simp only [List.getElem_toArray, List.getElem_cons_zero, List.getElem_cons_succ, Act.put, List.setIfInBounds_toArray, List.set_cons_zero, List.set_cons_succ]
          refine wpAnyH_all (rs := [6]) (by kernel_rfl) (by simp) ?_
          intro i hi
          simp only [List.mem_cons, List.not_mem_nil, or_false] at hi
          subst hi
          refine wpOp_one (by rfl) (by rfl) (fun K hK => ?_)
          have hI2 := hI.s6
          have hmk := unhide HMK W
          go_simp
          refine hK.out _ _ ⟨trivial, ?_⟩
          clear hK K
          simp only [List.getElem_toArray, List.getElem_cons_zero, List.getElem_cons_succ, Act.put, List.setIfInBounds_toArray, List.set_cons_zero, List.set_cons_succ]
          generalize W.alloc (.cells (madeCells #[.bool false] nc) 4) = W2 at hI2 ⊢
          clear hmk
          generalize W.heap.size = H at hI2 ⊢
          clear hI W
          rename World => W
          have hI := hI2
          clear hI2
          refine wpAnyH_all (rs := [7]) (by kernel_rfl) (by simp) ?_
          intro i hi
          simp only [List.mem_cons, List.not_mem_nil, or_false] at hi
          subst hi
          refine wpOp_one (by rfl) (by rfl) (fun K hK => ?_)
          go_simp
          refine hK.out _ _ ⟨trivial, ?_⟩
          clear hK K
          simp only [List.getElem_toArray, List.getElem_cons_zero, List.getElem_cons_succ, Act.put, List.setIfInBounds_toArray, List.set_cons_zero, List.set_cons_succ]
          refine wpAnyH_all (rs := [9]) (by kernel_rfl) (by simp) ?_
          intro i hi
          simp only [List.mem_cons, List.not_mem_nil, or_false] at hi
          subst hi
          have cx := (hI.i8 X rfl).2
          have cx0 : W.cell? ⟨X, 0, none⟩ = some (.map none) := by rw [Lib.cell_of_heap cx]; rfl
          have cx1 : W.cell? ⟨X, 1, none⟩ = some (.slice none 0 0) := by rw [Lib.cell_of_heap cx]; rfl
          have fx0 : W.frozen? ⟨X, 0, none⟩ = false := Lib.frozen_of_heap cx 0
          have fx1 : W.frozen? ⟨X, 1, none⟩ = false := Lib.frozen_of_heap cx 1
          refine wpOp_one (by rfl) (by rfl) (fun K hK => ?_)
          go_simp
          refine hK.out _ _ ⟨trivial, wpAnyH_done (by kernel_rfl) ⟨rfl, G, cap, b, H, X, rfl, hI.fin⟩ _⟩
        · refine wpOp_one (by rfl) (by rfl) (fun K hK => ?_)
          have hI2 := hI.s6
          have hmk := unhide HMK W
          go_simp
          refine hK.out _ _ ⟨trivial, ?_⟩
          clear hK K
          simp only [List.getElem_toArray, List.getElem_cons_zero, List.getElem_cons_succ, Act.put, List.setIfInBounds_toArray, List.set_cons_zero, List.set_cons_succ]
          generalize W.alloc (.cells (madeCells #[.bool false] nc) 4) = W2 at hI2 ⊢
          clear hmk
          generalize W.heap.size = H at hI2 ⊢
          clear hI W
          rename World => W
          have hI := hI2
          clear hI2
          refine wpAnyH_all (rs := [4]) (by kernel_rfl) (by simp) ?_
          intro i hi
          simp only [List.mem_cons, List.not_mem_nil, or_false] at hi
          subst hi
          refine wpOp_one (by rfl) (by rfl) (fun K hK => ?_)
          go_simp
          refine (unhide HTG W G cap (hI.i3 G rfl).2).mono ?_
          rintro e W2 ⟨b, rfl, hb1, hb2, hb3⟩
          have hI2 := hI.s4 hb2 hb1 hb3
          refine hK.out _ _ ⟨trivial, ?_⟩
          clear hK K hb1 hb2 hb3 hI W
          rename World => W
          have hI := hI2
          clear hI2
          simp only [List.getElem_toArray, List.getElem_cons_zero, List.getElem_cons_succ, Act.put, List.setIfInBounds_toArray, List.set_cons_zero, List.set_cons_succ]
          refine wpAnyH_all (rs := [7]) (by kernel_rfl) (by simp) ?_
          intro i hi
          simp only [List.mem_cons, List.not_mem_nil, or_false] at hi
          subst hi
          refine wpOp_one (by rfl) (by rfl) (fun K hK => ?_)
          go_simp
          refine hK.out _ _ ⟨trivial, ?_⟩
          clear hK K
          simp only [List.getElem_toArray, List.getElem_cons_zero, List.getElem_cons_succ, Act.put, List.setIfInBounds_toArray, List.set_cons_zero, List.set_cons_succ]
          refine wpAnyH_all (rs := [9]) (by kernel_rfl) (by simp) ?_
          intro i hi
          simp only [List.mem_cons, List.not_mem_nil, or_false] at hi
          subst hi
          have cx := (hI.i8 X rfl).2
          have cx0 : W.cell? ⟨X, 0, none⟩ = some (.map none) := by rw [Lib.cell_of_heap cx]; rfl
          have cx1 : W.cell? ⟨X, 1, none⟩ = some (.slice none 0 0) := by rw [Lib.cell_of_heap cx]; rfl
          have fx0 : W.frozen? ⟨X, 0, none⟩ = false := Lib.frozen_of_heap cx 0
          have fx1 : W.frozen? ⟨X, 1, none⟩ = false := Lib.frozen_of_heap cx 1
          refine wpOp_one (by rfl) (by rfl) (fun K hK => ?_)
          go_simp
          refine hK.out _ _ ⟨trivial, wpAnyH_done (by kernel_rfl) ⟨rfl, G, cap, b, H, X, rfl, hI.fin⟩ _⟩
      · refine wpOp_one (by rfl) (by rfl) (fun K hK => ?_)
        have hI2 := hI.s6
        have hmk := unhide HMK W
        go_simp
        refine hK.out _ _ ⟨trivial, ?_⟩
        clear hK K
        simp only [List.getElem_toArray, List.getElem_cons_zero, List.getElem_cons_succ, Act.put, List.setIfInBounds_toArray, List.set_cons_zero, List.set_cons_succ]
        generalize W.alloc (.cells (madeCells #[.bool false] nc) 4) = W2 at hI2 ⊢
        clear hmk
        generalize W.heap.size = H at hI2 ⊢
        clear hI W
        rename World => W
        have hI := hI2
        clear hI2
        refine wpAnyH_all (rs := [3]) (by kernel_rfl) (by simp) ?_
        intro i hi
        simp only [List.mem_cons, List.not_mem_nil, or_false] at hi
        subst hi
        refine wpOp_one (by rfl) (by rfl) (fun K hK => ?_)
        obtain ⟨G, hX⟩ : ∃ X, W.heap.size = X := ⟨_, rfl⟩
        obtain ⟨cap, hcap⟩ : ∃ c, grownCap W nt 0 5 = c := ⟨_, rfl⟩
        have hcv := unhide HCV W
        rw [hX, hcap] at hcv
        have hI2 := hI.s3 (cap := cap) (fz := ((bytesRow (s.extract 0 nt) cap).size, (bytesRow (s.extract 0 nt) cap).size + 1))
        rw [hX] at hI2
        generalize W.drew.alloc (.cells (bytesRow (s.extract 0 nt) cap) 5 ((bytesRow (s.extract 0 nt) cap).size, (bytesRow (s.extract 0 nt) cap).size + 1)) = W2 at hI2 hcv
        go_simp
        refine hK.out _ _ ⟨trivial, ?_⟩
        clear hK K hcv hX hcap hI W
        rename World => W
        have hI := hI2
        clear hI2
        simp only [List.getElem_toArray, List.getElem_cons_zero, List.getElem_cons_succ, Act.put, List.setIfInBounds_toArray, List.set_cons_zero, List.set_cons_succ]
        refine wpAnyH_all (rs := [4]) (by kernel_rfl) (by simp) ?_
        intro i hi
        simp only [List.mem_cons, List.not_mem_nil, or_false] at hi
        subst hi
        refine wpOp_one (by rfl) (by rfl) (fun K hK => ?_)
        go_simp
        refine (unhide HTG W G cap (hI.i3 G rfl).2).mono ?_
        rintro e W2 ⟨b, rfl, hb1, hb2, hb3⟩
        have hI2 := hI.s4 hb2 hb1 hb3
        refine hK.out _ _ ⟨trivial, ?_⟩
        clear hK K hb1 hb2 hb3 hI W
        rename World => W
        have hI := hI2
        clear hI2
        simp only [List.getElem_toArray, List.getElem_cons_zero, List.getElem_cons_succ, Act.put, List.setIfInBounds_toArray, List.set_cons_zero, List.set_cons_succ]
        refine wpAnyH_all (rs := [7]) (by kernel_rfl) (by simp) ?_
        intro i hi
        simp only [List.mem_cons, List.not_mem_nil, or_false] at hi
        subst hi
        refine wpOp_one (by rfl) (by rfl) (fun K hK => ?_)
        go_simp
        refine hK.out _ _ ⟨trivial, ?_⟩
        clear hK K
        simp only [List.getElem_toArray, List.getElem_cons_zero, List.getElem_cons_succ, Act.put, List.setIfInBounds_toArray, List.set_cons_zero, List.set_cons_succ]
        refine wpAnyH_all (rs := [9]) (by kernel_rfl) (by simp) ?_
        intro i hi
        simp only [List.mem_cons, List.not_mem_nil, or_false] at hi
        subst hi
        have cx := (hI.i8 X rfl).2
        have cx0 : W.cell? ⟨X, 0, none⟩ = some (.map none) := by rw [Lib.cell_of_heap cx]; rfl
        have cx1 : W.cell? ⟨X, 1, none⟩ = some (.slice none 0 0) := by rw [Lib.cell_of_heap cx]; rfl
        have fx0 : W.frozen? ⟨X, 0, none⟩ = false := Lib.frozen_of_heap cx 0
        have fx1 : W.frozen? ⟨X, 1, none⟩ = false := Lib.frozen_of_heap cx 1
        refine wpOp_one (by rfl) (by rfl) (fun K hK => ?_)
        go_simp
        refine hK.out _ _ ⟨trivial, wpAnyH_done (by kernel_rfl) ⟨rfl, G, cap, b, H, X, rfl, hI.fin⟩ _⟩
  · rintro e a W ⟨rfl, G, cap, b, H, X, rfl, hL⟩
    dsimp only
    have hx0 : W.cell? ⟨X, 0, none⟩ = some (.map (some b)) := by rw [Lib.cell_of_heap hL.x]; rfl
    have hx1 : W.cell? ⟨X, 1, none⟩ = some (.slice (some ⟨H, 0, none⟩) nc nc) := by rw [Lib.cell_of_heap hL.x]; rfl
    have HL := hide hL
    clear hL
    have h50 : L5 w0.drew (s.extract 0 nt).data.toList nc b H X 0 (fun c => s.data.toList.getD (nt + 1 + c) 0 == 49) W := (unhide HL).five _
    go_wp2_with fail
    go_loopw [35] (fun i wr => ∃ k : Nat, k ≤ nc ∧ i = .int .i64 k ∧ L5 w0.drew (s.extract 0 nt).data.toList nc b H X k (fun c => s.data.toList.getD (nt + 1 + c) 0 == 49) wr) (fun i _ => nc - (intOf i).toNat)
    case atStart => exact ⟨0, Nat.zero_le _, rfl, h50⟩
    case round =>
      obtain ⟨k, hk, rfl, h5⟩ := hrel
      by_cases hlt : k < nc
      · have hbd : (k : Int) < (nc : Int) := by omega
        have hsz : nt + 1 + k < s.size := by omega
        obtain ⟨bt, hbt⟩ : ∃ bt : UInt8, s.data.toList.getD (nt + 1 + k) 0 = bt := ⟨_, rfl⟩
        have HBY : Hid (∀ W : World, (Instr.index 9 (.string s) (.int .i64 ((nt : Int) + 1 + (k : Int)))).run Tryz.prog W = .ok (.int .u8 (bt.toNat : Int)) W) := fun W => by
          have hcast : ((nt : Int) + 1 + (k : Int)) = ((nt + 1 + k : Nat) : Int) := by omega
          rw [hcast, run_index_string (P := Tryz.prog) _ _ _ _ _ Tryz.underlying9, dif_pos ⟨by omega, by omega⟩, ← hbt]
          have hget : s[nt + 1 + k] = s.data.toList.getD (nt + 1 + k) 0 := by
            have h1 : nt + 1 + k < s.data.toList.length := by simpa using hsz
            rw [List.getD_eq_getElem?_getD, List.getElem?_eq_getElem h1]
            simp [ByteArray.getElem_eq_getElem_data]
          rw [← hget]
          rfl
        have hw1 : IntKind.i64.wrap ((nt : Int) + 1) = (nt : Int) + 1 := wrap_small (by omega) (by omega)
        have hw2 : IntKind.i64.wrap ((nt : Int) + 1 + (k : Int)) = (nt : Int) + 1 + (k : Int) := wrap_small (by omega) (by omega)
        have HBT := hide hbt
        clear hbt
        have hcell := h5.c k hlt
        have hfz := h5.fz k
        have hX1 := h5.x1
        have H5 := hide h5
        clear h5
        go_wp2_with fail
        have hS0 : wr.drew.cell? ⟨X, 1, none⟩ = some (.slice (some ⟨H, 0, none⟩) nc nc) := hX1
        refine wp_region_held (S := fun W' => W'.cell? ⟨X, 1, none⟩ = some (.slice (some ⟨H, 0, none⟩) nc nc)) rfl ?_
        simp only [List.size_toArray, List.length_cons, List.length_nil, Nat.reduceAdd, Array.replicate_succ, Array.replicate_zero, List.push_toArray, List.nil_append, List.cons_append]
        change wpAnyH Tryz.prog .any _ _ _ _ _ _ wr.drew
        refine wpAnyH_take (i := 0) (v := .pointer (some ⟨X, 1, none⟩)) rfl (by kernel_rfl) (by kernel_rfl) (by kernel_rfl) (fun _ _ _ h => h) (Or.inl ⟨by rfl, fun w' hS => ?_⟩) hS0 ?_
        · go_simp
        simp only [List.getElem_toArray, List.getElem_cons_zero, List.getElem_cons_succ, Act.put, List.setIfInBounds_toArray, List.set_cons_zero, List.set_cons_succ]
        refine wpAnyH_take (i := 1) (v := .slice (some ⟨H, 0, none⟩) nc nc) rfl (by kernel_rfl) (by kernel_rfl) (by kernel_rfl) (fun _ _ _ h => h) (Or.inl ⟨by rfl, fun w' hS => ?_⟩) hS0 ?_
        · go_simp
        simp only [List.getElem_toArray, List.getElem_cons_zero, List.getElem_cons_succ, Act.put, List.setIfInBounds_toArray, List.set_cons_zero, List.set_cons_succ]
        refine wpAnyH_take (i := 2) (v := .int .i64 k) rfl (by kernel_rfl) (by kernel_rfl) (by kernel_rfl) (fun _ _ _ h => h) (Or.inl ⟨by rfl, fun w' hS => ?_⟩) hS0 ?_
        · go_simp
        simp only [List.getElem_toArray, List.getElem_cons_zero, List.getElem_cons_succ, Act.put, List.setIfInBounds_toArray, List.set_cons_zero, List.set_cons_succ]
        refine wpAnyH_take (i := 3) (v := .string s) rfl (by kernel_rfl) (by kernel_rfl) (by kernel_rfl) (fun _ _ _ h => h) (Or.inl ⟨by rfl, fun w' hS => ?_⟩) hS0 ?_
        · go_simp
        simp only [List.getElem_toArray, List.getElem_cons_zero, List.getElem_cons_succ, Act.put, List.setIfInBounds_toArray, List.set_cons_zero, List.set_cons_succ]
        refine wpAnyH_take (i := 4) (v := .int .i64 nt) rfl (by kernel_rfl) (by kernel_rfl) (by kernel_rfl) (fun _ _ _ h => h) (Or.inl ⟨by rfl, fun w' hS => ?_⟩) hS0 ?_
        · go_simp
        simp only [List.getElem_toArray, List.getElem_cons_zero, List.getElem_cons_succ, Act.put, List.setIfInBounds_toArray, List.set_cons_zero, List.set_cons_succ]
        refine wpAnyH_take (i := 5) (v := .int .i64 ((nt : Int) + 1)) rfl (by kernel_rfl) (by kernel_rfl) (by kernel_rfl) (fun _ _ _ h => h) (Or.inl ⟨by rfl, fun w' hS => ?_⟩) hS0 ?_
        · go_simp
        simp only [List.getElem_toArray, List.getElem_cons_zero, List.getElem_cons_succ, Act.put, List.setIfInBounds_toArray, List.set_cons_zero, List.set_cons_succ]
        refine wpAnyH_take (i := 6) (v := .int .i64 k) rfl (by kernel_rfl) (by kernel_rfl) (by kernel_rfl) (fun _ _ _ h => h) (Or.inl ⟨by rfl, fun w' hS => ?_⟩) hS0 ?_
        · go_simp
        simp only [List.getElem_toArray, List.getElem_cons_zero, List.getElem_cons_succ, Act.put, List.setIfInBounds_toArray, List.set_cons_zero, List.set_cons_succ]
        refine wpAnyH_take (i := 7) (v := .int .i64 ((nt : Int) + 1 + (k : Int))) rfl (by kernel_rfl) (by kernel_rfl) (by kernel_rfl) (fun _ _ _ h => h) (Or.inl ⟨by rfl, fun w' hS => ?_⟩) hS0 ?_
        · go_simp
        simp only [List.getElem_toArray, List.getElem_cons_zero, List.getElem_cons_succ, Act.put, List.setIfInBounds_toArray, List.set_cons_zero, List.set_cons_succ]
        refine wpAnyH_take (i := 8) (v := .int .u8 (bt.toNat : Int)) rfl (by kernel_rfl) (by kernel_rfl) (by kernel_rfl) (fun _ _ _ h => h) (Or.inl ⟨by rfl, fun w' hS => ?_⟩) hS0 ?_
        · have hb := unhide HBY w'
          go_simp
        simp only [List.getElem_toArray, List.getElem_cons_zero, List.getElem_cons_succ, Act.put, List.setIfInBounds_toArray, List.set_cons_zero, List.set_cons_succ]
        refine wpAnyH_take (i := 9) (v := .bool (bt == 49)) rfl (by kernel_rfl) (by kernel_rfl) (by kernel_rfl) (fun _ _ _ h => h) (Or.inl ⟨by rfl, fun w' hS => ?_⟩) hS0 ?_
        · go_simp
          exact u49_eq bt
        simp only [List.getElem_toArray, List.getElem_cons_zero, List.getElem_cons_succ, Act.put, List.setIfInBounds_toArray, List.set_cons_zero, List.set_cons_succ]
        refine wpAnyH_one (i := 10) (by kernel_rfl) rfl (by rfl) (fun K hK => ?_)
        go_simp
        refine hK.out _ _ hS0 ?_
        clear hK K
        simp only [List.getElem_toArray, List.getElem_cons_zero, List.getElem_cons_succ, Act.put, List.setIfInBounds_toArray, List.set_cons_zero, List.set_cons_succ]
        have hcd : wr.drew.cell? ⟨H, k, none⟩ = some (.bool (decide (k < k) && (s.data.toList.getD (nt + 1 + k) 0 == 49))) := hcell
        have hfd : wr.drew.frozen? ⟨H, k, none⟩ = false := hfz
        have hx6 := (unhide H5).next (v := (bt == 49)) hlt (by show (s.data.toList.getD (nt + 1 + k) 0 == 49) = (bt == 49); rw [unhide HBT])
        refine wpAnyH_one (i := 11) (by kernel_rfl) rfl (by rfl) (fun K hK => ?_)
        go_simp
        refine hK.out _ _ hx6.x1 (wpAnyH_done (by kernel_rfl) ?_ _)
        clear hK K
        go_wp2_with fail
        exact ⟨⟨k + 1, hlt, by go_num, hx6⟩, by simp [intOf]; omega⟩
      · have hkk : k = nc := by omega
        subst hkk
        have hbd : ¬ (k : Int) < (k : Int) := by omega
        have H5 := hide h5
        clear h5
        have hbw := (unhide H5).below
        have hsz0 : w0.drew.heap.size = w.heap.size + 2 := hz0
        have cw : ∀ (n i : Nat), n < w.heap.size + 2 → wr.cell? ⟨n, i, none⟩ = w0.cell? ⟨n, i, none⟩ := fun n i hn => hbw.cell (p := ⟨n, i, none⟩) (by show n < _; omega)
        have p0 := (cw w.heap.size 0 (by omega)).trans hk0
        have p1 := (cw w.heap.size 1 (by omega)).trans hk1
        have p2 := (cw w.heap.size 2 (by omega)).trans hk2
        have p3 := (cw (w.heap.size + 1) 0 (by omega)).trans hr0
        have p4 := (cw (w.heap.size + 1) 1 (by omega)).trans hr1
        have p5 : wr.frozen? ⟨w.heap.size + 1, 0, none⟩ = false := (hbw.frozen (p := ⟨w.heap.size + 1, 0, none⟩) (by show w.heap.size + 1 < _; omega)).trans hq0
        have p6 : wr.frozen? ⟨w.heap.size + 1, 1, none⟩ = false := (hbw.frozen (p := ⟨w.heap.size + 1, 1, none⟩) (by show w.heap.size + 1 < _; omega)).trans hq1
        have hlX := (unhide H5).lx
        have hlb := (unhide H5).lb
        have hlh := (unhide H5).lh
        have hklen : (s.extract 0 nt).data.toList.length = nt := by simpa using unhide HTS
        have hhl : hlo s nt k = (List.range k).map (fun c => s.data.toList.getD (nt + 1 + c) 0 == 49) := rfl
        have hrows : RowsH wr H (hlo s nt k) := (unhide H5).rows
        have hhlen : (hlo s nt k).length = k := by simp [hlo]
        have hm : CMap wr b (fi (s.data.toList.take nt)) nt 100 := by
          have h := (unhide H5).m
          rw [hklen, unhide HTK] at h
          exact h
        have hff : ∀ i, i < nt → fi (s.data.toList.take nt) i ≤ i ∧ fi (s.data.toList.take nt) (fi (s.data.toList.take nt) i) = fi (s.data.toList.take nt) i := fun i hi => by
          have hl2 : i < (s.data.toList.take nt).length := by rw [← unhide HTK, hklen]; exact hi
          exact ⟨fi_le _ i hl2, fi_fi _ i hl2⟩
        have hwr := written_any GT GC GP nt k np b 100 H (fi (s.data.toList.take nt)) (hlo s nt k) wr.drew h7 (by omega) hff (hm.kept rfl) (hrows.same rfl)
        rw [hhlen] at hwr
        unfold fv sv at hwr
        have HWR := hide hwr
        have HM := hide hm
        have HR := hide hrows
        have HBW := hide hbw
        have hx0 := (unhide H5).x0
        have hx1 := (unhide H5).x1
        have hlM := hm.lt
        have hlR := hrows.1
        have hlXw : X < wr.heap.size := World.block_lt_of_cell? wr _ hx0
        have hsw : w.heap.size + 2 ≤ wr.heap.size := by have := hbw.size; omega
        clear hwr hm hrows hbw cw hff hhl hhlen
        generalize hwt : wrt (fi (s.data.toList.take nt)) nt (hlo s nt k) = wt at HWR
        have HWT := hide hwt
        clear hwt
        go_wp2_with fail
        have hS0 : wr.drew.cell? ⟨X, 0, none⟩ = some (.map (some b)) ∧ wr.drew.cell? ⟨X, 1, none⟩ = some (.slice (some ⟨H, 0, none⟩) k k) ∧ wr.drew.cell? ⟨w.heap.size, 0, none⟩ = some (.slice (some ⟨GT, 0, none⟩) nt nt) ∧ wr.drew.cell? ⟨w.heap.size, 1, none⟩ = some (.slice (some ⟨GC, 0, none⟩) k k) ∧ wr.drew.cell? ⟨w.heap.size, 2, none⟩ = some (.slice (some ⟨GP, 0, none⟩) np np) := ⟨hx0, hx1, p0, p1, p2⟩
        refine wp_region_held (S := fun W' => W'.cell? ⟨X, 0, none⟩ = some (.map (some b)) ∧ W'.cell? ⟨X, 1, none⟩ = some (.slice (some ⟨H, 0, none⟩) k k) ∧ W'.cell? ⟨w.heap.size, 0, none⟩ = some (.slice (some ⟨GT, 0, none⟩) nt nt) ∧ W'.cell? ⟨w.heap.size, 1, none⟩ = some (.slice (some ⟨GC, 0, none⟩) k k) ∧ W'.cell? ⟨w.heap.size, 2, none⟩ = some (.slice (some ⟨GP, 0, none⟩) np np)) rfl ?_
        simp only [List.size_toArray, List.length_cons, List.length_nil, Nat.reduceAdd, Array.replicate_succ, Array.replicate_zero, List.push_toArray, List.nil_append, List.cons_append]
        change wpAnyH Tryz.prog .any _ _ _ _ _ _ wr.drew
        refine wpAnyH_take (i := 0) (v := .agg #[.map (some b), .slice (some ⟨H, 0, none⟩) k k]) rfl (by kernel_rfl) (by kernel_rfl) (by kernel_rfl) (fun _ _ _ h => h) (Or.inl ⟨by rfl, fun w' hS => ?_⟩) hS0 ?_
        · obtain ⟨s1, s2, s3, s4, s5⟩ := hS
          go_simp
        simp only [List.getElem_toArray, List.getElem_cons_zero, List.getElem_cons_succ, Act.put, List.setIfInBounds_toArray, List.set_cons_zero, List.set_cons_succ]
        refine wpAnyH_take (i := 1) (v := .agg #[.slice (some ⟨GT, 0, none⟩) nt nt, .slice (some ⟨GC, 0, none⟩) k k, .slice (some ⟨GP, 0, none⟩) np np]) rfl (by kernel_rfl) (by kernel_rfl) (by kernel_rfl) (fun _ _ _ h => h) (Or.inl ⟨by rfl, fun w' hS => ?_⟩) hS0 ?_
        · obtain ⟨s1, s2, s3, s4, s5⟩ := hS
          go_simp
        simp only [List.getElem_toArray, List.getElem_cons_zero, List.getElem_cons_succ, Act.put, List.setIfInBounds_toArray, List.set_cons_zero, List.set_cons_succ]
        refine wpAnyH_take (i := 2) (v := .agg #[.map (some b), .slice (some ⟨H, 0, none⟩) k k]) rfl (by kernel_rfl) (by kernel_rfl) (by kernel_rfl) (fun _ _ _ h => h) (Or.inl ⟨by rfl, fun w' hS => ?_⟩) hS0 ?_
        · obtain ⟨s1, s2, s3, s4, s5⟩ := hS
          go_simp
        simp only [List.getElem_toArray, List.getElem_cons_zero, List.getElem_cons_succ, Act.put, List.setIfInBounds_toArray, List.set_cons_zero, List.set_cons_succ]
        refine wpAnyH_take (i := 4) (v := .string s) rfl (by kernel_rfl) (by kernel_rfl) (by kernel_rfl) (fun _ _ _ h => h) (Or.inl ⟨by rfl, fun w' hS => ?_⟩) hS0 ?_
        · obtain ⟨s1, s2, s3, s4, s5⟩ := hS
          go_simp
        simp only [List.getElem_toArray, List.getElem_cons_zero, List.getElem_cons_succ, Act.put, List.setIfInBounds_toArray, List.set_cons_zero, List.set_cons_succ]
        have hSt : Hid (∀ W' : World, Below wr.drew.heap.size wr.drew W' → W'.cell? ⟨X, 0, none⟩ = some (.map (some b)) ∧ W'.cell? ⟨X, 1, none⟩ = some (.slice (some ⟨H, 0, none⟩) k k) ∧ W'.cell? ⟨w.heap.size, 0, none⟩ = some (.slice (some ⟨GT, 0, none⟩) nt nt) ∧ W'.cell? ⟨w.heap.size, 1, none⟩ = some (.slice (some ⟨GC, 0, none⟩) k k) ∧ W'.cell? ⟨w.heap.size, 2, none⟩ = some (.slice (some ⟨GP, 0, none⟩) np np)) := fun W' h => ⟨(h.cell (p := ⟨X, 0, none⟩) hlXw).trans hx0, (h.cell (p := ⟨X, 1, none⟩) hlXw).trans hx1, (h.cell (p := ⟨w.heap.size, 0, none⟩) (by show w.heap.size < wr.heap.size; omega)).trans p0, (h.cell (p := ⟨w.heap.size, 1, none⟩) (by show w.heap.size < wr.heap.size; omega)).trans p1, (h.cell (p := ⟨w.heap.size, 2, none⟩) (by show w.heap.size < wr.heap.size; omega)).trans p2⟩
        refine wpAnyH_one (i := 3) (by kernel_rfl) rfl (by rfl) (fun K hK => ?_)
        go_simp
        refine (unhide HWR).mono ?_
        rintro e w3 ⟨rfl, hb3⟩
        have hS3 := unhide hSt _ hb3
        refine hK.out _ _ hS3 ?_
        clear hK K hS0
        simp only [List.getElem_toArray, List.getElem_cons_zero, List.getElem_cons_succ, Act.put, List.setIfInBounds_toArray, List.set_cons_zero, List.set_cons_succ]
        refine wpAnyH_take (i := 5) (v := .bool (decide (wt = s.data.toList))) rfl (by kernel_rfl) (by kernel_rfl) (by kernel_rfl) (fun _ _ _ h => h) (Or.inl ⟨by rfl, fun w' hS => ?_⟩) hS3 ?_
        · obtain ⟨s1, s2, s3, s4, s5⟩ := hS
          go_simp
          exact bytes_eq wt s
        simp only [List.getElem_toArray, List.getElem_cons_zero, List.getElem_cons_succ, Act.put, List.setIfInBounds_toArray, List.set_cons_zero, List.set_cons_succ]
        have p3b : w3.cell? ⟨w.heap.size + 1, 0, none⟩ = some (.map none) := (hb3.cell (p := ⟨w.heap.size + 1, 0, none⟩) (by show w.heap.size + 1 < wr.heap.size; omega)).trans p3
        have p4b : w3.cell? ⟨w.heap.size + 1, 1, none⟩ = some (.slice none 0 0) := (hb3.cell (p := ⟨w.heap.size + 1, 1, none⟩) (by show w.heap.size + 1 < wr.heap.size; omega)).trans p4
        have p5b : w3.frozen? ⟨w.heap.size + 1, 0, none⟩ = false := (hb3.frozen (p := ⟨w.heap.size + 1, 0, none⟩) (by show w.heap.size + 1 < wr.heap.size; omega)).trans p5
        have p6b : w3.frozen? ⟨w.heap.size + 1, 1, none⟩ = false := (hb3.frozen (p := ⟨w.heap.size + 1, 1, none⟩) (by show w.heap.size + 1 < wr.heap.size; omega)).trans p6
        have hx10 : X ≠ w.heap.size + 1 := by omega
        obtain ⟨wz, hwz⟩ : ∃ wz, (w3.setCell ⟨w.heap.size + 1, 0, none⟩ (.map (some b))).setCell ⟨w.heap.size + 1, 1, none⟩ (.slice (some ⟨H, 0, none⟩) k k) = wz := ⟨_, rfl⟩
        have z0 : wz.cell? ⟨w.heap.size + 1, 0, none⟩ = some (.map (some b)) := by
          rw [← hwz, cell_other' (by simp)]
          exact cell_same _ p3b
        have z1 : wz.cell? ⟨w.heap.size + 1, 1, none⟩ = some (.slice (some ⟨H, 0, none⟩) k k) := by
          rw [← hwz]
          exact cell_same _ ((cell_other' (by simp)).trans p4b)
        have zk : ∀ j, j ≠ w.heap.size + 1 → wz.heap[j]? = w3.heap[j]? := fun j hj => by rw [← hwz]; exact (Below.heap_setCell _ _ _ _ hj).trans (Below.heap_setCell _ _ _ _ hj)
        have zw : ∀ j, j < wr.heap.size → j ≠ w.heap.size + 1 → wz.heap[j]? = wr.heap[j]? := fun j h1 h2 => (zk j h2).trans (hb3.block j h1)
        have zb : Below w.heap.size w wz := by
          have h1 : Below w.heap.size w wr := hb0.trans ⟨(unhide HBW).os, (unhide HBW).tape, (unhide HBW).output, (unhide HBW).size, fun j hj => (unhide HBW).block j (by omega)⟩
          have h2 : Below w.heap.size wr w3 := ⟨hb3.os, hb3.tape, hb3.output, hb3.size, fun j hj => hb3.block j (by show j < wr.heap.size; omega)⟩
          rw [← hwz]
          exact ((h1.trans h2).setCell (p := ⟨w.heap.size + 1, 0, none⟩) (by show w.heap.size ≤ w.heap.size + 1; omega) _).setCell (p := ⟨w.heap.size + 1, 1, none⟩) (by show w.heap.size ≤ w.heap.size + 1; omega) _
        have zm := (unhide HM).kept (zw b hlM (by omega))
        have zh := (unhide HR).same (zw H hlR (by omega))
        have hS6 : wz.cell? ⟨X, 0, none⟩ = some (.map (some b)) ∧ wz.cell? ⟨X, 1, none⟩ = some (.slice (some ⟨H, 0, none⟩) k k) ∧ wz.cell? ⟨w.heap.size, 0, none⟩ = some (.slice (some ⟨GT, 0, none⟩) nt nt) ∧ wz.cell? ⟨w.heap.size, 1, none⟩ = some (.slice (some ⟨GC, 0, none⟩) k k) ∧ wz.cell? ⟨w.heap.size, 2, none⟩ = some (.slice (some ⟨GP, 0, none⟩) np np) := ⟨(World.cell?_of_block (zw X hlXw hx10)).trans hx0, (World.cell?_of_block (zw X hlXw hx10)).trans hx1, (World.cell?_of_block (zw w.heap.size (by omega) (by omega))).trans p0, (World.cell?_of_block (zw w.heap.size (by omega) (by omega))).trans p1, (World.cell?_of_block (zw w.heap.size (by omega) (by omega))).trans p2⟩
        have HZM := hide zm
        have HZH := hide zh
        have HZB := hide zb
        clear zm zh zb zk zw
        refine wpAnyH_one (i := 6) (by kernel_rfl) rfl (by rfl) (fun K hK => ?_)
        go_simp
        refine hK.out _ _ hS6 ?_
        clear hK K
        simp only [List.getElem_toArray, List.getElem_cons_zero, List.getElem_cons_succ, Act.put, List.setIfInBounds_toArray, List.set_cons_zero, List.set_cons_succ]
        refine wpAnyH_one (i := 7) (by kernel_rfl) rfl (by rfl) (fun K hK => ?_)
        go_simp
        refine hK.out _ _ hS6 (wpAnyH_done (by kernel_rfl) ?_ _)
        clear hK K
        go_wp2_with fail
        exact bodyPost_ret (v := .tuple #[.agg #[.map (some b), .slice (some ⟨H, 0, none⟩) k k], .bool (decide (wt = s.data.toList))]) (by simp [results, Tryz.results54, go_sem, z0, z1]) rfl ⟨b, H, by rw [unhide HWT]; rfl, by omega, by omega, unhide HZM, unhide HZH, unhide HZB⟩

end Go.Proofs.YthcppbmkacbbiaaGreat
