import Derived.Test.YthcppbmkacbbiaaGreatLstGM
import Derived.OrdersHeld
import Derived.Deep.RegionHeldLaw
import Derived.Sort.Grow
import Derived.Test.YthcppbmkacbbiaaGreatLstSM
import Derived.Shelf.RegionOpen
import Derived.Stop.RegionWithIn
namespace Go.Proofs.YthcppbmkacbbiaaGreat
open Go.RowKit Go.Maps Go.WideMaps
open Rdg (Key put)

set_option maxRecDepth 100000 in
set_option maxHeartbeats 1000000 in
/-- What maps.Keys hands back goes through the keys, in some order. -/
theorem keyiP_giv (F : Fence) (n : Nat) (hf : F.fn 169) (hro : F.round = none) (hn : 1 ≤ n) (Bm BT : Nat) (ts : List Key) (w : World) (hnd : ts.Nodup)
    (hBm : w.cell? ⟨Bm, 0, none⟩ = some (.map (some BT))) (hM : MapIs w 93 BT kvT ts) (hv : ∀ x ∈ ts, ∃ l, keyOf Tryz.prog 93 (kvT x) = some l) :
    SeqGiv F n Tryz.prog 169 #[.pointer (some ⟨Bm, 0, none⟩)] (fun i : Fin ts.length => #[kvT ts[i]]) (fun ss => ss.Perm (List.finRange ts.length)) ts.length KeepsWalks w := by
  intro l J W hW hJ hY h0
  have hBmW : W.cell? ⟨Bm, 0, none⟩ = some (.map (some BT)) := (hW.cell (p := ⟨Bm, 0, none⟩) (World.block_lt_of_cell? w _ hBm)).trans hBm
  have hMW : MapIs W 93 BT kvT ts := hM.kept (hW.block BT hM.lt)
  obtain ⟨D, hown, hsz, hall, hback⟩ := hMW
  obtain ⟨w2, hrg, rg, hg2, hs2⟩ := hown.range lawP Tryz.underlying79
  have HALL := hide hall
  have HBACK := hide hback
  have HSZ := hide hsz
  have HM := hide hM
  have HS2 := hide hs2
  clear hall hback hsz hM hs2
  refine callsIn_of_wp Tryz.func169 rfl hf ?_ hro
  simp only [Tryz.ntmps169, List.size_toArray, List.length_cons, List.length_nil, Nat.reduceAdd, Nat.reduceSub, Array.replicate_succ, Array.replicate_zero, List.push_toArray, List.append_toArray, List.nil_append, List.cons_append]
  gi_wp2
  gi_loopw [3] (fun _ wr => ∃ left cnt, ∃ ss : List (Fin ts.length), wr.ranges Tryz.prog 93 (plainElem (H := Unit) Tryz.prog 3) BT W.heap.size ts.length D left cnt ∧ Hid (ss.length + cnt ≤ ts.length) ∧ Hid (Coll 93 kvT ts left ss) ∧ J ss wr) (fun _ wr => wr.rangeLeft BT W.heap.size)
  case atStart =>
    refine ⟨_, _, [], rg, ?_, ?_, hJ [] W w2 none h0 hg2 (fun r e => by cases e)⟩
    · have := unhide HSZ
      show ([] : List (Fin ts.length)).length + Maps.size D ≤ ts.length
      simp; omega
    · refine Coll.start fun i lt hk => ?_
      rw [(unhide HALL _ _ hk).1]
      simp
  case round =>
    obtain ⟨left, cnt, ss, hrgs, hlen, hcoll, hJs⟩ := hrel
    gi_wp2_with (gi_at_next; refine wpListIn_next_ranges _ rfl _ rfl 93 lawP (plainElem (H := Unit) Tryz.prog 3) mkT (Value.int .i64) (fun key kl h => keyP_inv h) (fun v y h => by obtain ⟨a, e, _⟩ := plainElem_int_inv Tryz.underlying3 h; exact ⟨a, e⟩) BT W.heap.size ts.length D left cnt rfl hrgs ?_ ?_)
    · intro hc0 hl0
      have hp := (unhide hcoll).perm hv hl0
      gi_wp2
      go_end0
      exact ⟨⟨_, rfl⟩, ss, hp, hJs⟩
    · intro x0 x1 x2 c kl y1 y2 w' cnt' hkey hlk hy hat hrg' hlt hgr hsz' hen
      obtain ⟨c', ec, ey, _⟩ := plainElem_int_inv Tryz.underlying3 hy
      have ec' : c = c' := by simpa using ec
      have ey' : y1 = .lit (.int .i64 c) := by rw [ec']; exact congrArg Prod.fst ey
      obtain ⟨t, ht, et, hct⟩ := entry_is lawP (unhide HALL) (unhide HBACK) hkey (c := c) (fun zd => by rw [hat zd, ey'])
      have hit := List.idxOf_lt_length_of_mem ht
      obtain ⟨i, hi⟩ : ∃ i : Fin ts.length, ts[i] = t := ⟨⟨ts.idxOf t, hit⟩, List.getElem_idxOf hit⟩
      rw [et] at hen hkey ⊢
      have HC2 := hide ((unhide hcoll).step lawP (fun _ _ => kvT_inj) hnd (i := i) (by rw [hi]; exact hkey) hlk)
      have hlen' : Hid ((ss ++ [i]).length + cnt' ≤ ts.length) := by
        have := unhide hlen
        show (ss ++ [i]).length + cnt' ≤ ts.length
        simp; omega
      have hyk := hY ss i
      rw [hi] at hyk
      have hlt2 : ss.length < ts.length := by have := unhide hlen; omega
      clear ec ec' ey ey' hy hat et hct hlk hit
      obtain ⟨tl, tf, tsd⟩ := t
      simp only [kvT] at hen hyk ⊢
      obtain ⟨fn, tmps, assign, body, hy, hR⟩ := hyk (w'.alloc (.cells #[.int .u8 tl, .int .i64 tf, .int .i64 tsd] 93)) (hJ ss w' _ none (hJ ss wr w' (some W.heap.size) hJs hgr (fun r e => by cases e; exact ⟨Nat.le_refl _, hrgs.iter_walk⟩)) (World.grownBy_alloc _ _ _) (fun r e => by cases e)) hlt2
      clear hyk hlt2
      have HS := hide hsz'
      clear hsz'
      gi_wp2
      refine hR.mono ?_
      rintro e W3 ⟨rfl, hJ3, hk3⟩
      have hrg3 := (hrg'.alloc (.cells #[.int .u8 tl, .int .i64 tf, .int .i64 tsd] 93)).of_walks hk3
      clear hy hR
      gi_wp2
      go_roundw
      case rel => exact ⟨_, cnt', _, hrg3, hlen', HC2, hJ3⟩
      case measure => rw [hrg3.left_eq, hrgs.left_eq]; exact hlt

end Go.Proofs.YthcppbmkacbbiaaGreat

namespace Go.Proofs.YthcppbmkacbbiaaGreat
open Go.RowKit Go.Maps Go.WideMaps
open Rdg (Key put)

attribute [local go_sem] Oper.semAt_some

/-- The cells of the keys with these numbers. -/
def flP (ts : List Key) (ss : List (Fin ts.length)) : List Value := ss.flatMap fun i => ecT ts[i]

theorem flP_append (ts : List Key) (ss : List (Fin ts.length)) (i : Fin ts.length) : flP ts (ss ++ [i]) = flP ts ss ++ ecT ts[i] := by simp [flP]

set_option linter.unusedSimpArgs false in
set_option maxRecDepth 100000 in
set_option maxHeartbeats 1000000 in
theorem apP_any (F : Fence) (n : Nat) (hf : F.fn 196) (hro : F.round = none) (hn : 2 ≤ n) (ts : List Key) (hl : ts.length ≤ 1000) (g : Nat) (lb : Array Value) (hFg : F.fn g) (eg : ∀ args w, (callFunc g args).run Tryz.prog w = .ok (.enter g args) w) (w : World) {Sp : List (Fin ts.length) → Prop}
    (hseq : SeqGiv F (n - 1) Tryz.prog g lb (fun i : Fin ts.length => #[kvT ts[i]]) Sp ts.length KeepsWalks w) :
    CallsIn F n Tryz.prog 196 #[.slice none 0 0, .func (.func g) #[] lb] w fun e w' => ∃ v ss, e = .returned v ∧ Sp ss ∧ w'.ownsRow w.heap.size 93 3 v ss.length (flP ts ss) ∧ (v = .slice none 0 0 ↔ ss = []) ∧ Below w.heap.size w w' := by
  obtain ⟨i0, hin, hz0, hz1, hz2⟩ := info_parts infoP
  refine callsIn_of_wp_marks Tryz.func196 rfl hf ?_ hro
  simp only [Tryz.ntmps196, List.size_toArray, List.length_cons, List.length_nil, Nat.reduceAdd, Nat.reduceSub, Array.replicate_succ, Array.replicate_zero, List.push_toArray, List.append_toArray, List.nil_append, List.cons_append]
  gi_wp2
  obtain ⟨w1, hw1⟩ : ∃ w1, w.alloc (.cells #[.slice none 0 0] 52) = w1 := ⟨_, rfl⟩
  have hs1 : w1.heap.size = w.heap.size + 1 := by rw [← hw1]; simp
  have hc1 : w1.cell? ⟨w.heap.size, 0, none⟩ = some (.slice none 0 0) := by rw [← hw1]; simp [go_sem]
  have hf1 : w1.frozen? ⟨w.heap.size, 0, none⟩ = false := by rw [← hw1]; simp [go_sem]
  have hb1 : Below w.heap.size w w1 := by rw [← hw1]; exact (Below.refl _ w).alloc (Nat.le_refl _) _
  rw [hw1]
  clear hw1
  have hA0 : AI w w.heap.size (w.heap.size + 1) 93 3 true 0 (flP ts []) w1 := ⟨⟨_, hc1, ⟨rfl, .inl ⟨rfl, rfl⟩⟩, by simp⟩, hf1, hb1⟩
  clear hc1 hf1
  refine wpIn_rangeFunc_giv hro (by omega) rfl hFg eg hseq KeepsWalks.trans ?_ hb1 ?_ (fun ss W => AI w w.heap.size (w.heap.size + 1) 93 3 true ss.length (flP ts ss) W)
    (fun ss W W' row h hg hr => h.keep hg (B := w1.heap.size) (by omega) hr) hA0
    (fun i a' W => ∃ p, W.cell? ⟨p, 0, none⟩ = some (.int .u8 ts[i].1) ∧ W.cell? ⟨p, 1, none⟩ = some (.int .i64 ts[i].2.1) ∧ W.cell? ⟨p, 2, none⟩ = some (.int .i64 ts[i].2.2) ∧
      a' = { tmps := #[.slice none 0 0, .func (.func g) #[] lb, .pointer (some ⟨w.heap.size, 0, none⟩), undef, .slice none 0 0, .pointer (some ⟨p, 0, none⟩), .func (.func g) #[] lb, kvT ts[i], undef, undef, undef, undef, undef], defers := [] }) ?own ?assign ?body ?done
  · intro W l o o' hl ho hc hw; exact KeepsWalks.putObj _ ho hw
  · intro x; rfl
  case own =>
    rintro i a' ⟨⟩ W W' row ⟨p, c0, c1, c2, e⟩ hg hr
    have hr' : ∀ r, row = some r → ∃ o : Obj, W.heap[r]? = some o ∧ o.isCells = false := fun r e => (hr r e).2
    exact ⟨p, cell_own c0 hg hr', cell_own c1 hg hr', cell_own c2 hg hr', e⟩
  case assign =>
    intro l pre i W K hI hK
    simp only
    generalize ts[i] = key at hK ⊢
    obtain ⟨tl, tf, tsd⟩ := key
    simp only [kvT] at hK ⊢
    gi_wp2
    refine hK _ _ ((KeepsOthers.alloc _ _).from _) (KeepsWalks.alloc _ _) (hI.keep (World.grownBy_alloc _ _ none) (B := w1.heap.size) (by omega) (fun r e => by cases e)) ⟨W.heap.size, ?_, ?_, ?_, rfl⟩
    all_goals simp [go_sem]
  case body =>
    rintro l pre i a' W hpre hlw hI ⟨p, c0, c1, c2, rfl⟩
    obtain ⟨v, hx, hrow, hnil⟩ := hI.x
    have hfx := hI.fx
    have hlX : w.heap.size < W.heap.size := World.block_lt_of_cell? W _ hx
    have hIa := hide hI
    have HNIL := hide hnil
    clear hI hnil
    have e1 := flP_append ts pre i
    generalize ts[i] = key at c0 c1 c2 e1
    have E1 := hide e1
    clear e1
    obtain ⟨tl, tf, tsd⟩ := key
    simp only at c0 c1 c2
    gi_wp2_with (gi_at_builtin; refine wpListIn_append_own_at _ rfl _ _ 52 rfl (w.heap.size + 1) 93 i0 _ 3 24 Tryz.underlying52 hin hz0 hz1 hz2 rfl (by decide) _ pre.length (flP ts pre) rfl (hrow.alloc _) ⟨W.heap.size, 0, none⟩ 1 1 (ecT (tl, tf, tsd)) rfl rfl (newsT _ _ _ _ _) (oneT _) (by unfold maxLen; omega) (by omega) (by simp; omega) ?_; intro v' w3 hown' hg3 hnil3 hat; obtain ⟨hX3, hfX3⟩ := (unhide hIa).after (by omega) hx hrow (World.grownBy_alloc _ _ none) hg3; obtain ⟨g', cap', rfl⟩ := slice_of hown' (Nat.succ_pos _))
    have hcl := (unhide hIa).close (a := ⟨#[], []⟩) (B := w1.heap.size) (by omega) (Nat.le_refl _) (by omega) hx hrow (World.grownBy_alloc _ _ none) hown' hg3 hnil3 (by decide)
    rw [← unhide E1] at hcl
    simpa [goesOn, hs1] using hcl
  case done =>
    intro D ss W hD hS hI hdef
    obtain ⟨v, hx, hrow, hnil⟩ := hI.x
    gi_wp2
    refine ⟨by simp, .inl ⟨_, _, rfl, run_takeDeferred hdef, ?_⟩⟩
    have hI2 := hI.keep (grownBy_putObj' W D (.deferred none)) (B := w1.heap.size) (by omega) (fun r e => by cases e; exact ⟨hD, _, hdef, rfl⟩)
    refine ⟨_, results_tmp rfl _ _ _, v, rfl, ss, hS, ?_, ?_, hI2.below⟩
    · exact row_base (row_own hrow (grownBy_putObj' W D (.deferred none)) (fun r e => by cases e; exact ⟨_, hdef, rfl⟩)) (Nat.le_succ _)
    · rw [hnil]; simp

end Go.Proofs.YthcppbmkacbbiaaGreat

namespace Go.Proofs.YthcppbmkacbbiaaGreat
open Go.RowKit Go.Maps Go.WideMaps
open Rdg (Key put)

theorem rankP_any (kl : Int) (kf ks : Nat) (v : Int) (w : World) : Calls Tryz.prog 74 #[.agg #[.int .u8 kl, .int .i64 kf, .int .i64 ks], .int .i64 v] w fun e w' => e = .returned (.int .i64 v) ∧ w' = w.alloc (.cells #[.int .u8 kl, .int .i64 kf, .int .i64 ks] 93) := by
  go_enter Tryz.func74, Tryz.ntmps74
  go_wp2_with fail
  go_ret
  exact ⟨rfl, rfl⟩

set_option linter.unusedSimpArgs false in
set_option maxHeartbeats 1000000 in
theorem cmpP_any (Rb Mb BT : Nat) (xl : Int) (xf xs : Nat) (yl : Int) (yf ys : Nat) (i j : Nat) (W : World) (hR : W.cell? ⟨Rb, 0, none⟩ = some (.func (.func 74) #[] #[])) (hMb : W.cell? ⟨Mb, 0, none⟩ = some (.map (some BT)))
    (hx : Hid (∀ W', W.grownBy W' none → (Instr.lookup 79 (.map (some BT)) (.agg #[.int .u8 xl, .int .i64 xf, .int .i64 xs]) false).run Tryz.prog W' = .ok (.int .i64 i) W')) (hy : Hid (∀ W', W.grownBy W' none → (Instr.lookup 79 (.map (some BT)) (.agg #[.int .u8 yl, .int .i64 yf, .int .i64 ys]) false).run Tryz.prog W' = .ok (.int .i64 j) W')) :
    Calls Tryz.prog 123 #[.agg #[.int .u8 xl, .int .i64 xf, .int .i64 xs], .agg #[.int .u8 yl, .int .i64 yf, .int .i64 ys], .pointer (some ⟨Rb, 0, none⟩), .pointer (some ⟨Mb, 0, none⟩)] W fun e w' => e = .returned (.int .i64 (cmpZ i j)) ∧ ∃ q os', w' = Go.Sort.grow (W.drewN q) os' := by
  have HC := hide (fun w => compare_any i j w)
  generalize cmpZ i j = r at HC
  go_enter Tryz.func123, Tryz.ntmps123
  go_wp2_with fail
  obtain ⟨W1, hW1⟩ : ∃ W1, (W.alloc (.cells #[.int .u8 xl, .int .i64 xf, .int .i64 xs] 93)).alloc (.cells #[.int .u8 yl, .int .i64 yf, .int .i64 ys] 93) = W1 := ⟨_, rfl⟩
  have hg1 : W.grownBy W1 none := by rw [← hW1]; exact (World.grownBy_alloc _ _ none).trans (World.grownBy_alloc _ _ none)
  have kx0 : W1.cell? ⟨W.heap.size, 0, none⟩ = some (.int .u8 xl) := by rw [← hW1]; simp [go_sem]
  have kx1 : W1.cell? ⟨W.heap.size, 1, none⟩ = some (.int .i64 xf) := by rw [← hW1]; simp [go_sem]
  have kx2 : W1.cell? ⟨W.heap.size, 2, none⟩ = some (.int .i64 xs) := by rw [← hW1]; simp [go_sem]
  have ky0 : W1.cell? ⟨(W.heap.size + 1), 0, none⟩ = some (.int .u8 yl) := by rw [← hW1]; simp [go_sem]
  have ky1 : W1.cell? ⟨(W.heap.size + 1), 1, none⟩ = some (.int .i64 yf) := by rw [← hW1]; simp [go_sem]
  have ky2 : W1.cell? ⟨(W.heap.size + 1), 2, none⟩ = some (.int .i64 ys) := by rw [← hW1]; simp [go_sem]
  have HW1 := hide hW1
  rw [hW1]
  clear hW1
  refine wp_region_held (S := fun W' => W1.grownBy W' none) rfl ?_
  have hS0 : W1.grownBy W1.drew none := ⟨rfl, rfl, rfl, Nat.le_refl _, fun _ _ _ => rfl⟩
  change wpAnyH Tryz.prog .any _ _ _ 14 #[false, false, false, false, false, false, false, false, false, false, false, false, false, false] _ W1.drew
  refine wpAnyH_take (i := 0) (v := .func (.func 74) #[] #[]) rfl (by kernel_rfl) (by kernel_rfl) (by kernel_rfl) (fun _ _ _ h => h) (Or.inl ⟨by rfl, fun w' hS => ?_⟩) hS0 ?_
  · have c0 := hS.cell (hg1.cell hR (by simp)) (by simp)
    go_simp
  simp only [List.getElem_toArray, List.getElem_cons_zero, List.getElem_cons_succ, Act.put, List.setIfInBounds_toArray, List.set_cons_zero, List.set_cons_succ]
  refine wpAnyH_take (i := 1) (v := .agg #[.int .u8 xl, .int .i64 xf, .int .i64 xs]) rfl (by kernel_rfl) (by kernel_rfl) (by kernel_rfl) (fun _ _ _ h => h) (Or.inl ⟨by rfl, fun w' hS => ?_⟩) hS0 ?_
  · have c0 := hS.cell kx0 (by simp); have c1 := hS.cell kx1 (by simp); have c2 := hS.cell kx2 (by simp)
    go_simp
  simp only [List.getElem_toArray, List.getElem_cons_zero, List.getElem_cons_succ, Act.put, List.setIfInBounds_toArray, List.set_cons_zero, List.set_cons_succ]
  refine wpAnyH_take (i := 2) (v := .map (some BT)) rfl (by kernel_rfl) (by kernel_rfl) (by kernel_rfl) (fun _ _ _ h => h) (Or.inl ⟨by rfl, fun w' hS => ?_⟩) hS0 ?_
  · have c0 := hS.cell (hg1.cell hMb (by simp)) (by simp)
    go_simp
  simp only [List.getElem_toArray, List.getElem_cons_zero, List.getElem_cons_succ, Act.put, List.setIfInBounds_toArray, List.set_cons_zero, List.set_cons_succ]
  refine wpAnyH_take (i := 3) (v := .agg #[.int .u8 xl, .int .i64 xf, .int .i64 xs]) rfl (by kernel_rfl) (by kernel_rfl) (by kernel_rfl) (fun _ _ _ h => h) (Or.inl ⟨by rfl, fun w' hS => ?_⟩) hS0 ?_
  · have c0 := hS.cell kx0 (by simp); have c1 := hS.cell kx1 (by simp); have c2 := hS.cell kx2 (by simp)
    go_simp
  simp only [List.getElem_toArray, List.getElem_cons_zero, List.getElem_cons_succ, Act.put, List.setIfInBounds_toArray, List.set_cons_zero, List.set_cons_succ]
  refine wpAnyH_take (i := 4) (v := .int .i64 i) rfl (by kernel_rfl) (by kernel_rfl) (by kernel_rfl) (fun _ _ _ h => h) (Or.inl ⟨by rfl, fun w' hS => ?_⟩) hS0 ?_
  · have e1 := unhide hx w' (hg1.trans hS)
    go_simp
  simp only [List.getElem_toArray, List.getElem_cons_zero, List.getElem_cons_succ, Act.put, List.setIfInBounds_toArray, List.set_cons_zero, List.set_cons_succ]
  refine wpAnyH_take (i := 6) (v := .func (.func 74) #[] #[]) rfl (by kernel_rfl) (by kernel_rfl) (by kernel_rfl) (fun _ _ _ h => h) (Or.inl ⟨by rfl, fun w' hS => ?_⟩) hS0 ?_
  · have c0 := hS.cell (hg1.cell hR (by simp)) (by simp)
    go_simp
  simp only [List.getElem_toArray, List.getElem_cons_zero, List.getElem_cons_succ, Act.put, List.setIfInBounds_toArray, List.set_cons_zero, List.set_cons_succ]
  refine wpAnyH_take (i := 7) (v := .agg #[.int .u8 yl, .int .i64 yf, .int .i64 ys]) rfl (by kernel_rfl) (by kernel_rfl) (by kernel_rfl) (fun _ _ _ h => h) (Or.inl ⟨by rfl, fun w' hS => ?_⟩) hS0 ?_
  · have c0 := hS.cell ky0 (by simp); have c1 := hS.cell ky1 (by simp); have c2 := hS.cell ky2 (by simp)
    go_simp
  simp only [List.getElem_toArray, List.getElem_cons_zero, List.getElem_cons_succ, Act.put, List.setIfInBounds_toArray, List.set_cons_zero, List.set_cons_succ]
  refine wpAnyH_take (i := 8) (v := .map (some BT)) rfl (by kernel_rfl) (by kernel_rfl) (by kernel_rfl) (fun _ _ _ h => h) (Or.inl ⟨by rfl, fun w' hS => ?_⟩) hS0 ?_
  · have c0 := hS.cell (hg1.cell hMb (by simp)) (by simp)
    go_simp
  simp only [List.getElem_toArray, List.getElem_cons_zero, List.getElem_cons_succ, Act.put, List.setIfInBounds_toArray, List.set_cons_zero, List.set_cons_succ]
  refine wpAnyH_take (i := 9) (v := .agg #[.int .u8 yl, .int .i64 yf, .int .i64 ys]) rfl (by kernel_rfl) (by kernel_rfl) (by kernel_rfl) (fun _ _ _ h => h) (Or.inl ⟨by rfl, fun w' hS => ?_⟩) hS0 ?_
  · have c0 := hS.cell ky0 (by simp); have c1 := hS.cell ky1 (by simp); have c2 := hS.cell ky2 (by simp)
    go_simp
  simp only [List.getElem_toArray, List.getElem_cons_zero, List.getElem_cons_succ, Act.put, List.setIfInBounds_toArray, List.set_cons_zero, List.set_cons_succ]
  refine wpAnyH_take (i := 10) (v := .int .i64 j) rfl (by kernel_rfl) (by kernel_rfl) (by kernel_rfl) (fun _ _ _ h => h) (Or.inl ⟨by rfl, fun w' hS => ?_⟩) hS0 ?_
  · have e1 := unhide hy w' (hg1.trans hS)
    go_simp
  simp only [List.getElem_toArray, List.getElem_cons_zero, List.getElem_cons_succ, Act.put, List.setIfInBounds_toArray, List.set_cons_zero, List.set_cons_succ]
  refine wpAnyH_one (i := 5) (by kernel_rfl) rfl (by rfl) (fun K hK => ?_)
  go_simp
  refine (rankP_any xl xf xs i _).mono ?_
  rintro e w2 ⟨rfl, rfl⟩
  have hS1 := hS0.trans (World.grownBy_alloc W1.drew (.cells #[.int .u8 xl, .int .i64 xf, .int .i64 xs] 93) none)
  refine hK.out _ _ hS1 ?_
  clear hK K
  simp only [List.getElem_toArray, List.getElem_cons_zero, List.getElem_cons_succ, Act.put, List.setIfInBounds_toArray, List.set_cons_zero, List.set_cons_succ]
  refine wpAnyH_one (i := 11) (by kernel_rfl) rfl (by rfl) (fun K hK => ?_)
  go_simp
  refine (rankP_any yl yf ys j _).mono ?_
  rintro e w2 ⟨rfl, rfl⟩
  have hS2 := hS1.trans (World.grownBy_alloc (W1.drew.alloc (.cells #[.int .u8 xl, .int .i64 xf, .int .i64 xs] 93)) (.cells #[.int .u8 yl, .int .i64 yf, .int .i64 ys] 93) none)
  refine hK.out _ _ hS2 ?_
  clear hK K
  simp only [List.getElem_toArray, List.getElem_cons_zero, List.getElem_cons_succ, Act.put, List.setIfInBounds_toArray, List.set_cons_zero, List.set_cons_succ]
  refine wpAnyH_one (i := 12) (by kernel_rfl) rfl (by rfl) (fun K hK => ?_)
  go_simp
  refine ((unhide HC) _).mono ?_
  rintro e w2 ⟨rfl, rfl⟩
  refine hK.out _ _ hS2 ?_
  clear hK K
  simp only [List.getElem_toArray, List.getElem_cons_zero, List.getElem_cons_succ, Act.put, List.setIfInBounds_toArray, List.set_cons_zero, List.set_cons_succ]
  refine wpAnyH_one (i := 13) (by kernel_rfl) rfl (by rfl) (fun K hK => ?_)
  go_simp
  refine hK.out _ _ hS2 (wpAnyH_done (by kernel_rfl) ?_ _)
  clear hK K
  go_wp2_with fail
  go_ret
  refine ⟨rfl, 1, #[.cells #[.int .u8 xl, .int .i64 xf, .int .i64 xs] 93, .cells #[.int .u8 yl, .int .i64 yf, .int .i64 ys] 93, .cells #[.int .u8 xl, .int .i64 xf, .int .i64 xs] 93, .cells #[.int .u8 yl, .int .i64 yf, .int .i64 ys] 93], ?_⟩
  rw [← unhide HW1]
  exact grown4 _ _ _ _ _

end Go.Proofs.YthcppbmkacbbiaaGreat

namespace Go.Proofs.YthcppbmkacbbiaaGreat
open Go.RowKit Go.Maps Go.WideMaps Go.Sort
open Rdg (Key put)

theorem ecP_len (x : Key) : (ecT x).length = 3 := rfl
theorem kvP_ec (x : Key) : kvT x = .agg (ecT x).toArray := rfl

/-- What the comparing closure tells, in every world of the sort's. -/
theorem cmpsP (ts : List Key) (hnd : ts.Nodup) (hv : ∀ x ∈ ts, ∃ l, keyOf Tryz.prog 93 (kvT x) = some l) (Rb Mb BT : Nat) (W : World) (hR : W.cell? ⟨Rb, 0, none⟩ = some (.func (.func 74) #[] #[])) (hMb : W.cell? ⟨Mb, 0, none⟩ = some (.map (some BT)))
    (hM : MapIs W 93 BT kvT ts) (i j : Fin ts.length) :
    Calls Tryz.prog 123 (#[.agg (ecT ts[i]).toArray, .agg (ecT ts[j]).toArray] ++ #[.pointer (some ⟨Rb, 0, none⟩), .pointer (some ⟨Mb, 0, none⟩)]) W fun e w' => e = .returned (.int .i64 (cmpZ i.val j.val)) ∧ ∃ q os', w' = grow (W.drewN q) os' := by
  have ix : ∀ i : Fin ts.length, ts.idxOf ts[i] = i.val := fun i => hnd.idxOf_getElem i.val i.isLt
  have lk : ∀ i : Fin ts.length, Hid (∀ W', W.grownBy W' none → (Instr.lookup 79 (.map (some BT)) (kvT ts[i]) false).run Tryz.prog W' = .ok (.int .i64 (i.val : Nat)) W') := fun i => by
    obtain ⟨l, hl⟩ := hv ts[i] (List.getElem_mem i.isLt)
    have h := hM.looks lawP Tryz.underlying79 (x := ts[i]) (List.getElem_mem i.isLt) hl
    rw [ix i] at h
    exact h
  have h1 := lk i
  have h2 := lk j
  generalize ts[i] = x at h1 ⊢
  generalize ts[j] = y at h2 ⊢
  exact cmpP_any Rb Mb BT x.1 x.2.1 x.2.2 y.1 y.2.1 y.2.2 i.val j.val W hR hMb h1 h2

theorem sortP_any (ts : List Key) (hnd : ts.Nodup) (hl : ts.length ≤ 1000) (hv : ∀ x ∈ ts, ∃ l, keyOf Tryz.prog 93 (kvT x) = some l) (ss : List (Fin ts.length)) (hp : ss.Perm (List.finRange ts.length)) (hne : 0 < ts.length) (Rb Mb BT g cap e : Nat) (cur : Array Value) (w : World)
    (hb : w.heap[g]? = some (.cells cur e (0, 0))) (ht : cur.toList.take (ss.length * 3) = flP ts ss) (hR : w.cell? ⟨Rb, 0, none⟩ = some (.func (.func 74) #[] #[])) (hMb : w.cell? ⟨Mb, 0, none⟩ = some (.map (some BT))) (hM : MapIs w 93 BT kvT ts) (n1 : Rb ≠ g) (n2 : Mb ≠ g) (n3 : BT ≠ g) :
    Calls Tryz.prog 168 #[.slice (some ⟨g, 0, none⟩) ss.length cap, .func (.func 123) #[] #[.pointer (some ⟨Rb, 0, none⟩), .pointer (some ⟨Mb, 0, none⟩)]] w fun e w' =>
      e = .returned (.tuple #[]) ∧ w.grownBy w' (some g) ∧ ∀ (i : Nat) (hi : i < ts.length) (c : Nat), c < 3 → w'.cell? ⟨g, i * 3 + c, none⟩ = (ecT ts[i])[c]? := by
  haveI : Inhabited (Fin ts.length) := ⟨⟨0, hne⟩⟩
  have hlen : ss.length = ts.length := by rw [hp.length_eq, List.length_finRange]
  have hlt := (Array.getElem?_eq_some_iff.1 hb).1
  have hH : HoldsK (fun i : Fin ts.length => ecT ts[i]) 3 w g 0 ss.toArray := holdsK_of (k := 3) (fun _ => rfl) (by decide) hb ht
  have hc : CmpLays Tryz.prog 123 #[.pointer (some ⟨Rb, 0, none⟩), .pointer (some ⟨Mb, 0, none⟩)] (fun i : Fin ts.length => ecT ts[i]) 3 (fun i j => cmpZ i.val j.val) g 0 ss.toArray.size w := by
    intro m os dk _ x y
    have hgr := grownBy_sortK (fun i : Fin ts.length => ecT ts[i]) 3 w g m dk os
    exact cmpsP ts hnd hv Rb Mb BT _ (hgr.cell hR (by simpa using n1)) (hgr.cell hMb (by simpa using n2)) (hM.kept (hgr.block BT hM.lt (by simpa using n3))) x y
  have h := AnyQ.slices_SortFunc_total Tryz.sortP 3 Tryz.isAgg93 Tryz.sizeOf93 (fun i : Fin ts.length => ecT ts[i]) (fun _ => rfl) (fun i => oneT _) (fun i j => cmpZ i.val j.val) (cmpZ_swo _) 123 _ g 0 cap ss.toArray w (enters_of Tryz.func123 (by kernel_rfl) rfl) hc hH hlt (by simp; omega) cmpZ_tot
  change Calls Tryz.prog 168 _ _ _ at h
  simp only [List.size_toArray] at h
  refine h.mono ?_
  rintro e2 w' ⟨rfl, m, os, rfl⟩
  refine ⟨rfl, grownBy_sortK _ _ _ _ _ _ _, fun i hi c hc2 => ?_⟩
  have e0 : (List.mergeSort ss.toArray.toList fun x y => !(ltOf fun i j : Fin ts.length => cmpZ i.val j.val) y x) = List.finRange ts.length := sort_fin hp
  rw [e0]
  have hH2 := holdsK_sortWorldK_c (fun i : Fin ts.length => ecT ts[i]) 3 w g 0 ss.toArray (List.finRange ts.length).toArray m os hH hlt (by simp [hlen])
  have h2 := (hH2.cell (i := i) (c := c) (by simpa using hi) hc2).1
  rw [Nat.zero_add] at h2
  rw [h2]
  rw [getElem!_pos (List.finRange ts.length).toArray i (by simpa using hi)]
  simp only [List.getElem_toArray, List.getElem_finRange]
  rw [getElem!_pos _ c (by rw [ecP_len]; exact hc2), List.getElem?_eq_getElem (by rw [ecP_len]; exact hc2)]
  rfl

set_option maxHeartbeats 1000000 in
theorem collectP_any (n : Nat) (hn : 3 ≤ n) (ts : List Key) (hl : ts.length ≤ 1000) (g : Nat) (lb : Array Value) (eg : ∀ args w, (callFunc g args).run Tryz.prog w = .ok (.enter g args) w) (w : World) {Sp : List (Fin ts.length) → Prop}
    (hseq : SeqGiv Fence.wide (n - 1 - 1) Tryz.prog g lb (fun i : Fin ts.length => #[kvT ts[i]]) Sp ts.length KeepsWalks w) :
    CallsIn Fence.wide n Tryz.prog 167 #[.func (.func g) #[] lb] w fun e w' => ∃ v ss, e = .returned v ∧ Sp ss ∧ w'.ownsRow w.heap.size 93 3 v ss.length (flP ts ss) ∧ (v = .slice none 0 0 ↔ ss = []) ∧ Below w.heap.size w w' := by
  refine callsIn_of_wp Tryz.func167 rfl trivial ?_ rfl
  simp only [Tryz.ntmps167, List.size_toArray, List.length_cons, List.length_nil, Nat.reduceAdd, Nat.reduceSub, Array.replicate_succ, Array.replicate_zero, List.push_toArray, List.append_toArray, List.nil_append, List.cons_append]
  gi_wp2
  refine ⟨trivial, fun _ => by omega, (apP_any Fence.wide (n - 1) trivial rfl (by omega) ts hl g lb trivial eg w hseq).mono ?_⟩
  rintro e w' ⟨v, ss, rfl, h1, h2, h3, h4⟩
  gi_wp2
  go_ret
  exact ⟨v, ss, rfl, h1, h2, h3, h4⟩

end Go.Proofs.YthcppbmkacbbiaaGreat

namespace Go.Proofs.YthcppbmkacbbiaaGreat
open Go.RowKit Go.Maps Go.WideMaps Go.Sort
open Rdg (Key put)

/-- A slice that holds the keys in their order. -/
def HoldsP (w : World) (base : Nat) (ts : List Key) (v : Value) : Prop :=
  (ts.length = 0 → v = .slice none 0 0) ∧ (0 < ts.length → ∃ G cap, v = .slice (some ⟨G, 0, none⟩) ts.length cap ∧ base ≤ G ∧ G < w.heap.size ∧ ∀ (i : Nat) (hi : i < ts.length) (c : Nat), c < 3 → w.cell? ⟨G, i * 3 + c, none⟩ = (ecT ts[i])[c]?)

set_option maxHeartbeats 1000000 in
theorem sortedP_any (n : Nat) (hn : 4 ≤ n) (ts : List Key) (hnd : ts.Nodup) (hl : ts.length ≤ 1000) (hv : ∀ x ∈ ts, ∃ l, keyOf Tryz.prog 93 (kvT x) = some l) (Kb Rb Mb BT : Nat) (w : World)
    (hK : w.cell? ⟨Kb, 0, none⟩ = some (.map (some BT))) (hR : w.cell? ⟨Rb, 0, none⟩ = some (.func (.func 74) #[] #[])) (hMb : w.cell? ⟨Mb, 0, none⟩ = some (.map (some BT))) (hM : MapIs w 93 BT kvT ts) :
    CallsIn Fence.wide n Tryz.prog 121 #[.func (.func 169) #[] #[.pointer (some ⟨Kb, 0, none⟩)], .func (.func 123) #[] #[.pointer (some ⟨Rb, 0, none⟩), .pointer (some ⟨Mb, 0, none⟩)]] w fun e w' =>
      ∃ v, e = .returned v ∧ Below w.heap.size w w' ∧ HoldsP w' w.heap.size ts v := by
  have hseq := keyiP_giv Fence.wide (n - 1 - 1 - 1) trivial rfl (by omega) Kb BT ts w hnd hK hM hv
  have hcol := collectP_any (n - 1) (by omega) ts hl 169 _ (enters_of Tryz.func169 (by kernel_rfl) rfl) w hseq
  clear hseq
  refine callsIn_of_wp Tryz.func121 rfl trivial ?_ rfl
  simp only [Tryz.ntmps121, List.size_toArray, List.length_cons, List.length_nil, Nat.reduceAdd, Nat.reduceSub, Array.replicate_succ, Array.replicate_zero, List.push_toArray, List.append_toArray, List.nil_append, List.cons_append]
  gi_wp2
  refine ⟨trivial, fun _ => by omega, hcol.mono ?_⟩
  rintro e W ⟨v, ss, rfl, hS, hrow, hnil, hb⟩
  have hlen : ss.length = ts.length := by rw [hS.length_eq, List.length_finRange]
  rcases hrow.2 with ⟨rfl, hz⟩ | ⟨gb, cap, cur, rfl, hbase, hgb, r1, r2, r3, r4⟩
  · gi_wp2
    refine ⟨trivial, fun _ => by omega, (callsIn_wide.2 (AnyF.slices_SortFunc_none Tryz.sortP none 0 _ W)).mono ?_⟩
    rintro e w' ⟨rfl, rfl⟩
    gi_wp2
    go_ret
    exact ⟨_, rfl, hb, fun _ => rfl, fun h => absurd h (by omega)⟩
  · have hne : 0 < ts.length := by
      rcases Nat.eq_zero_or_pos ts.length with h0 | h0
      · have : ss = [] := List.eq_nil_of_length_eq_zero (by omega)
        exact absurd (hnil.2 this) (by simp)
      · exact h0
    have hcR : W.cell? ⟨Rb, 0, none⟩ = some (.func (.func 74) #[] #[]) := (hb.cell (p := ⟨Rb, 0, none⟩) (World.block_lt_of_cell? w _ hR)).trans hR
    have hcM : W.cell? ⟨Mb, 0, none⟩ = some (.map (some BT)) := (hb.cell (p := ⟨Mb, 0, none⟩) (World.block_lt_of_cell? w _ hMb)).trans hMb
    have n1 : Rb ≠ gb := by have h : Rb < w.heap.size := World.block_lt_of_cell? w _ hR; omega
    have n2 : Mb ≠ gb := by have h : Mb < w.heap.size := World.block_lt_of_cell? w _ hMb; omega
    have n3 : BT ≠ gb := by have h := hM.lt; omega
    have hs := sortP_any ts hnd hl hv ss hS hne Rb Mb BT gb cap _ cur W hgb r4 hcR hcM (hM.kept (hb.block BT hM.lt)) n1 n2 n3
    have HLEN := hide hlen
    clear hlen
    gi_wp2
    refine ⟨trivial, fun _ => by omega, (callsIn_wide.2 hs).mono ?_⟩
    rintro e w' ⟨rfl, hg, hc⟩
    gi_wp2
    go_ret
    have hlen := unhide HLEN
    have hgl := (Array.getElem?_eq_some_iff.1 hgb).1
    refine ⟨_, rfl, hb.grown hg hb.size (fun k e => by cases e; exact hbase), fun h0 => absurd h0 (by omega), fun _ => ⟨gb, cap, ?_, hbase, Nat.lt_of_lt_of_le hgl hg.size, hc⟩⟩
    show Value.slice (some ⟨gb, 0, none⟩) ss.length cap = _
    rw [hlen]

theorem keysP_any (n : Nat) (BT : Nat) (w : World) : CallsIn Fence.wide n Tryz.prog 122 #[.map (some BT)] w fun e w' =>
    e = .returned (.func (.func 169) #[] #[.pointer (some ⟨w.heap.size, 0, none⟩)]) ∧ w' = w.alloc (.cells #[.map (some BT)] 79) := by
  refine callsIn_wide.2 ?_
  go_enter Tryz.func122, Tryz.ntmps122
  go_wp2_with fail
  go_ret
  exact ⟨rfl, rfl⟩

theorem orderP_any (BT : Nat) (w : World) : Calls Tryz.prog 73 #[.map (some BT), .func (.func 74) #[] #[]] w fun e w' =>
    e = .returned (.func (.func 120) #[] #[.pointer (some ⟨w.heap.size, 0, none⟩), .pointer (some ⟨w.heap.size + 1, 0, none⟩)]) ∧ ∃ t, w' = (w.alloc (.cells #[.map (some BT)] 79)).alloc (.cells #[.func (.func 74) #[] #[]] t) := by
  go_enter Tryz.func73, Tryz.ntmps73
  go_wp2_with fail
  go_ret
  exact ⟨rfl, _, rfl⟩

end Go.Proofs.YthcppbmkacbbiaaGreat

namespace Go.Proofs.YthcppbmkacbbiaaGreat
open Go.RowKit Go.Maps Go.WideMaps Go.Sort
open Rdg (Key put)

set_option maxRecDepth 100000 in
set_option maxHeartbeats 2000000 in
theorem iterP_all (n : Nat) (hn : 5 ≤ n) (Mb Rb BT m0 : Nat) (ts : List Key) (w : World) (hm0 : m0 ≤ w.heap.size) (hl : ts.length ≤ 1000) (hnd : ts.Nodup)
    (hMb : w.cell? ⟨Mb, 0, none⟩ = some (.map (some BT))) (hR : w.cell? ⟨Rb, 0, none⟩ = some (.func (.func 74) #[] #[])) (hM : MapIs w 93 BT kvT ts) (hv : ∀ x ∈ ts, ∃ l, keyOf Tryz.prog 93 (kvT x) = some l) :
    SeqAll Fence.wide n Tryz.prog 120 #[.pointer (some ⟨Mb, 0, none⟩), .pointer (some ⟨Rb, 0, none⟩)] (List.ofFn fun i : Fin ts.length => #[kvT ts[i], .int .i64 i.val]) (KIt m0 Mb BT) w := by
  intro l J W hW hJ hY h0
  have hMbW : W.cell? ⟨Mb, 0, none⟩ = some (.map (some BT)) := (hW.cell (p := ⟨Mb, 0, none⟩) (World.block_lt_of_cell? w _ hMb)).trans hMb
  have hRW : W.cell? ⟨Rb, 0, none⟩ = some (.func (.func 74) #[] #[]) := (hW.cell (p := ⟨Rb, 0, none⟩) (World.block_lt_of_cell? w _ hR)).trans hR
  have hMW : MapIs W 93 BT kvT ts := hM.kept (hW.block BT hM.lt)
  have hsW := hW.size
  have hlMb : Mb < W.heap.size := World.block_lt_of_cell? W _ hMbW
  have hlRb : Rb < W.heap.size := World.block_lt_of_cell? W _ hRW
  have hlBT := hMW.lt
  have hso := sortedP_any (n - 1) (by omega) ts hnd hl hv W.heap.size Rb Mb BT (W.alloc (.cells #[.map (some BT)] 79)) (by simp [go_sem]) ((World.grownBy_alloc _ _ none).cell hRW (by simp)) ((World.grownBy_alloc _ _ none).cell hMbW (by simp)) (hMW.kept (Below.heap_alloc _ _ _ hlBT))
  have HM := hide hM
  have HMW := hide hMW
  clear hM hMW
  refine callsIn_of_wp Tryz.func120 rfl trivial ?_ rfl
  simp only [Tryz.ntmps120, List.size_toArray, List.length_cons, List.length_nil, Nat.reduceAdd, Nat.reduceSub, Array.replicate_succ, Array.replicate_zero, List.push_toArray, List.append_toArray, List.nil_append, List.cons_append]
  gi_wp2
  refine ⟨trivial, fun _ => by omega, (keysP_any (n - 1) BT W).mono ?_⟩
  rintro e w1 ⟨rfl, rfl⟩
  gi_wp2
  refine ⟨trivial, fun _ => by omega, hso.mono ?_⟩
  rintro e w2 ⟨v, rfl, hb2, hH⟩
  have hb : Below W.heap.size W w2 := ((Below.refl _ W).alloc (Nat.le_refl _) _).trans (hb2.mono (by simp))
  have hJ2 : J 0 w2 := hJ 0 W w2 none h0 ⟨hb.os, hb.tape, hb.output, hb.size, fun k hk _ => hb.block k hk⟩ (fun r e => by cases e)
  have hMb2 : w2.heap[Mb]? = W.heap[Mb]? := hb.block Mb hlMb
  have hBT2 : w2.heap[BT]? = W.heap[BT]? := hb.block BT hlBT
  clear hso hb2
  rcases Nat.eq_zero_or_pos ts.length with hz | hpos
  · rw [hH.1 hz]
    have HZ := hide hz
    clear hz hH
    gi_wp2
    gi_loopw [13] (fun i wr => i = .int .i64 0 ∧ J 0 wr) (fun _ _ => 0)
    case atStart => exact ⟨rfl, hJ2⟩
    case round =>
      obtain ⟨rfl, hJr⟩ := hrel
      gi_wp2
      go_end0
      refine ⟨⟨_, rfl⟩, ?_⟩
      have : (List.ofFn fun i : Fin ts.length => #[kvT ts[i], .int .i64 i.val]).length = 0 := by simp [unhide HZ]
      rw [this]
      exact hJr
  · obtain ⟨G, cap, rfl, hG, hGl, hcs⟩ := hH.2 hpos
    obtain ⟨oG, hoG, hcG⟩ := cells_of_cell (hcs 0 hpos 0 (by decide))
    have hG' : W.heap.size ≤ G := by simp at hG; omega
    have HCS := hide hcs
    clear hH hcs hG
    gi_wp2
    gi_loopw [13] (fun i wr => ∃ k : Nat, k ≤ ts.length ∧ i = .int .i64 k ∧ J k wr ∧ wr.heap[G]? = some oG ∧ wr.heap[Mb]? = W.heap[Mb]? ∧ wr.heap[BT]? = W.heap[BT]?) (fun i _ => ts.length - (intOf i).toNat)
    case atStart => exact ⟨0, Nat.zero_le _, rfl, hJ2, hoG, hMb2, hBT2⟩
    case round =>
      obtain ⟨k, hk, rfl, hJk, hXk, hMk, hBk⟩ := hrel
      by_cases hlt : k < ts.length
      · have kc : ∀ c, c < 3 → wr.cell? ⟨G, k * 3 + c, none⟩ = (ecT ts[k])[c]? := fun c hc => by
          have h1 := unhide HCS k hlt c hc
          rw [← h1]
          exact World.cell?_of_block (hXk.trans hoG.symm)
        have hyk := hY k (by simpa using hlt)
        rw [show (List.ofFn fun i : Fin ts.length => #[kvT ts[i], .int .i64 i.val])[k]'(by simpa using hlt) = #[kvT ts[k], .int .i64 k] by simp] at hyk
        obtain ⟨lt, hlt'⟩ := hv ts[k] (List.getElem_mem hlt)
        have hMr : MapIs wr 93 BT kvT ts := (unhide HMW).kept hBk
        have hlk := hMr.looks lawP Tryz.underlying79 (x := ts[k]) (List.getElem_mem hlt) hlt'
        rw [hnd.idxOf_getElem k hlt] at hlk
        have hMbr : wr.cell? ⟨Mb, 0, none⟩ = some (.map (some BT)) := (World.cell?_of_block hMk).trans hMbW
        have hlMb' : Mb < wr.heap.size := World.block_lt_of_cell? wr _ hMbr
        simp only [kvT, ecT] at hyk hlk kc
        generalize ts[k] = t at kc hyk hlk
        obtain ⟨tl, tf, tsd⟩ := t
        simp only at kc hyk hlk
        have hbd : (k : Int) < (ts.length : Int) := by omega
        obtain ⟨fn, tmps, assign, body, hy, hR⟩ := hyk (wr.alloc (.cells #[.int .u8 tl, .int .i64 tf, .int .i64 tsd] 93)).drew (hJ k wr _ none hJk ⟨rfl, rfl, rfl, by simp, fun j hj _ => Below.heap_alloc _ _ _ hj⟩ (fun r e => by cases e))
        have hlk2 := hlk (wr.alloc (.cells #[.int .u8 tl, .int .i64 tf, .int .i64 tsd] 93)).drew ⟨rfl, rfl, rfl, by simp, fun j hj _ => Below.heap_alloc _ _ _ hj⟩
        clear hyk hlk
        have k0 : wr.cell? ⟨G, k * 3, none⟩ = some (.int .u8 tl) := kc 0 (by decide)
        have k1 : wr.cell? ⟨G, k * 3 + 1, none⟩ = some (.int .i64 tf) := kc 1 (by decide)
        have k2 : wr.cell? ⟨G, k * 3 + 2, none⟩ = some (.int .i64 tsd) := kc 2 (by decide)
        clear kc
        gi_wp2
        gi_region_with (refine ⟨fun _ => by omega, hR.mono ?_⟩; rintro e W3 ⟨rfl, hJ3, hk3⟩)
        all_goals
          have hX3 : W3.heap[G]? = some oG := hk3.1 G oG (by omega) ((Below.heap_alloc _ _ _ (Array.getElem?_eq_some_iff.1 hXk).1).trans hXk) hcG
          have hM3 : W3.heap[Mb]? = W.heap[Mb]? := hk3.2.1.trans ((Below.heap_alloc _ _ _ hlMb').trans hMk)
          have hB3 : W3.heap[BT]? = W.heap[BT]? := hk3.2.2.trans ((Below.heap_alloc _ _ _ hMr.lt).trans hBk)
          clear hk3 hR hy
          gi_wp2
          go_roundw
          case rel => exact ⟨k + 1, by omega, by go_num, hJ3, hX3, hM3, hB3⟩
          case measure => simp [intOf]; omega
      · have hkk : k = ts.length := by omega
        have HKK := hide hkk
        clear hkk
        have hbd : ¬ (k : Int) < (ts.length : Int) := by omega
        gi_wp2
        go_end0
        refine ⟨⟨_, rfl⟩, ?_⟩
        rw [← unhide HKK]
        exact hJk

end Go.Proofs.YthcppbmkacbbiaaGreat

namespace Go.Proofs.YthcppbmkacbbiaaGreat
open Go.RowKit Go.Maps Go.WideMaps
open Rdg (Key put)

attribute [local go_sem] Oper.semAt_some

set_option linter.unusedSimpArgs false in
set_option maxRecDepth 100000 in
set_option maxHeartbeats 1000000 in
theorem listP_any (BT : Nat) (ts : List Key) (w : World) (hl : ts.length ≤ 1000) (hnd : ts.Nodup) (hM : MapIs w 93 BT kvT ts) (hv : ∀ x ∈ ts, ∃ l, keyOf Tryz.prog 93 (kvT x) = some l) :
    Calls Tryz.prog 46 #[.map (some BT)] w fun e w' => ∃ G, e = .returned (.slice (some ⟨G, 0, none⟩) ts.length ts.length) ∧ w.heap.size ≤ G ∧ Below w.heap.size w w' ∧
      w'.ownsRow w.heap.size 93 3 (.slice (some ⟨G, 0, none⟩) ts.length ts.length) ts.length (ts.flatMap ecT) := by
  refine (callsIn_wide (n := 7)).1 ?_
  obtain ⟨D, hown, hsz, hall, hback⟩ := id hM
  obtain ⟨i0, hin, hz0, hz1, hz2⟩ := info_parts infoP
  have hlen := fun ty => hown.len Tryz.underlying80 ty
  obtain ⟨w1, hmk, hrow, hg1⟩ := run_make_own (P := Tryz.prog) w w.heap.size 52 93 i0 _ 3 Tryz.underlying52 hin hz0 hz1 .i64 .i64 (Maps.size D) (by rw [hz2, hsz]; omega) (by rw [hsz]; unfold maxLen; omega) (Nat.le_refl _)
  have HSZ := hide hsz
  have HM := hide hM
  clear hall hback hsz hM
  refine callsIn_of_wp_marks Tryz.func46 rfl trivial ?_ rfl
  simp only [Tryz.ntmps46, List.size_toArray, List.length_cons, List.length_nil, Nat.reduceAdd, Nat.reduceSub, Array.replicate_succ, Array.replicate_zero, List.push_toArray, List.append_toArray, List.nil_append, List.cons_append]
  gi_wp2
  refine ⟨trivial, (callsIn_wide.2 (orderP_any BT _)).mono ?_⟩
  rintro e w2 ⟨rfl, tt, rfl⟩
  gi_wp2
  have hn := unhide HSZ
  obtain ⟨w2, hw2⟩ : ∃ w2, ((w1.alloc (.cells #[.slice (some ⟨w.heap.size, 0, none⟩) 0 (Maps.size D)] 52)).alloc (.cells #[.map (some BT)] 79)).alloc (.cells #[.func (.func 74) #[] #[]] tt) = w2 := ⟨_, rfl⟩
  have hlt0 : w.heap.size < w1.heap.size := (hrow.lt w.heap.size rfl).2
  have hs2 : w2.heap.size = w1.heap.size + 3 := by rw [← hw2]; simp
  have hx2 : w2.cell? ⟨w1.heap.size, 0, none⟩ = some (.slice (some ⟨w.heap.size, 0, none⟩) 0 (Maps.size D)) := by rw [← hw2]; simp [go_sem]
  have hfx2 : w2.frozen? ⟨w1.heap.size, 0, none⟩ = false := by rw [← hw2]; simp [go_sem]
  have hMb2 : w2.cell? ⟨w1.heap.size + 1, 0, none⟩ = some (.map (some BT)) := by rw [← hw2]; simp [go_sem]
  have hR2 : w2.cell? ⟨w1.heap.size + 1 + 1, 0, none⟩ = some (.func (.func 74) #[] #[]) := by rw [← hw2]; simp [go_sem]
  have hg2 : w.grownBy w2 none := by rw [← hw2]; exact ((hg1.trans (World.grownBy_alloc _ _ none)).trans (World.grownBy_alloc _ _ none)).trans (World.grownBy_alloc _ _ none)
  have hM2 : MapIs w2 93 BT kvT ts := (unhide HM).kept (hg2.block BT (unhide HM).lt (by simp))
  have hrow2 : w2.ownsRow w.heap.size 93 3 (.slice (some ⟨w.heap.size, 0, none⟩) 0 (Maps.size D)) 0 [] := by
    rw [← hw2]; exact ((hrow.alloc _).alloc _).alloc _
  have hb2 : Below w.heap.size w w2 := ⟨hg2.os, hg2.tape, hg2.output, hg2.size, fun j hj => hg2.block j hj (by simp)⟩
  have hBT : BT < w.heap.size := (unhide HM).lt
  have hseq := iterP_all 6 (by omega) (w1.heap.size + 1) (w1.heap.size + 1 + 1) BT w2.heap.size ts w2 (Nat.le_refl _) hl hnd hMb2 hR2 hM2 hv
  rw [hw2]
  clear hw2 hmk hlen hrow hg1 hown hg2
  rw [hn] at hx2 hrow2 ⊢
  clear hn
  have hLI : LI w w1.heap.size w.heap.size ts.length 93 3 w2.heap.size (ts.flatMap ecT) 0 w2 := ⟨hx2, hfx2, by rw [Nat.zero_mul, List.take_zero]; exact hrow2, hb2, Nat.le_refl _⟩
  clear hx2 hfx2 hrow2 hb2 HSZ hMb2 hR2 hM2
  refine wpIn_rangeFunc_seq rfl (by omega) rfl trivial (fun _ _ => by simp [go_sem]) hseq KIt.trans ?_ (Below.refl _ _) ?_ (LI w w1.heap.size w.heap.size ts.length 93 3 w2.heap.size (ts.flatMap ecT)) (LI.own _ (by omega)) hLI
    (fun k a' W => ∃ (hk : k < ts.length) (p : Nat), p ≠ w1.heap.size ∧ p ≠ w.heap.size ∧ W.cell? ⟨p, 0, none⟩ = some (.int .u8 ts[k].1) ∧ W.cell? ⟨p, 1, none⟩ = some (.int .i64 ts[k].2.1) ∧ W.cell? ⟨p, 2, none⟩ = some (.int .i64 ts[k].2.2) ∧
      a' = { tmps := #[.map (some BT), undef, .slice none 0 0, .pointer (some ⟨w1.heap.size, 0, none⟩), .pointer (some ⟨p, 0, none⟩), .map (some BT), .int .i64 ts.length, .slice (some ⟨w.heap.size, 0, none⟩) 0 ts.length, .map (some BT),
          .func (.func 120) #[] #[.pointer (some ⟨w1.heap.size + 1, 0, none⟩), .pointer (some ⟨w1.heap.size + 1 + 1, 0, none⟩)], kvT ts[k], .int .i64 k, undef, undef, undef, undef, undef], defers := [] }) ?own ?assign ?body ?done
  · intro W l o o' hl ho hc _
    refine ⟨fun j x hj hx hxc => (World.putObj_heap_other (fun e => ?_)).trans hx, World.putObj_heap_other (by omega), World.putObj_heap_other (by omega)⟩
    subst e
    rw [ho] at hx
    cases hx
    rw [hc] at hxc
    cases hxc
  · intro k hk; simp
  case own =>
    rintro k a' ⟨⟩ W W' row ⟨hk, p, hp1, hp2, c0, c1, c2, e⟩ hg hr
    have hr' : ∀ r, row = some r → ∃ o : Obj, W.heap[r]? = some o ∧ o.isCells = false := fun r e => (hr r e).2
    exact ⟨hk, p, hp1, hp2, cell_own c0 hg hr', cell_own c1 hg hr', cell_own c2 hg hr', e⟩
  case assign =>
    intro l k hk W K hI hK
    have hk' : k < ts.length := by simpa using hk
    have e1 : (List.ofFn fun i : Fin ts.length => #[kvT ts[i], .int .i64 i.val])[k]'hk = #[kvT ts[k], .int .i64 k] := by simp
    rw [e1]
    have hlt := hI.lt
    have hK2 := fun a' W' h1 h2 h3 h4 => hK a' W' h1 h2 h3 ⟨hk', h4⟩
    clear hK
    generalize ts[k] = key at hK2 ⊢
    obtain ⟨tl, tf, tsd⟩ := key
    simp only [kvT] at hK2 ⊢
    gi_wp2
    refine hK2 _ _ ((KeepsOthers.alloc _ _).from _) ⟨fun j o hj ho hc => (Below.heap_alloc _ _ _ (Array.getElem?_eq_some_iff.1 ho).1).trans ho, Below.heap_alloc _ _ _ (by have := hI.sz; omega), Below.heap_alloc _ _ _ (by have := hI.sz; omega)⟩ ((LI.own w2.heap.size (by omega)).alloc _ hI) ⟨W.heap.size, by omega, by omega, ?_, ?_, ?_, rfl⟩
    all_goals simp [go_sem]
  case body =>
    rintro l k a' W hk hl hI ⟨hk', p, hp1, hp2, c0, c1, c2, rfl⟩
    have hix := hI.x
    have hifx := hI.fx
    have hlX := hI.lt.1
    have hlG := hI.lt.2
    have hrow := hI.row
    have hsz := hI.sz
    have HI := hide hI
    clear hI hLI hseq
    have htk := take_flat ecP_len ts k hk'
    generalize ts[k] = key at c0 c1 c2 htk
    have HTK := hide htk
    clear htk
    obtain ⟨tl, tf, tsd⟩ := key
    simp only at c0 c1 c2
    have hXG : w1.heap.size ≠ w.heap.size := by omega
    gi_wp2_with (gi_at_builtin; refine wpListIn_append_fits _ rfl _ _ 52 rfl w.heap.size 93 i0 3 Tryz.underlying52 hin hz1 w.heap.size k ts.length _ rfl (hrow.alloc _) ⟨W.heap.size, 0, none⟩ 1 1 (ecT (tl, tf, tsd)) rfl rfl (newsT _ _ _ _ _) (oneT _) (by omega) ?_; intro w3 r1 r2; have hX3 : w3.cell? ⟨w1.heap.size, 0, none⟩ = some (.slice (some ⟨w.heap.size, 0, none⟩) k ts.length) := r2.cell ((World.grownBy_alloc _ _ none).cell hix (by simp)) (by simpa using hXG); have hfX3 : w3.frozen? ⟨w1.heap.size, 0, none⟩ = false := (World.frozen?_of_block (r2.block w1.heap.size (by simp; omega) (by simpa using hXG))).trans ((World.frozen?_of_block (Below.heap_alloc _ _ _ hlX)).trans hifx))
    have hcl := (unhide HI).close (a := ⟨#[], []⟩) (B := w2.heap.size) (Mb := w1.heap.size + 1) (BT := BT) (by omega) (by omega) (by omega) (Nat.le_refl _) hXG (by omega) (by omega) (by omega) (by omega) (by omega) (by omega) (World.grownBy_alloc _ _ none) (unhide HTK) r1 r2
    simpa [goesOn] using hcl
  case done =>
    intro D W hD hI hdef
    have hx := hI.x
    rw [List.length_ofFn] at hx
    gi_wp2
    refine ⟨by simp, .inl ⟨_, _, rfl, run_takeDeferred hdef, ?_⟩⟩
    refine ⟨_, results_tmp rfl _ _ _, ?_⟩
    have hI2 := (LI.own w2.heap.size (by omega)).putObj (.deferred none) hI hD hdef rfl
    have hr := hI2.row
    rw [List.length_ofFn] at hr
    refine ⟨w.heap.size, rfl, Nat.le_refl _, hI2.below, ?_⟩
    · rw [List.take_of_length_le (by rw [flat_len ecP_len]; exact Nat.le_refl _)] at hr
      exact hr

end Go.Proofs.YthcppbmkacbbiaaGreat
