import Derived.Test.YthfjhjghohincaaCandJl
namespace Go.Proofs.Ythfjhjghohincaa
open Go.RowKit Go.Maps Go.WideMaps
open Rdg (Key put)

set_option maxRecDepth 100000 in
set_option maxHeartbeats 1000000 in
theorem iterC_all (F : Fence) (n : Nat) (hf : F.fn 49) (hro : F.round = none) (hn : 1 ≤ n) (Bn BT m0 : Nat) (ts : List (Int × Nat)) (w : World) (hm0 : m0 ≤ w.heap.size) (hl : ts.length ≤ 1000) (hnd : ts.Nodup)
    (hBn : w.cell? ⟨Bn, 0, none⟩ = some (.map (some BT))) (hM : MapIs w 80 BT kvC ts) (hv : ∀ x ∈ ts, ∃ l, keyOf Try.prog 80 (kvC x) = some l) :
    SeqAll F n Try.prog 49 #[.pointer (some ⟨Bn, 0, none⟩)] (ts.map fun x => #[kvC x]) (KCells m0) w := by
  intro l J W hW hJ hY h0
  have hBnW : W.cell? ⟨Bn, 0, none⟩ = some (.map (some BT)) := (hW.cell (p := ⟨Bn, 0, none⟩) (World.block_lt_of_cell? w _ hBn)).trans hBn
  have hMW : MapIs W 80 BT kvC ts := hM.kept (hW.block BT hM.lt)
  obtain ⟨D, hown, hsz, hall, hback⟩ := hMW
  obtain ⟨i0, hi, hz0, hz1, hz2⟩ := info_parts infoC
  have hlen := fun ty => hown.len Try.underlying50 ty
  obtain ⟨w1, hmk, hrow, hg1⟩ := run_make_full (P := Try.prog) W W.heap.size 99 80 i0 (.agg #[.int .u8 0, .int .i64 0]) 2 Try.underlying99 hi hz0 hz1 .i64 .i64 (Maps.size D) (by rw [hz2, hsz]; omega) (by rw [hsz]; unfold maxLen; omega) (Nat.le_refl _)
  have hown1 := hown.kept hg1 (by simp)
  obtain ⟨w2, hrg, rg, hg2, hs2⟩ := hown1.range lawC Try.underlying50
  have hBn1 : w1.cell? ⟨Bn, 0, none⟩ = some (.map (some BT)) := hg1.cell hBnW (by simp)
  have HALL := hide hall
  have HBACK := hide hback
  have HSZ := hide hsz
  have HM := hide hM
  clear hall hback hsz hM
  refine callsIn_of_wp Try.func49 rfl hf ?_ hro
  simp only [Try.ntmps49, List.size_toArray, List.length_cons, List.length_nil, Nat.reduceAdd, Nat.reduceSub, Array.replicate_succ, Array.replicate_zero, List.push_toArray, List.append_toArray, List.nil_append, List.cons_append]
  gi_wp2
  have hXlt : W.heap.size < w1.heap.size := (hrow.lt W.heap.size rfl).2
  have hBT := hown.lt
  gi_loopw [5] (fun _ wr => ∃ left cnt cells, wr.ranges Try.prog 80 (plainElem (H := Unit) Try.prog 3) BT w1.heap.size ts.length D left cnt ∧ wr.ownsRow W.heap.size 80 2 (.slice (some ⟨W.heap.size, 0, none⟩) (Maps.size D) (Maps.size D)) (Maps.size D) cells ∧
      Hid (Filled 80 2 kvC cellC ts left cells) ∧ W.grownBy wr none ∧ w1.heap.size < wr.heap.size) (fun _ wr => wr.rangeLeft BT w1.heap.size)
  case atStart =>
    refine ⟨_, _, _, rg, hrow.kept hg2 (Or.inr (by simp [Value.ownBlock])), ?_, hg1.trans hg2, by omega⟩
    refine ⟨by rw [hrow.1, unhide HSZ], fun i hi lt hk hleft => ?_⟩
    have := (unhide HALL _ _ hk).1
    rw [hleft] at this
    simp at this
  case round =>
    obtain ⟨left, cnt, cells, hrgs, hrw, hfill, hgw, hsw⟩ := hrel
    gi_wp2_with (gi_at_next; refine wpListIn_next_ranges _ rfl _ rfl 80 lawC (plainElem (H := Unit) Try.prog 3) mkC (Value.int .i64) (fun key kl h => keyC_inv h) (fun v y h => by obtain ⟨a, e, _⟩ := plainElem_int_inv Try.underlying3 h; exact ⟨a, e⟩) BT w1.heap.size ts.length D left cnt rfl hrgs ?_ ?_)
    · intro hc0 hl0
      obtain ⟨cur, hX, hcur⟩ := row_obj hrw
      have hcs : ∀ i (hi : i < ts.length) j, j < 2 → cur.toList[i * 2 + j]? = some (cellC ts[i] j) := fun i hi j hj => by
        obtain ⟨lt, hlt⟩ := hv ts[i] (List.getElem_mem hi)
        rw [hcur]; exact (unhide hfill).2 i hi lt hlt (hl0 lt) j hj
      have HCS := hide hcs
      have hJ0 := hJ 0 W wr none h0 hgw (fun r e => by cases e)
      have hsz1 : Maps.size D ≤ ts.length := Nat.le_of_eq (unhide HSZ)
      have hsz2 : ts.length ≤ Maps.size D := Nat.le_of_eq (unhide HSZ).symm
      clear hcs hl0 hrw hrgs hcur
      gi_wp2
      gi_loopw [24] (fun i wr2 => ∃ k : Nat, k ≤ ts.length ∧ i = .int .i64 k ∧ J k wr2 ∧ wr2.heap[W.heap.size]? = some (.cells cur 80 (0, 0))) (fun i _ => ts.length - (intOf i).toNat)
      case atStart => exact ⟨0, Nat.zero_le _, rfl, hJ0, hX⟩
      case round =>
        obtain ⟨k, hk, rfl, hJk, hXk⟩ := hrel
        by_cases hlt : k < ts.length
        · have k0 := cell_of_obj hXk (unhide HCS k hlt 0 (by omega))
          have k1 := cell_of_obj hXk (unhide HCS k hlt 1 (by omega))
          rw [Nat.add_zero] at k0
          simp only [cellC] at k0 k1
          have hyk := hY k (by simpa using hlt)
          rw [show (List.map (fun x => #[kvC x]) ts)[k]'(by simpa using hlt) = #[kvC ts[k]] by simp] at hyk
          have hbd : (k : Int) < (Maps.size D : Int) := by omega
          simp only [kvC] at hyk
          generalize ts[k] = t at k0 k1 hyk
          obtain ⟨tl, tf⟩ := t
          simp only at k0 k1 hyk
          simp at k1
          obtain ⟨fn, tmps, assign, body, hy, hR⟩ := hyk (wr.alloc (.cells #[.int .u8 tl, .int .i64 tf] 80)) (hJ k _ _ none hJk (World.grownBy_alloc _ _ _) (fun r e => by cases e))
          clear hyk
          gi_wp2
          refine hR.mono ?_
          rintro e W3 ⟨rfl, hJ3, hk3⟩
          have hX3 : W3.heap[W.heap.size]? = some (.cells cur 80 (0, 0)) := hk3 _ _ (Nat.le_trans hm0 hW.size) ((Below.heap_alloc _ _ _ (Array.getElem?_eq_some_iff.1 hXk).1).trans hXk) rfl
          clear hk3 hR hy
          gi_wp2
          go_roundw
          case rel => exact ⟨k + 1, by omega, by go_num, hJ3, hX3⟩
          case measure => simp [intOf]; omega
        · have hkk : k = ts.length := by omega
          have HKK := hide hkk
          clear hkk
          have hbd : ¬ (k : Int) < (Maps.size D : Int) := by omega
          gi_wp2
          go_end0
          refine ⟨⟨_, rfl⟩, ?_⟩
          rw [← unhide HKK]
          exact hJk
    · intro x0 x1 c kl y1 y2 w' cnt' hkey hlk hy hat hrg' hlt hgr hsz' hen
      obtain ⟨c', ec, ey, _⟩ := plainElem_int_inv Try.underlying3 hy
      have ec' : c = c' := by simpa using ec
      have ey' : y1 = .lit (.int .i64 c) := by rw [ec']; exact congrArg Prod.fst ey
      obtain ⟨t, ht, et, hct⟩ := entry_is lawC (unhide HALL) (unhide HBACK) hkey (c := c) (fun zd => by rw [hat zd, ey'])
      have hit := List.idxOf_lt_length_of_mem ht
      have hti : Hid (ts[ts.idxOf t] = t) := List.getElem_idxOf hit
      rw [et] at hen hkey ⊢
      rw [hct] at hen ⊢
      clear ec ec' ey ey' hy hat et hct hlk
      generalize ts.idxOf t = i at hit hti hen ⊢
      obtain ⟨tl, tf⟩ := t
      simp only [kvC] at hen ⊢
      have hrw' := hrw.kept hgr (Or.inr (by simp [Value.ownBlock]; omega))
      have hszD : Maps.size D = ts.length := unhide HSZ
      have hbd : (i : Int) < (Maps.size D : Int) := by omega
      have hcl : ∀ j, j < 2 → ∃ v, w'.cell? ⟨W.heap.size, i * 2 + j, none⟩ = some v := fun j hj => by
        rw [hrw'.cellAt (i * 2 + j) (by rw [hszD]; exact mul_lt hit hj)]
        exact ⟨_, List.getElem?_eq_getElem (by rw [(unhide hfill).1]; exact mul_lt hit hj)⟩
      obtain ⟨u0, k0⟩ := hcl 0 (by omega)
      obtain ⟨u1, k1⟩ := hcl 1 (by omega)
      rw [Nat.add_zero] at k0
      have z0 := hrw'.frozenAt (i * 2)
      have z1 := hrw'.frozenAt (i * 2 + 1)
      have HSD := hide hszD
      clear hcl hszD
      have hXlt' : W.heap.size < w'.heap.size := by omega
      have hne1 : W.heap.size ≠ w'.heap.size := by omega
      have HS := hide hsz'
      clear hsz'
      gi_wp2
      have hszW : w'.heap.size = wr.heap.size := unhide HS
      have hti' : ts[i] = (tl, tf) := unhide hti
      obtain ⟨q0, g0⟩ := hrw'.stored (i * 2) (.int .u8 tl)
      obtain ⟨q1, g1'⟩ := q0.stored (i * 2 + 1) (.int .i64 tf)
      have gX := g0.trans g1'
      have hbl := mul_lt hit (show 0 < 2 by omega)
      have hbl2 := mul_lt hit (show 1 < 2 by omega)
      have hcl : cells.length = ts.length * 2 := (unhide hfill).1
      have hF : Filled 80 2 kvC cellC ts (fun z => left z && !z.sameKey kl) ((cells.set (i * 2) (.int .u8 tl)).set (i * 2 + 1) (.int .i64 tf)) :=
        (unhide hfill).step lawC (fun _ _ => kvC_inj) hnd hit (by rw [hti']; exact hkey) (by simp) (fun j hj => by
          have h3 : j = 0 ∨ j = 1 := by omega
          rcases h3 with rfl | rfl
          · show ((cells.set (i * 2) (.int .u8 tl)).set (i * 2 + 1) (.int .i64 tf))[i * 2]? = _
            rw [List.getElem?_set_ne (by omega), List.getElem?_set_self (by omega), hti']; rfl
          · rw [List.getElem?_set_self (by simp; omega), hti']; rfl)
          (fun m hm => by
            have m0 := hm 0 (by omega)
            have m1 := hm 1 (by omega)
            rw [List.getElem?_set_ne (by omega), List.getElem?_set_ne (by omega)])
      have hrg2 := (hrg'.kept gX (by simp; omega) (by simp; omega)).alloc (.cells #[.int .u8 tl, .int .i64 tf] 80)
      refine ⟨⟨_, cnt', _, hrg2, q1.alloc _, hF, grow_new (grow_new (grow_new hgw hgr (by omega)) gX (Nat.le_refl _)) (World.grownBy_alloc _ _ (some (w1.heap.size))) (by omega), ?_⟩, ?_⟩
      · have := gX.size; simp [World.setCell]; omega
      · rw [hrg2.left_eq, hrgs.left_eq]; exact hlt

end Go.Proofs.Ythfjhjghohincaa
