import Derived.Test.YthcppbmkacbbiaaGreatClsM
import Derived.Test.YthcppbmkacbbiaaGreatKeysM
import Derived.RangeFuncBox
import Derived.Test.YthcppbmkacbbiaaGreatLstGM
import Derived.RangeFuncCalls
import Derived.OrdersIn
namespace Go.Proofs.YthcppbmkacbbiaaGreat
open Go.RowKit Go.Maps Go.WideMaps
open Rdg (Key put)

theorem alikeT_any (v : Option Addr) (n c : Nat) (w : World) : Calls Tryz.prog 78 #[.slice v n c] w fun e w' =>
    e = .returned (.func (.func 127) #[] #[.pointer (some ⟨w.heap.size, 0, none⟩)]) ∧ w' = w.alloc (.cells #[.slice v n c] 50) := by
  go_enter Tryz.func78, Tryz.ntmps78
  go_wp2_with fail
  go_ret
  exact ⟨rfl, rfl⟩

set_option maxRecDepth 100000 in
set_option maxHeartbeats 2000000 in
theorem alikiT_all (n : Nat) (hn : 2 ≤ n) (X G cap m0 : Nat) (keys : List Key) (w : World) (hm0 : m0 ≤ w.heap.size) (hl : keys.length ≤ 500)
    (hX : w.cell? ⟨X, 0, none⟩ = some (.slice (some ⟨G, 0, none⟩) keys.length cap)) (hG : RowsT w G keys) (hv : ∀ x ∈ keys, ∃ l, keyOf Tryz.prog 87 (kvT x) = some l) :
    SeqAllX Fence.wide n Tryz.prog 127 #[.pointer (some ⟨X, 0, none⟩)] ((prs keys keys.length).map fun p => #[.int .i64 p.1, .int .i64 p.2]) (KA m0 X G) w := by
  intro l J Jx W hW hJ hJx hY h0
  have hXW : W.cell? ⟨X, 0, none⟩ = some (.slice (some ⟨G, 0, none⟩) keys.length cap) := (hW.cell (p := ⟨X, 0, none⟩) (World.block_lt_of_cell? w _ hX)).trans hX
  have hlX : X < W.heap.size := World.block_lt_of_cell? W _ hXW
  have hlG : G < W.heap.size := Nat.lt_of_lt_of_le hG.1 hW.size
  have hGW : RowsT W G keys := hG.below hW hG.1
  have hmm := fun z => run_makeMap_hint (P := Tryz.prog) Tryz.underlying75 .i64 z W
  have hsW := hW.size
  refine callsIn_of_wp Tryz.func127 rfl trivial ?_ rfl
  simp only [Tryz.ntmps127, List.size_toArray, List.length_cons, List.length_nil, Nat.reduceAdd, Nat.reduceSub, Array.replicate_succ, Array.replicate_zero, List.push_toArray, List.append_toArray, List.nil_append, List.cons_append]
  gi_wp2
  obtain ⟨W1, hW1⟩ : ∃ W1, W.alloc (.map #[] 0) = W1 := ⟨_, rfl⟩
  have hg1 : W.grownBy W1 none := by rw [← hW1]; exact World.grownBy_alloc _ _ none
  have hF1 : FMap W1 87 W.heap.size kvT ([] : List Key) := by rw [← hW1]; exact fmap_made W _ _
  have hs1 : W.heap.size < W1.heap.size := by rw [← hW1]; simp
  have hX1 : W1.heap[X]? = W.heap[X]? := hg1.block X hlX (by simp)
  have hG1 : W1.heap[G]? = W.heap[G]? := hg1.block G hlG (by simp)
  have hJ1 : J 0 W1 := hJ 0 W W1 none h0 hg1 (fun r e => by cases e)
  have hXc1 : W1.cell? ⟨X, 0, none⟩ = some (.slice (some ⟨G, 0, none⟩) keys.length cap) := (World.cell?_of_block hX1).trans hXW
  clear hmm
  rw [hW1]
  clear hW1
  gi_wp2
  gi_loopw [13] (fun i wr => ∃ k : Nat, k ≤ keys.length ∧ i = .int .i64 k ∧ J (prs keys k).length wr ∧ FMap wr 87 W.heap.size kvT (keys.take k) ∧ wr.heap[X]? = W.heap[X]? ∧ wr.heap[G]? = W.heap[G]?) (fun i _ => keys.length - (intOf i).toNat)
  case atStart => exact ⟨0, Nat.zero_le _, rfl, hJ1, hF1, hX1, hG1⟩
  case round =>
    obtain ⟨k, hk, rfl, hJk, hFk, hXk, hGk⟩ := hrel
    by_cases hlt : k < keys.length
    · have hbd : (k : Int) < (keys.length : Int) := by omega
      have hGr := (hGW.same hGk).2 k hlt
      have htk : keys.take (k + 1) = keys.take k ++ [keys[k]] := by rw [List.take_add_one, List.getElem?_eq_getElem hlt]; rfl
      obtain ⟨lt, hlt'⟩ := hv keys[k] (List.getElem_mem hlt)
      have hpr := prs_step hlt
      have hat := prs_at (keys := keys) hlt
      have hlF := hFk.lt
      have hwk := hFk.walk
      obtain ⟨D, nn, h0n, hown, hall⟩ := id hFk
      have hka := hall _ _ hlt'
      have htidy := hown.tidy lawT
      have hnn : nn ≤ 500 := by rw [List.length_take] at h0n; omega
      have HALL := hide hall
      have HF := hide hFk
      have HN := hide h0n
      clear hall hFk h0n
      cases hc : (keys.take k).contains keys[k]
      · rw [hc] at hka hpr
        have hhas : Maps.has D lt = false := hka.1
        have HTK := hide htk
        have HPR := hide hpr
        have HC := hide hc
        have HK := hide hlt'
        have hkey := hlt'
        clear hka htk hpr hc hat hlt'
        generalize keys[k] = key at hGr hkey HTK HPR HC HK
        obtain ⟨tl, tf, tsd⟩ := key
        simp only at hGr
        simp only [kvT] at hkey
        obtain ⟨g0, g1, g2⟩ := hGr
        gi_wp2_with (first
          | (gi_at_lookup; refine wpListIn_lookup_own_ok_int _ rfl _ _ 75 rfl 87 3 .i64 lawT Tryz.underlying75 Tryz.underlying3 (zeroE _) W.heap.size nn D rfl (hown.alloc _) _ lt rfl hkey ?_; intro c0 hat hwc)
          | (gi_at_mapUpdate; refine wpListIn_mapUpdate_own _ rfl _ _ _ 75 rfl 87 3 lawT Tryz.underlying75 _ W.heap.size nn D rfl (hown.alloc _) (by unfold maxLen; omega) _ _ lt rfl rfl hkey _ [] (plainElem_int Tryz.underlying3 (WalkArith.wf_i64 (by omega))) ?_; intro w5 hown5 hgrow5))
        have hlen : (keys.take k).length = k := by rw [List.length_take]; omega
        have hp2 := unhide HPR
        rw [if_neg (by decide)] at hp2
        obtain ⟨o, ho, hw⟩ := hwk
        have hga : wr.grownBy (wr.alloc (.cells #[.int .u8 tl, .int .i64 tf, .int .i64 tsd] 87)) none := World.grownBy_alloc _ _ none
        have hlXr : X < wr.heap.size := by have h1 := hlX; rw [Array.getElem?_eq_getElem h1] at hXk; exact (Array.getElem?_eq_some_iff.1 hXk).1
        have hlGr : G < wr.heap.size := by have h1 := hlG; rw [Array.getElem?_eq_getElem h1] at hGk; exact (Array.getElem?_eq_some_iff.1 hGk).1
        refine ⟨⟨k + 1, by omega, by go_num, ?_, ?_, ?_, ?_⟩, by simp [intOf]; omega⟩
        · rw [hp2]
          exact hJ _ _ w5 (some W.heap.size) (hJ _ wr _ none hJk hga (fun r e => by cases e)) hgrow5 (fun r e => by cases e; exact ⟨Nat.le_refl _, o, (hga.block _ hlF (by simp)).trans ho, hw⟩)
        · rw [unhide HTK]
          exact fmap_put (fun _ _ => kvT_inj) lawT (unhide HN) (unhide HALL) htidy (unhide HK) (unhide HC) (by rw [hlen]; exact hown5)
        · exact ((hgrow5.block X (Nat.lt_of_lt_of_le hlXr hga.size) (by simp; omega)).trans (hga.block X hlXr (by simp))).trans hXk
        · exact ((hgrow5.block G (Nat.lt_of_lt_of_le hlGr hga.size) (by simp; omega)).trans (hga.block G hlGr (by simp))).trans hGk
      · rw [hc] at hka hpr
        have hhas : Maps.has D lt = true := hka.1
        obtain ⟨hj, hje⟩ := hat hc
        have HAT := hide (hka.2 rfl)
        have HTK := hide htk
        have HPR := hide hpr
        have HC := hide hc
        have hkey := hlt'
        have hyk := hY (prs keys k).length (by simpa using hj)
        rw [show ((prs keys keys.length).map fun p : Nat × Nat => #[Value.int .i64 p.1, Value.int .i64 p.2])[(prs keys k).length]'(by simpa using hj) = #[Value.int .i64 ((keys.take k).idxOf keys[k] : Nat), Value.int .i64 k] by simp [hje]] at hyk
        have hfi : (keys.take k).idxOf keys[k] ≤ 500 := by have := List.idxOf_le_length (l := keys.take k) (a := keys[k]); rw [List.length_take] at this; omega
        clear hka htk hpr hc hat hlt' hje
        generalize (keys.take k).idxOf keys[k] = fi at HAT hyk HPR hfi
        generalize keys[k] = key at hGr hkey HTK HPR HC
        obtain ⟨tl, tf, tsd⟩ := key
        simp only at hGr
        simp only [kvT] at hkey
        obtain ⟨g0, g1, g2⟩ := hGr
        have hga : wr.grownBy (wr.alloc (.cells #[.int .u8 tl, .int .i64 tf, .int .i64 tsd] 87)) none := World.grownBy_alloc _ _ none
        obtain ⟨fn, tmps, assign, body, hy, hR⟩ := hyk (wr.alloc (.cells #[.int .u8 tl, .int .i64 tf, .int .i64 tsd] 87)) (hJ _ wr _ none hJk hga (fun r e => by cases e))
        clear hyk
        have hlXr : X < wr.heap.size := by have h1 := hlX; rw [Array.getElem?_eq_getElem h1] at hXk; exact (Array.getElem?_eq_some_iff.1 hXk).1
        have hlGr : G < wr.heap.size := by have h1 := hlG; rw [Array.getElem?_eq_getElem h1] at hGk; exact (Array.getElem?_eq_some_iff.1 hGk).1
        gi_wp2_with (gi_at_lookup; refine wpListIn_lookup_own_ok_int _ rfl _ _ 75 rfl 87 3 .i64 lawT Tryz.underlying75 Tryz.underlying3 (zeroE _) W.heap.size nn D rfl (hown.alloc _) _ lt rfl hkey ?_; intro c0 hat hwc; have hc0 : c0 = (fi : Int) := by {have h := hat.symm.trans (unhide HAT); simpa using h}; subst hc0; clear hat hwc)
        refine ⟨fun _ => by omega, hR.mono ?_⟩
        rintro e W3 (⟨rfl, hJ3, hk3⟩ | ⟨rfl, hx3⟩)
        · have hX3 : W3.heap[X]? = W.heap[X]? := hk3.2.1.trans ((hga.block X hlXr (by simp)).trans hXk)
          have hG3 : W3.heap[G]? = W.heap[G]? := hk3.2.2.trans ((hga.block G hlGr (by simp)).trans hGk)
          obtain ⟨o, ho, hw⟩ := hwk
          have hB3 : W3.heap[W.heap.size]? = wr.heap[W.heap.size]? := (hk3.1 _ o (by omega) ((hga.block _ hlF (by simp)).trans ho) (Or.inr hw)).trans ho.symm
          clear hk3 hR hy
          gi_wp2
          go_roundw
          case rel =>
            refine ⟨k + 1, by omega, by go_num, ?_, ?_, hX3, hG3⟩
            · have hp2 : prs keys (k + 1) = prs keys k ++ [(fi, k)] := unhide HPR
              rw [hp2, List.length_append]
              exact hJ3
            · rw [unhide HTK]
              exact ((unhide HF).kept hB3).again (unhide HC)
          case measure => simp [intOf]; omega
        · clear hR hy
          gi_wp2
          (try simp only [Exit.inBlock, Exit.then])
          exact bodyPost_ret (results_none rfl _ _ _) rfl ⟨⟨_, rfl⟩, Or.inr hx3⟩
    · have hkk : k = keys.length := by omega
      have HKK := hide hkk
      clear hkk
      have hbd : ¬ (k : Int) < (keys.length : Int) := by omega
      gi_wp2
      go_end0
      refine ⟨⟨_, rfl⟩, Or.inl ?_⟩
      rw [← unhide HKK]
      exact hJk

end Go.Proofs.YthcppbmkacbbiaaGreat

namespace Go.Proofs.YthcppbmkacbbiaaGreat
open Go.RowKit Go.Maps Go.WideMaps
open Rdg (Key put)

theorem alikeC_any (v : Option Addr) (n c : Nat) (w : World) : Calls Tryz.prog 128 #[.slice v n c] w fun e w' =>
    e = .returned (.func (.func 171) #[] #[.pointer (some ⟨w.heap.size, 0, none⟩)]) ∧ w' = w.alloc (.cells #[.slice v n c] 51) := by
  go_enter Tryz.func128, Tryz.ntmps128
  go_wp2_with fail
  go_ret
  exact ⟨rfl, rfl⟩

set_option maxRecDepth 100000 in
set_option maxHeartbeats 2000000 in
theorem alikiC_all (n : Nat) (hn : 2 ≤ n) (X G cap m0 : Nat) (keys : List (Int × Nat)) (w : World) (hm0 : m0 ≤ w.heap.size) (hl : keys.length ≤ 500)
    (hX : w.cell? ⟨X, 0, none⟩ = some (.slice (some ⟨G, 0, none⟩) keys.length cap)) (hG : RowsC w G keys) (hv : ∀ x ∈ keys, ∃ l, keyOf Tryz.prog 90 (kvC x) = some l) :
    SeqAllX Fence.wide n Tryz.prog 171 #[.pointer (some ⟨X, 0, none⟩)] ((prs keys keys.length).map fun p => #[.int .i64 p.1, .int .i64 p.2]) (KA m0 X G) w := by
  intro l J Jx W hW hJ hJx hY h0
  have hXW : W.cell? ⟨X, 0, none⟩ = some (.slice (some ⟨G, 0, none⟩) keys.length cap) := (hW.cell (p := ⟨X, 0, none⟩) (World.block_lt_of_cell? w _ hX)).trans hX
  have hlX : X < W.heap.size := World.block_lt_of_cell? W _ hXW
  have hlG : G < W.heap.size := Nat.lt_of_lt_of_le hG.1 hW.size
  have hGW : RowsC W G keys := hG.below hW hG.1
  have hmm := fun z => run_makeMap_hint (P := Tryz.prog) Tryz.underlying77 .i64 z W
  have hsW := hW.size
  refine callsIn_of_wp Tryz.func171 rfl trivial ?_ rfl
  simp only [Tryz.ntmps171, List.size_toArray, List.length_cons, List.length_nil, Nat.reduceAdd, Nat.reduceSub, Array.replicate_succ, Array.replicate_zero, List.push_toArray, List.append_toArray, List.nil_append, List.cons_append]
  gi_wp2
  obtain ⟨W1, hW1⟩ : ∃ W1, W.alloc (.map #[] 0) = W1 := ⟨_, rfl⟩
  have hg1 : W.grownBy W1 none := by rw [← hW1]; exact World.grownBy_alloc _ _ none
  have hF1 : FMap W1 90 W.heap.size kvC ([] : List (Int × Nat)) := by rw [← hW1]; exact fmap_made W _ _
  have hs1 : W.heap.size < W1.heap.size := by rw [← hW1]; simp
  have hX1 : W1.heap[X]? = W.heap[X]? := hg1.block X hlX (by simp)
  have hG1 : W1.heap[G]? = W.heap[G]? := hg1.block G hlG (by simp)
  have hJ1 : J 0 W1 := hJ 0 W W1 none h0 hg1 (fun r e => by cases e)
  have hXc1 : W1.cell? ⟨X, 0, none⟩ = some (.slice (some ⟨G, 0, none⟩) keys.length cap) := (World.cell?_of_block hX1).trans hXW
  clear hmm
  rw [hW1]
  clear hW1
  gi_wp2
  gi_loopw [13] (fun i wr => ∃ k : Nat, k ≤ keys.length ∧ i = .int .i64 k ∧ J (prs keys k).length wr ∧ FMap wr 90 W.heap.size kvC (keys.take k) ∧ wr.heap[X]? = W.heap[X]? ∧ wr.heap[G]? = W.heap[G]?) (fun i _ => keys.length - (intOf i).toNat)
  case atStart => exact ⟨0, Nat.zero_le _, rfl, hJ1, hF1, hX1, hG1⟩
  case round =>
    obtain ⟨k, hk, rfl, hJk, hFk, hXk, hGk⟩ := hrel
    by_cases hlt : k < keys.length
    · have hbd : (k : Int) < (keys.length : Int) := by omega
      have hGr := (hGW.same hGk).2 k hlt
      have htk : keys.take (k + 1) = keys.take k ++ [keys[k]] := by rw [List.take_add_one, List.getElem?_eq_getElem hlt]; rfl
      obtain ⟨lt, hlt'⟩ := hv keys[k] (List.getElem_mem hlt)
      have hpr := prs_step hlt
      have hat := prs_at (keys := keys) hlt
      have hlF := hFk.lt
      have hwk := hFk.walk
      obtain ⟨D, nn, h0n, hown, hall⟩ := id hFk
      have hka := hall _ _ hlt'
      have htidy := hown.tidy lawC
      have hnn : nn ≤ 500 := by rw [List.length_take] at h0n; omega
      have HALL := hide hall
      have HF := hide hFk
      have HN := hide h0n
      clear hall hFk h0n
      cases hc : (keys.take k).contains keys[k]
      · rw [hc] at hka hpr
        have hhas : Maps.has D lt = false := hka.1
        have HTK := hide htk
        have HPR := hide hpr
        have HC := hide hc
        have HK := hide hlt'
        have hkey := hlt'
        clear hka htk hpr hc hat hlt'
        generalize keys[k] = key at hGr hkey HTK HPR HC HK
        obtain ⟨tl, tf⟩ := key
        simp only at hGr
        simp only [kvC] at hkey
        obtain ⟨g0, g1⟩ := hGr
        gi_wp2_with (first
          | (gi_at_lookup; refine wpListIn_lookup_own_ok_int _ rfl _ _ 77 rfl 90 3 .i64 lawC Tryz.underlying77 Tryz.underlying3 (zeroE _) W.heap.size nn D rfl (hown.alloc _) _ lt rfl hkey ?_; intro c0 hat hwc)
          | (gi_at_mapUpdate; refine wpListIn_mapUpdate_own _ rfl _ _ _ 77 rfl 90 3 lawC Tryz.underlying77 _ W.heap.size nn D rfl (hown.alloc _) (by unfold maxLen; omega) _ _ lt rfl rfl hkey _ [] (plainElem_int Tryz.underlying3 (WalkArith.wf_i64 (by omega))) ?_; intro w5 hown5 hgrow5))
        have hlen : (keys.take k).length = k := by rw [List.length_take]; omega
        have hp2 := unhide HPR
        rw [if_neg (by decide)] at hp2
        obtain ⟨o, ho, hw⟩ := hwk
        have hga : wr.grownBy (wr.alloc (.cells #[.int .u8 tl, .int .i64 tf] 90)) none := World.grownBy_alloc _ _ none
        have hlXr : X < wr.heap.size := by have h1 := hlX; rw [Array.getElem?_eq_getElem h1] at hXk; exact (Array.getElem?_eq_some_iff.1 hXk).1
        have hlGr : G < wr.heap.size := by have h1 := hlG; rw [Array.getElem?_eq_getElem h1] at hGk; exact (Array.getElem?_eq_some_iff.1 hGk).1
        refine ⟨⟨k + 1, by omega, by go_num, ?_, ?_, ?_, ?_⟩, by simp [intOf]; omega⟩
        · rw [hp2]
          exact hJ _ _ w5 (some W.heap.size) (hJ _ wr _ none hJk hga (fun r e => by cases e)) hgrow5 (fun r e => by cases e; exact ⟨Nat.le_refl _, o, (hga.block _ hlF (by simp)).trans ho, hw⟩)
        · rw [unhide HTK]
          exact fmap_put (fun _ _ => kvC_inj) lawC (unhide HN) (unhide HALL) htidy (unhide HK) (unhide HC) (by rw [hlen]; exact hown5)
        · exact ((hgrow5.block X (Nat.lt_of_lt_of_le hlXr hga.size) (by simp; omega)).trans (hga.block X hlXr (by simp))).trans hXk
        · exact ((hgrow5.block G (Nat.lt_of_lt_of_le hlGr hga.size) (by simp; omega)).trans (hga.block G hlGr (by simp))).trans hGk
      · rw [hc] at hka hpr
        have hhas : Maps.has D lt = true := hka.1
        obtain ⟨hj, hje⟩ := hat hc
        have HAT := hide (hka.2 rfl)
        have HTK := hide htk
        have HPR := hide hpr
        have HC := hide hc
        have hkey := hlt'
        have hyk := hY (prs keys k).length (by simpa using hj)
        rw [show ((prs keys keys.length).map fun p : Nat × Nat => #[Value.int .i64 p.1, Value.int .i64 p.2])[(prs keys k).length]'(by simpa using hj) = #[Value.int .i64 ((keys.take k).idxOf keys[k] : Nat), Value.int .i64 k] by simp [hje]] at hyk
        have hfi : (keys.take k).idxOf keys[k] ≤ 500 := by have := List.idxOf_le_length (l := keys.take k) (a := keys[k]); rw [List.length_take] at this; omega
        clear hka htk hpr hc hat hlt' hje
        generalize (keys.take k).idxOf keys[k] = fi at HAT hyk HPR hfi
        generalize keys[k] = key at hGr hkey HTK HPR HC
        obtain ⟨tl, tf⟩ := key
        simp only at hGr
        simp only [kvC] at hkey
        obtain ⟨g0, g1⟩ := hGr
        have hga : wr.grownBy (wr.alloc (.cells #[.int .u8 tl, .int .i64 tf] 90)) none := World.grownBy_alloc _ _ none
        obtain ⟨fn, tmps, assign, body, hy, hR⟩ := hyk (wr.alloc (.cells #[.int .u8 tl, .int .i64 tf] 90)) (hJ _ wr _ none hJk hga (fun r e => by cases e))
        clear hyk
        have hlXr : X < wr.heap.size := by have h1 := hlX; rw [Array.getElem?_eq_getElem h1] at hXk; exact (Array.getElem?_eq_some_iff.1 hXk).1
        have hlGr : G < wr.heap.size := by have h1 := hlG; rw [Array.getElem?_eq_getElem h1] at hGk; exact (Array.getElem?_eq_some_iff.1 hGk).1
        gi_wp2_with (gi_at_lookup; refine wpListIn_lookup_own_ok_int _ rfl _ _ 77 rfl 90 3 .i64 lawC Tryz.underlying77 Tryz.underlying3 (zeroE _) W.heap.size nn D rfl (hown.alloc _) _ lt rfl hkey ?_; intro c0 hat hwc; have hc0 : c0 = (fi : Int) := by {have h := hat.symm.trans (unhide HAT); simpa using h}; subst hc0; clear hat hwc)
        refine ⟨fun _ => by omega, hR.mono ?_⟩
        rintro e W3 (⟨rfl, hJ3, hk3⟩ | ⟨rfl, hx3⟩)
        · have hX3 : W3.heap[X]? = W.heap[X]? := hk3.2.1.trans ((hga.block X hlXr (by simp)).trans hXk)
          have hG3 : W3.heap[G]? = W.heap[G]? := hk3.2.2.trans ((hga.block G hlGr (by simp)).trans hGk)
          obtain ⟨o, ho, hw⟩ := hwk
          have hB3 : W3.heap[W.heap.size]? = wr.heap[W.heap.size]? := (hk3.1 _ o (by omega) ((hga.block _ hlF (by simp)).trans ho) (Or.inr hw)).trans ho.symm
          clear hk3 hR hy
          gi_wp2
          go_roundw
          case rel =>
            refine ⟨k + 1, by omega, by go_num, ?_, ?_, hX3, hG3⟩
            · have hp2 : prs keys (k + 1) = prs keys k ++ [(fi, k)] := unhide HPR
              rw [hp2, List.length_append]
              exact hJ3
            · rw [unhide HTK]
              exact ((unhide HF).kept hB3).again (unhide HC)
          case measure => simp [intOf]; omega
        · clear hR hy
          gi_wp2
          (try simp only [Exit.inBlock, Exit.then])
          exact bodyPost_ret (results_none rfl _ _ _) rfl ⟨⟨_, rfl⟩, Or.inr hx3⟩
    · have hkk : k = keys.length := by omega
      have HKK := hide hkk
      clear hkk
      have hbd : ¬ (k : Int) < (keys.length : Int) := by omega
      gi_wp2
      go_end0
      refine ⟨⟨_, rfl⟩, Or.inl ?_⟩
      rw [← unhide HKK]
      exact hJk

end Go.Proofs.YthcppbmkacbbiaaGreat

namespace Go.Proofs.YthcppbmkacbbiaaGreat
open Go.RowKit Go.Maps Go.WideMaps
open Rdg (Key put)

theorem alikeB_any (v : Option Addr) (n c : Nat) (w : World) : Calls Tryz.prog 149 #[.slice v n c] w fun e w' =>
    e = .returned (.func (.func 189) #[] #[.pointer (some ⟨w.heap.size, 0, none⟩)]) ∧ w' = w.alloc (.cells #[.slice v n c] 107) := by
  go_enter Tryz.func149, Tryz.ntmps149
  go_wp2_with fail
  go_ret
  exact ⟨rfl, rfl⟩

set_option maxRecDepth 100000 in
set_option maxHeartbeats 2000000 in
theorem alikiB_all (n : Nat) (hn : 2 ≤ n) (X G cap m0 : Nat) (keys : List UInt8) (w : World) (hm0 : m0 ≤ w.heap.size) (hl : keys.length ≤ 500)
    (hX : w.cell? ⟨X, 0, none⟩ = some (.slice (some ⟨G, 0, none⟩) keys.length cap)) (hG : RowsB w G keys) (hv : ∀ x ∈ keys, ∃ l, keyOf Tryz.prog 5 (kvB x) = some l) :
    SeqAllX Fence.wide n Tryz.prog 189 #[.pointer (some ⟨X, 0, none⟩)] ((prs keys keys.length).map fun p => #[.int .i64 p.1, .int .i64 p.2]) (KA m0 X G) w := by
  intro l J Jx W hW hJ hJx hY h0
  have hXW : W.cell? ⟨X, 0, none⟩ = some (.slice (some ⟨G, 0, none⟩) keys.length cap) := (hW.cell (p := ⟨X, 0, none⟩) (World.block_lt_of_cell? w _ hX)).trans hX
  have hlX : X < W.heap.size := World.block_lt_of_cell? W _ hXW
  have hlG : G < W.heap.size := Nat.lt_of_lt_of_le hG.1 hW.size
  have hGW : RowsB W G keys := hG.below hW hG.1
  have hmm := fun z => run_makeMap_hint (P := Tryz.prog) Tryz.underlying272 .i64 z W
  have hsW := hW.size
  refine callsIn_of_wp Tryz.func189 rfl trivial ?_ rfl
  simp only [Tryz.ntmps189, List.size_toArray, List.length_cons, List.length_nil, Nat.reduceAdd, Nat.reduceSub, Array.replicate_succ, Array.replicate_zero, List.push_toArray, List.append_toArray, List.nil_append, List.cons_append]
  gi_wp2
  obtain ⟨W1, hW1⟩ : ∃ W1, W.alloc (.map #[] 0) = W1 := ⟨_, rfl⟩
  have hg1 : W.grownBy W1 none := by rw [← hW1]; exact World.grownBy_alloc _ _ none
  have hF1 : FMap W1 5 W.heap.size kvB ([] : List UInt8) := by rw [← hW1]; exact fmap_made W _ _
  have hs1 : W.heap.size < W1.heap.size := by rw [← hW1]; simp
  have hX1 : W1.heap[X]? = W.heap[X]? := hg1.block X hlX (by simp)
  have hG1 : W1.heap[G]? = W.heap[G]? := hg1.block G hlG (by simp)
  have hJ1 : J 0 W1 := hJ 0 W W1 none h0 hg1 (fun r e => by cases e)
  have hXc1 : W1.cell? ⟨X, 0, none⟩ = some (.slice (some ⟨G, 0, none⟩) keys.length cap) := (World.cell?_of_block hX1).trans hXW
  clear hmm
  rw [hW1]
  clear hW1
  gi_wp2
  gi_loopw [13] (fun i wr => ∃ k : Nat, k ≤ keys.length ∧ i = .int .i64 k ∧ J (prs keys k).length wr ∧ FMap wr 5 W.heap.size kvB (keys.take k) ∧ wr.heap[X]? = W.heap[X]? ∧ wr.heap[G]? = W.heap[G]?) (fun i _ => keys.length - (intOf i).toNat)
  case atStart => exact ⟨0, Nat.zero_le _, rfl, hJ1, hF1, hX1, hG1⟩
  case round =>
    obtain ⟨k, hk, rfl, hJk, hFk, hXk, hGk⟩ := hrel
    by_cases hlt : k < keys.length
    · have hbd : (k : Int) < (keys.length : Int) := by omega
      have hGr := (hGW.same hGk).2 k hlt
      have htk : keys.take (k + 1) = keys.take k ++ [keys[k]] := by rw [List.take_add_one, List.getElem?_eq_getElem hlt]; rfl
      obtain ⟨lt, hlt'⟩ := hv keys[k] (List.getElem_mem hlt)
      have hpr := prs_step hlt
      have hat := prs_at (keys := keys) hlt
      have hlF := hFk.lt
      have hwk := hFk.walk
      obtain ⟨D, nn, h0n, hown, hall⟩ := id hFk
      have hka := hall _ _ hlt'
      have htidy := hown.tidy lawB
      have hnn : nn ≤ 500 := by rw [List.length_take] at h0n; omega
      have HALL := hide hall
      have HF := hide hFk
      have HN := hide h0n
      clear hall hFk h0n
      cases hc : (keys.take k).contains keys[k]
      · rw [hc] at hka hpr
        have hhas : Maps.has D lt = false := hka.1
        have HTK := hide htk
        have HPR := hide hpr
        have HC := hide hc
        have HK := hide hlt'
        have hkey := hlt'
        clear hka htk hpr hc hat hlt'
        generalize keys[k] = key at hGr hkey HTK HPR HC HK
        simp only [kvB] at hkey
        gi_wp2_with (first
          | (gi_at_lookup; refine wpListIn_lookup_own_ok_int _ rfl _ _ 272 rfl 5 3 .i64 lawB Tryz.underlying272 Tryz.underlying3 (zeroE _) W.heap.size nn D rfl hown _ lt rfl hkey ?_; intro c0 hat hwc)
          | (gi_at_mapUpdate; refine wpListIn_mapUpdate_own _ rfl _ _ _ 272 rfl 5 3 lawB Tryz.underlying272 _ W.heap.size nn D rfl hown (by unfold maxLen; omega) _ _ lt rfl rfl hkey _ [] (plainElem_int Tryz.underlying3 (WalkArith.wf_i64 (by omega))) ?_; intro w5 hown5 hgrow5))
        have hlen : (keys.take k).length = k := by rw [List.length_take]; omega
        have hp2 := unhide HPR
        rw [if_neg (by decide)] at hp2
        obtain ⟨o, ho, hw⟩ := hwk
        have hga : wr.grownBy wr none := ⟨rfl, rfl, rfl, Nat.le_refl _, fun _ _ _ => rfl⟩
        have hlXr : X < wr.heap.size := by have h1 := hlX; rw [Array.getElem?_eq_getElem h1] at hXk; exact (Array.getElem?_eq_some_iff.1 hXk).1
        have hlGr : G < wr.heap.size := by have h1 := hlG; rw [Array.getElem?_eq_getElem h1] at hGk; exact (Array.getElem?_eq_some_iff.1 hGk).1
        refine ⟨⟨k + 1, by omega, by go_num, ?_, ?_, ?_, ?_⟩, by simp [intOf]; omega⟩
        · rw [hp2]
          exact hJ _ _ w5 (some W.heap.size) (hJ _ wr _ none hJk hga (fun r e => by cases e)) hgrow5 (fun r e => by cases e; exact ⟨Nat.le_refl _, o, (hga.block _ hlF (by simp)).trans ho, hw⟩)
        · rw [unhide HTK]
          exact fmap_put (fun _ _ => kvB_inj) lawB (unhide HN) (unhide HALL) htidy (unhide HK) (unhide HC) (by rw [hlen]; exact hown5)
        · exact ((hgrow5.block X (Nat.lt_of_lt_of_le hlXr hga.size) (by simp; omega)).trans (hga.block X hlXr (by simp))).trans hXk
        · exact ((hgrow5.block G (Nat.lt_of_lt_of_le hlGr hga.size) (by simp; omega)).trans (hga.block G hlGr (by simp))).trans hGk
      · rw [hc] at hka hpr
        have hhas : Maps.has D lt = true := hka.1
        obtain ⟨hj, hje⟩ := hat hc
        have HAT := hide (hka.2 rfl)
        have HTK := hide htk
        have HPR := hide hpr
        have HC := hide hc
        have hkey := hlt'
        have hyk := hY (prs keys k).length (by simpa using hj)
        rw [show ((prs keys keys.length).map fun p : Nat × Nat => #[Value.int .i64 p.1, Value.int .i64 p.2])[(prs keys k).length]'(by simpa using hj) = #[Value.int .i64 ((keys.take k).idxOf keys[k] : Nat), Value.int .i64 k] by simp [hje]] at hyk
        have hfi : (keys.take k).idxOf keys[k] ≤ 500 := by have := List.idxOf_le_length (l := keys.take k) (a := keys[k]); rw [List.length_take] at this; omega
        clear hka htk hpr hc hat hlt' hje
        generalize (keys.take k).idxOf keys[k] = fi at HAT hyk HPR hfi
        generalize keys[k] = key at hGr hkey HTK HPR HC
        simp only [kvB] at hkey
        have hga : wr.grownBy wr none := ⟨rfl, rfl, rfl, Nat.le_refl _, fun _ _ _ => rfl⟩
        obtain ⟨fn, tmps, assign, body, hy, hR⟩ := hyk wr hJk
        clear hyk
        have hlXr : X < wr.heap.size := by have h1 := hlX; rw [Array.getElem?_eq_getElem h1] at hXk; exact (Array.getElem?_eq_some_iff.1 hXk).1
        have hlGr : G < wr.heap.size := by have h1 := hlG; rw [Array.getElem?_eq_getElem h1] at hGk; exact (Array.getElem?_eq_some_iff.1 hGk).1
        gi_wp2_with (gi_at_lookup; refine wpListIn_lookup_own_ok_int _ rfl _ _ 272 rfl 5 3 .i64 lawB Tryz.underlying272 Tryz.underlying3 (zeroE _) W.heap.size nn D rfl hown _ lt rfl hkey ?_; intro c0 hat hwc; have hc0 : c0 = (fi : Int) := by {have h := hat.symm.trans (unhide HAT); simpa using h}; subst hc0; clear hat hwc)
        refine ⟨fun _ => by omega, hR.mono ?_⟩
        rintro e W3 (⟨rfl, hJ3, hk3⟩ | ⟨rfl, hx3⟩)
        · have hX3 : W3.heap[X]? = W.heap[X]? := hk3.2.1.trans ((hga.block X hlXr (by simp)).trans hXk)
          have hG3 : W3.heap[G]? = W.heap[G]? := hk3.2.2.trans ((hga.block G hlGr (by simp)).trans hGk)
          obtain ⟨o, ho, hw⟩ := hwk
          have hB3 : W3.heap[W.heap.size]? = wr.heap[W.heap.size]? := (hk3.1 _ o (by omega) ((hga.block _ hlF (by simp)).trans ho) (Or.inr hw)).trans ho.symm
          clear hk3 hR hy
          gi_wp2
          go_roundw
          case rel =>
            refine ⟨k + 1, by omega, by go_num, ?_, ?_, hX3, hG3⟩
            · have hp2 : prs keys (k + 1) = prs keys k ++ [(fi, k)] := unhide HPR
              rw [hp2, List.length_append]
              exact hJ3
            · rw [unhide HTK]
              exact ((unhide HF).kept hB3).again (unhide HC)
          case measure => simp [intOf]; omega
        · clear hR hy
          gi_wp2
          (try simp only [Exit.inBlock, Exit.then])
          exact bodyPost_ret (results_none rfl _ _ _) rfl ⟨⟨_, rfl⟩, Or.inr hx3⟩
    · have hkk : k = keys.length := by omega
      have HKK := hide hkk
      clear hkk
      have hbd : ¬ (k : Int) < (keys.length : Int) := by omega
      gi_wp2
      go_end0
      refine ⟨⟨_, rfl⟩, Or.inl ?_⟩
      rw [← unhide HKK]
      exact hJk

end Go.Proofs.YthcppbmkacbbiaaGreat

namespace Go.Proofs.YthcppbmkacbbiaaGreat
open Go.RowKit Go.Maps Go.WideMaps

section
variable {α : Type} [BEq α]

/-- Where the key at place i stands first. -/
def fi (keys : List α) (i : Nat) : Nat := match keys[i]? with | some x => keys.idxOf x | none => i

theorem fi_at {keys : List α} {i : Nat} (hi : i < keys.length) : fi keys i = keys.idxOf keys[i] := by unfold fi; rw [List.getElem?_eq_getElem hi]

theorem idx_take [LawfulBEq α] {keys : List α} {k : Nat} {x : α} (h : x ∈ keys.take k) : (keys.take k).idxOf x = keys.idxOf x := by
  have e := List.take_append_drop k keys
  have h2 : (keys.take k ++ keys.drop k).idxOf x = (keys.take k).idxOf x := by rw [List.idxOf_append]; simp [h]
  rw [e] at h2
  exact h2.symm

theorem fi_le [LawfulBEq α] (keys : List α) (i : Nat) (hi : i < keys.length) : fi keys i ≤ i := by
  rw [fi_at hi]
  rcases Nat.lt_or_ge i (keys.idxOf keys[i]) with h | h
  · have h1 : keys[i] ∈ keys.take (i + 1) := by
      rw [List.mem_take_iff_getElem]
      exact ⟨i, by omega, rfl⟩
    have h2 := idx_take h1
    have h3 := List.idxOf_lt_length_of_mem h1
    rw [List.length_take] at h3
    omega
  · exact h

theorem fi_fi [LawfulBEq α] (keys : List α) (i : Nat) (hi : i < keys.length) : fi keys (fi keys i) = fi keys i := by
  have h := fi_le keys i hi
  rw [fi_at (i := fi keys i) (by omega)]
  have h2 : keys.idxOf keys[i] < keys.length := List.idxOf_lt_length_of_mem (List.getElem_mem hi)
  have e : keys[fi keys i]'(by omega) = keys[i] := by
    have h3 := List.getElem_idxOf h2
    simp only [fi_at hi]
    exact h3
  rw [e, fi_at hi]

theorem fi_eq [LawfulBEq α] {keys : List α} {i j : Nat} (hi : i < keys.length) (hj : j < keys.length) : fi keys i = fi keys j ↔ keys[i] = keys[j] := by
  rw [fi_at hi, fi_at hj]
  constructor
  · intro h
    have h1 := List.getElem_idxOf (List.idxOf_lt_length_of_mem (List.getElem_mem hi))
    have h2 := List.getElem_idxOf (List.idxOf_lt_length_of_mem (List.getElem_mem hj))
    rw [← h1, ← h2]
    simp only [h]
  · intro h; rw [h]

theorem fi_lt [LawfulBEq α] {keys : List α} {k : Nat} (hk : k < keys.length) : (keys.take k).contains keys[k] = true ↔ fi keys k < k := by
  rw [fi_at hk]
  constructor
  · intro h
    have hm : keys[k] ∈ keys.take k := by simpa using h
    have h3 := List.idxOf_lt_length_of_mem hm
    rw [idx_take hm, List.length_take] at h3
    omega
  · intro h
    have h2 : keys.idxOf keys[k] < keys.length := by omega
    have h1 := List.getElem_idxOf h2
    have hm : keys[k] ∈ keys.take k := by
      rw [List.mem_take_iff_getElem]
      exact ⟨keys.idxOf keys[k], by omega, h1⟩
    simpa using hm

theorem prs_mem [LawfulBEq α] (keys : List α) : ∀ k, k ≤ keys.length → ∀ p, p ∈ prs keys k ↔ (p.2 < k ∧ p.1 = fi keys p.2 ∧ p.1 < p.2) := by
  intro k
  induction k with
  | zero => intro _ p; simp [prs]
  | succ k ih =>
    intro hk p
    have hlt : k < keys.length := by omega
    rw [prs_step hlt]
    by_cases hc : (keys.take k).contains keys[k] = true
    · rw [if_pos hc, List.mem_append, ih (by omega)]
      have hm : keys[k] ∈ keys.take k := by simpa using hc
      have hf := (fi_lt hlt).1 hc
      constructor
      · rintro (⟨h1, h2, h3⟩ | h)
        · exact ⟨by omega, h2, h3⟩
        · simp only [List.mem_singleton] at h
          subst h
          simp only
          rw [idx_take hm, ← fi_at hlt]
          exact ⟨by omega, rfl, hf⟩
      · rintro ⟨h1, h2, h3⟩
        by_cases e : p.2 = k
        · right
          obtain ⟨p1, p2⟩ := p
          simp only at e h2
          subst e
          simp only [List.mem_singleton, Prod.mk.injEq]
          rw [idx_take hm, ← fi_at hlt]
          refine ⟨h2, ?_⟩
          first | rfl | trivial
        · left; exact ⟨by omega, h2, h3⟩
    · rw [if_neg hc, ih (by omega)]
      constructor
      · rintro ⟨h1, h2, h3⟩; exact ⟨by omega, h2, h3⟩
      · rintro ⟨h1, h2, h3⟩
        by_cases e : p.2 = k
        · exfalso
          rw [e] at h2
          exact hc ((fi_lt hlt).2 (by omega))
        · exact ⟨by omega, h2, h3⟩

theorem prs_sorted [LawfulBEq α] (keys : List α) : ∀ k, k ≤ keys.length → (prs keys k).Pairwise (fun p q => p.2 < q.2) := by
  intro k
  induction k with
  | zero => intro _; simp [prs]
  | succ k ih =>
    intro hk
    rw [prs_step (by omega)]
    split
    · refine List.pairwise_append.2 ⟨ih (by omega), by simp, fun a ha b hb => ?_⟩
      simp only [List.mem_singleton] at hb
      subst hb
      exact ((prs_mem keys k (by omega) a).1 ha).1
    · exact ih (by omega)

/-- All pairs agree just if all equal keys do. -/
theorem prs_all [LawfulBEq α] (keys : List α) (g : Nat → Nat → Prop) (hr : ∀ i, g i i) (hs : ∀ i j, g i j → g j i) (ht : ∀ i j k, g i j → g j k → g i k) :
    (∀ p ∈ prs keys keys.length, g p.1 p.2) ↔ ∀ i j, i < keys.length → j < keys.length → keys[i]? = keys[j]? → g i j := by
  constructor
  · intro h
    have h1 : ∀ i, i < keys.length → g (fi keys i) i := fun i hi => by
      rcases Nat.lt_or_ge (fi keys i) i with hlt | hge
      · exact h (fi keys i, i) ((prs_mem keys _ (Nat.le_refl _) _).2 ⟨hi, rfl, hlt⟩)
      · have : fi keys i = i := by have := fi_le keys i hi; omega
        rw [this]; exact hr i
    intro i j hi hj e
    rw [List.getElem?_eq_getElem hi, List.getElem?_eq_getElem hj] at e
    have e2 := (fi_eq hi hj).2 (Option.some.inj e)
    have a := h1 i hi
    have b := h1 j hj
    rw [← e2] at b
    exact ht _ _ _ (hs _ _ a) b
  · intro h p hp
    obtain ⟨h1, h2, h3⟩ := (prs_mem keys _ (Nat.le_refl _) p).1 hp
    refine h _ _ (by omega) h1 ?_
    have h4 := fi_at h1
    have h5 : keys.idxOf keys[p.2] < keys.length := List.idxOf_lt_length_of_mem (List.getElem_mem h1)
    rw [h2, h4, List.getElem?_eq_getElem h5, List.getElem?_eq_getElem h1, List.getElem_idxOf h5]

/-- What the first k pairs have joined. -/
def fk (keys : List α) (k : Nat) (i : Nat) : Nat := if ∃ p ∈ (prs keys keys.length).take k, p.2 = i then fi keys i else i

theorem fk_zero (keys : List α) (i : Nat) : fk keys 0 i = i := by unfold fk; simp

theorem fk_step [LawfulBEq α] {keys : List α} {k : Nat} (hk : k < (prs keys keys.length).length) (i : Nat) :
    fk keys (k + 1) i = if i = ((prs keys keys.length)[k]).2 then ((prs keys keys.length)[k]).1 else fk keys k i := by
  have hm := (prs_mem keys _ (Nat.le_refl _) _).1 (List.getElem_mem hk)
  have e : (prs keys keys.length).take (k + 1) = (prs keys keys.length).take k ++ [(prs keys keys.length)[k]] := by rw [List.take_add_one, List.getElem?_eq_getElem hk]; rfl
  unfold fk
  rw [e]
  by_cases h : i = ((prs keys keys.length)[k]).2
  · rw [if_pos h, if_pos ⟨_, List.mem_append_right _ (List.mem_singleton.2 rfl), h.symm⟩, h, hm.2.1]
  · rw [if_neg h]
    by_cases h2 : ∃ p ∈ (prs keys keys.length).take k, p.2 = i
    · rw [if_pos h2]
      obtain ⟨p, hp, e⟩ := h2
      rw [if_pos ⟨p, List.mem_append_left _ hp, e⟩]
    · rw [if_neg h2, if_neg]
      rintro ⟨p, hp, e⟩
      rcases List.mem_append.1 hp with hp | hp
      · exact h2 ⟨p, hp, e⟩
      · rw [List.mem_singleton.1 hp] at e
        exact h e.symm

/-- Neither of the next pair has been joined to another yet. -/
theorem fk_fresh [LawfulBEq α] {keys : List α} {k : Nat} (hk : k < (prs keys keys.length).length) : fk keys k ((prs keys keys.length)[k]).2 = ((prs keys keys.length)[k]).2 ∧ fk keys k ((prs keys keys.length)[k]).1 = ((prs keys keys.length)[k]).1 := by
  have hm := (prs_mem keys _ (Nat.le_refl _) _).1 (List.getElem_mem hk)
  have hsrt := List.pairwise_iff_getElem.1 (prs_sorted keys keys.length (Nat.le_refl _))
  constructor
  · unfold fk
    rw [if_neg]
    rintro ⟨p, hp, e⟩
    rw [List.mem_take_iff_getElem] at hp
    obtain ⟨j, hj, rfl⟩ := hp
    have := hsrt j k (by omega) hk (by omega)
    omega
  · unfold fk
    split
    · rename_i h
      obtain ⟨p, hp, e⟩ := h
      rw [hm.2.1]
      exact fi_fi keys _ hm.1
    · rfl

theorem fk_all [LawfulBEq α] (keys : List α) {i : Nat} (hi : i < keys.length) : fk keys (prs keys keys.length).length i = fi keys i := by
  unfold fk
  rw [List.take_length]
  split
  · rfl
  · rename_i h
    rcases Nat.lt_or_ge (fi keys i) i with hlt | hge
    · exact absurd ⟨(fi keys i, i), (prs_mem keys _ (Nat.le_refl _) _).2 ⟨hi, rfl, hlt⟩, rfl⟩ h
    · have := fi_le keys i hi; omega

theorem prs_len (keys : List α) : ∀ k, (prs keys k).length ≤ k := by
  intro k
  induction k with
  | zero => simp [prs]
  | succ k ih =>
    rw [prs]
    split
    · split
      · simp; omega
      · omega
    · omega
end

end Go.Proofs.YthcppbmkacbbiaaGreat

namespace Go.Proofs.YthcppbmkacbbiaaGreat
open Go.RowKit Go.Maps Go.WideMaps
open Rdg (Key put)

set_option maxHeartbeats 400000 in
theorem numI_any (BT : Nat) (ts : List Nat) (x : Nat) (w : World) (h2 : x ≤ 1000) (hl : ts.length ≤ 1000) (hM : MapIs w 3 BT kvI ts) :
    Calls Tryz.prog 139 #[.map (some BT), .int .i64 x] w fun e w' =>
      e = .returned (.int .i64 (ts.idxOf x)) ∧ MapIs w' 3 BT kvI (put ts x) ∧ w.grownBy w' (some BT) := by
  obtain ⟨l, hkey⟩ := (⟨_, keyI h2⟩ : ∃ l, keyOf Tryz.prog 3 (kvI x) = some l)
  obtain ⟨D, hown, hsz, hall, hback⟩ := hM
  have hk0 := hall _ _ hkey
  have htidy := hown.tidy lawI
  have hkey' : keyOf Tryz.prog 3 (.int .i64 x) = some l := hkey
  have HALL := hide hall
  have HBACK := hide hback
  have HSZ := hide hsz
  have HK := hide hkey
  clear hall hsz hkey hback
  cases hc : ts.contains x
  · rw [hc] at hk0
    have hhas : Maps.has D l = false := hk0.1
    clear hk0
    have HC := hide hc
    clear hc
    go_enter Tryz.func139, Tryz.ntmps139
    go_wp2_with (first
      | (at_lookup; refine wpList_lookup_own_ok_int _ rfl _ _ 218 rfl 3 3 .i64 lawI Tryz.underlying218 Tryz.underlying3 (zeroE _) BT ts.length D rfl hown _ l rfl hkey' ?_; intro c0 hat hwc)
      | (at_len; refine wpList_len_own _ rfl _ 218 rfl 3 3 Tryz.underlying218 _ BT ts.length D rfl hown ?_)
      | (at_mapUpdate; refine wpList_mapUpdate_own _ rfl _ _ _ 218 rfl 3 3 lawI Tryz.underlying218 _ BT ts.length D rfl hown (by unfold maxLen; omega) _ _ l rfl rfl hkey' _ [] (plainElem_int Tryz.underlying3 (WalkArith.wf_i64 (by have := unhide HSZ; omega))) ?_; intro w1 hown1 hgrow1))
    go_ret
    have hsz := unhide HSZ
    have hc := unhide HC
    have hn : ¬ x ∈ ts := by simpa using hc
    refine ⟨ret_int ?_, ?_, hgrow1⟩
    · rw [hsz, List.idxOf_eq_length hn]
    · have hp : put ts x = ts ++ [x] := by unfold put; rw [hc]; rfl
      rw [hp]
      rw [hsz] at hown1
      exact mapIs_put (fun _ _ => kvI_inj) lawI hsz (unhide HALL) (unhide HBACK) htidy (unhide HK) hc hown1
  · rw [hc] at hk0
    have hhas : Maps.has D l = true := hk0.1
    have HAT := hide (hk0.2 rfl)
    clear hk0
    have HC := hide hc
    clear hc
    go_enter Tryz.func139, Tryz.ntmps139
    go_wp2_with (first
      | (at_lookup; refine wpList_lookup_own_ok_int _ rfl _ _ 218 rfl 3 3 .i64 lawI Tryz.underlying218 Tryz.underlying3 (zeroE _) BT ts.length D rfl hown _ l rfl hkey' ?_; intro c0 hat hwc))
    go_ret
    have hc := unhide HC
    refine ⟨ret_int ?_, ?_, World.grownBy.refl _ _⟩
    · have h := hat.symm.trans (unhide HAT)
      simpa using h
    · have hp : put ts x = ts := by unfold put; rw [hc]; rfl
      rw [hp]
      exact ⟨D, hown, unhide HSZ, unhide HALL, unhide HBACK⟩

end Go.Proofs.YthcppbmkacbbiaaGreat

namespace Go.Proofs.YthcppbmkacbbiaaGreat
open Go.RowKit Go.Maps Go.WideMaps
open Rdg (Key put)

attribute [local go_sem] Oper.semAt_some

/-- Between two rounds of together: the map in block b, held by the variable X. -/
structure TGB (w : World) (b X : Nat) (keys : List UInt8) (k : Nat) (W : World) : Prop where
  x : W.cell? ⟨X, 0, none⟩ = some (.map (some b))
  m : CMap W b (fk keys k) keys.length k
  below : Below w.heap.size w W
  sz : w.heap.size + 3 ≤ W.heap.size

set_option linter.unusedSimpArgs false in
set_option maxRecDepth 100000 in
set_option maxHeartbeats 1000000 in
theorem togetherB_any (G cap : Nat) (keys : List UInt8) (w : World) (hl : keys.length ≤ 100) (hG : RowsB w G keys) (hv : ∀ x ∈ keys, ∃ l, keyOf Tryz.prog 5 (kvB x) = some l) :
    Calls Tryz.prog 97 #[.slice (some ⟨G, 0, none⟩) keys.length cap] w fun e w' => ∃ b, e = .returned (.map (some b)) ∧ w.heap.size ≤ b ∧ Below w.heap.size w w' ∧ CMap w' b (fi keys) keys.length 100 := by
  refine (callsIn_wide (n := 5)).1 ?_
  have hmm := fun z => run_makeMap_hint (P := Tryz.prog) Tryz.underlying98 .i64 z w
  refine callsIn_of_wp_marks Tryz.func97 rfl trivial ?_ rfl
  simp only [Tryz.ntmps97, List.size_toArray, List.length_cons, List.length_nil, Nat.reduceAdd, Nat.reduceSub, Array.replicate_succ, Array.replicate_zero, List.push_toArray, List.append_toArray, List.nil_append, List.cons_append]
  gi_wp2
  refine ⟨trivial, (callsIn_wide.2 (alikeB_any (some ⟨G, 0, none⟩) keys.length cap _)).mono ?_⟩
  rintro e w2 ⟨rfl, rfl⟩
  gi_wp2
  obtain ⟨w2, hw2⟩ : ∃ w2, ((w.alloc (.map #[] 0)).alloc (.cells #[.map (some w.heap.size)] 98)).alloc (.cells #[.slice (some ⟨G, 0, none⟩) keys.length cap] 107) = w2 := ⟨_, rfl⟩
  have hs2 : w2.heap.size = w.heap.size + 3 := by rw [← hw2]; simp
  have hg2 : w.grownBy w2 none := by rw [← hw2]; exact ((World.grownBy_alloc _ _ none).trans (World.grownBy_alloc _ _ none)).trans (World.grownBy_alloc _ _ none)
  have hb2 : Below w.heap.size w w2 := ⟨hg2.os, hg2.tape, hg2.output, hg2.size, fun j hj => hg2.block j hj (by simp)⟩
  have hx2 : w2.cell? ⟨w.heap.size + 1, 0, none⟩ = some (.map (some w.heap.size)) := by rw [← hw2]; simp [go_sem]
  have hX2 : w2.cell? ⟨w.heap.size + 1 + 1, 0, none⟩ = some (.slice (some ⟨G, 0, none⟩) keys.length cap) := by rw [← hw2]; simp [go_sem]
  have hm2 : CMap w2 w.heap.size (fk keys 0) keys.length 0 := by
    have h0 : CMap (w.alloc (.map #[] 0)) w.heap.size (fk keys 0) keys.length 0 := ⟨.map [], 0, Nat.le_refl _, World.ownsMap_made w _ _ _, fun i hi => by rw [fk_zero]; exact ⟨by simp; rfl, fun h => absurd rfl h⟩⟩
    refine h0.kept ?_
    rw [← hw2, Below.heap_alloc _ _ _ (by simp; omega), Below.heap_alloc _ _ _ (by simp)]
  have hGl := hG.1
  have hseq := (alikiB_all 4 (by omega) (w.heap.size + 1 + 1) G cap w2.heap.size keys w2 (Nat.le_refl _) (by omega) hX2 (hG.below hb2 hGl) hv).all
  rw [hw2]
  have HS2 := hide hs2
  have hs2a : w.heap.size + 3 ≤ w2.heap.size := by omega
  have hs2b : w2.heap.size ≤ w.heap.size + 3 := by omega
  clear hw2 hmm hg2 hX2 hs2
  have hTG : TGB w w.heap.size (w.heap.size + 1) keys 0 w2 := ⟨hx2, hm2, hb2, hs2a⟩
  have hown : OwnFrom w2.heap.size (TGB w w.heap.size (w.heap.size + 1) keys) := by
    intro k W W' row h hg hr
    have hne : ∀ b, b < w2.heap.size → some b ≠ row := fun b hb e => by have := (hr b e.symm).1; omega
    exact ⟨hg.cell h.x (hne _ (by show w.heap.size + 1 < w2.heap.size; omega)), h.m.kept (hg.block _ h.m.lt (hne _ (by omega))), ownFrom_below (β := Unit) (Nat.le_refl _) (by omega) () W W' row h.below hg hr, Nat.le_trans h.sz hg.size⟩
  clear hx2 hm2 hb2
  refine wpIn_rangeFunc_seq rfl (by omega) rfl trivial (fun _ _ => by simp [go_sem]) hseq KA.trans ?_ (Below.refl _ _) ?_ (TGB w w.heap.size (w.heap.size + 1) keys) hown hTG
    (fun k a' W => ∃ hk : k < (prs keys keys.length).length, a' = { tmps := #[.slice (some ⟨G, 0, none⟩) keys.length cap, undef, .map none, .pointer (some ⟨w.heap.size + 1, 0, none⟩), .int .i64 ((prs keys keys.length)[k]).1, .int .i64 ((prs keys keys.length)[k]).2, .slice (some ⟨G, 0, none⟩) keys.length cap, .int .i64 keys.length, .map (some w.heap.size), .slice (some ⟨G, 0, none⟩) keys.length cap,
          .func (.func 189) #[] #[.pointer (some ⟨w.heap.size + 1 + 1, 0, none⟩)], .int .i64 ((prs keys keys.length)[k]).1, .int .i64 ((prs keys keys.length)[k]).2, undef, undef, undef, undef, undef], defers := [] }) ?own ?assign ?body ?done
  · intro W l o o' hlw ho hc hwk
    refine ⟨fun j x hj hx hxc => (World.putObj_heap_other (fun e => ?_)).trans hx, World.putObj_heap_other (by omega), World.putObj_heap_other (by omega)⟩
    subst e
    rw [ho] at hx
    cases hx
    rcases hxc with h | h
    · rw [hc] at h; cases h
    · rw [hwk] at h; cases h
  · intro k hk; simp
  case own =>
    rintro k a' ⟨⟩ W W' row h hg hr
    exact h
  case assign =>
    intro l k hk W K hI hK
    have hk' : k < (prs keys keys.length).length := by simpa using hk
    have e1 : ((prs keys keys.length).map fun p : Nat × Nat => #[Value.int .i64 p.1, Value.int .i64 p.2])[k]'hk = #[.int .i64 ((prs keys keys.length)[k]).1, .int .i64 ((prs keys keys.length)[k]).2] := by simp
    rw [e1]
    have hK2 := hK _ W ((KeepsOthers.refl _).from _) ⟨fun j o hj ho hc => ho, rfl, rfl⟩ hI ⟨hk', rfl⟩
    clear hK
    generalize (prs keys keys.length)[k] = pr at hK2 ⊢
    gi_wp2
    exact hK2
  case body =>
    rintro l k a' W hk hl' hI ⟨hk', rfl⟩
    have hix := hI.x
    have hmem := (prs_mem keys _ (Nat.le_refl _) _).1 (List.getElem_mem hk')
    have hfr := fk_fresh hk'
    have hfs := fk_step hk'
    have hkl : k ≤ 100 := by have := prs_len keys keys.length; omega
    have hj := join_any W w.heap.size keys.length k (fk keys k) ((prs keys keys.length)[k]).1 ((prs keys keys.length)[k]).2 hI.m (by omega) hmem.1 (by omega) (by omega) (by omega) hfr.2 hfr.1
    have hIb := hide hI
    have HFS := hide hfs
    clear hI hfs hfr hmem hTG hown
    generalize (prs keys keys.length)[k] = pr at hj HFS ⊢
    obtain ⟨x, y⟩ := pr
    simp only at hj ⊢
    gi_wp2
    refine ⟨trivial, CallsIn.inRound l (callsIn_wide.2 (hj.mono ?_))⟩
    rintro e w3 ⟨⟨v, rfl⟩, hg, hm⟩
    gi_wp2
    have hI := unhide hIb
    have hs : ∀ j, j < W.heap.size → j ≠ w.heap.size → w3.heap[j]? = W.heap[j]? := fun j hj hne => hg.block j hj (by simpa using hne)
    have hsW := hI.below.size
    have hlX : w.heap.size + 3 ≤ W.heap.size := hI.sz
    refine ⟨⟨hg.size, fun j o hj ho _ => (hs j (Array.getElem?_eq_some_iff.1 ho).1 (by omega)).trans ho⟩, ⟨fun j o hj ho _ => (hs j (Array.getElem?_eq_some_iff.1 ho).1 (by omega)).trans ho, hs _ (by omega) (by omega), hs G (by omega) (by omega)⟩,
      hg.cell hI.x (by simp), hm.congr (fun i _ => (unhide HFS i).symm), hI.below.grown hg hI.below.size (fun j e => by cases e; exact Nat.le_refl _), Nat.le_trans hI.sz hg.size⟩
  case done =>
    intro D W hD hI hdef
    have hx := hI.x
    gi_wp2
    refine ⟨by simp, .inl ⟨_, _, rfl, run_takeDeferred hdef, ?_⟩⟩
    refine ⟨_, results_tmp rfl _ _ _, ?_⟩
    have hI2 := hown.putObj (.deferred none) hI hD hdef rfl
    refine ⟨w.heap.size, rfl, Nat.le_refl _, hI2.below, ?_⟩
    obtain ⟨D', nn, h1, h2, h3⟩ := hI2.m
    have hle := prs_len keys keys.length
    rw [List.length_map] at h1 h3
    refine ⟨D', nn, by omega, h2, fun i hi => ?_⟩
    have h4 := h3 i hi
    rw [fk_all keys hi] at h4
    exact h4

end Go.Proofs.YthcppbmkacbbiaaGreat

namespace Go.Proofs.YthcppbmkacbbiaaGreat

theorem wpIn_normal {F : Fence} {n : Nat} {P : Program} {c : Code} {K : Act → World → Prop} {Q' : Exit → Act → World → Prop} {a : Act} {w : World} (h : c.wpIn F n P (fun e a w => e = .normal ∧ K a w) a w) : c.wpIn F n P (Exit.then K Q') a w :=
  wpIn_mono h (fun e a w h => by obtain ⟨rfl, h⟩ := h; exact h)

theorem wpIn_norm {F : Fence} {n : Nat} {P : Program} {c : Code} {Q : Exit → Act → World → Prop} {a : Act} {w : World} (h : c.wpIn F n P (fun e a w => e = .normal ∧ Q .normal a w) a w) : c.wpIn F n P Q a w :=
  wpIn_mono h (fun e a w h => by obtain ⟨rfl, h⟩ := h; exact h)

theorem region_outH {P : Program} {ops : Array Oper} {Q : Exit → Act → World → Prop} {n id : Nat} {a : Act} {w : World} (S : World → Prop) (fuel : Nat) (listed : Array Bool) (hm : P.follows .mixedOrders = true) (hf : ops.size = fuel) (hl : Array.replicate ops.size false = listed)
    (h : wpAnyH P .any ops Q S fuel listed a w.drew) : (Code.region id ops true).wpIn Fence.wide n P Q a w := by
  subst hf
  subst hl
  exact wpIn_wide.2 (wp_region_held hm h)

/-- A region that draws its order, in a round, where S holds throughout. -/
theorem region_roundH {P : Program} {ops : Array Oper} {Q : Exit → Act → World → Prop} {r n id : Nat} {a : Act} {w : World} (S : World → Prop) (fuel : Nat) (listed : Array Bool) (hm : P.follows .mixedOrders = true) (hf : ops.size = fuel) (hl : Array.replicate ops.size false = listed)
    (hd : (ops.all fun o => match o.op with | .defer _ => false | _ => true) = true) (hQ : ¬ LetsOut Q) (h : wpAnyH P .any ops Q S fuel listed a w.drew) : (Code.region id ops true).wpIn (Fence.wide.inRound r) n P Q a w :=
  wpIn_region_draw fun t => by
    simp only [Region.schedule, hm, Bool.true_or, if_true]
    subst hf
    subst hl
    refine ops_round (fun i o ho c hc => ?_) hQ _ _ _ (wpAny_sound ops.size t _ a _ (wpAny_of_held _ _ _ _ h))
    obtain ⟨hlt, he⟩ := Array.getElem?_eq_some_iff.1 ho
    have := (Array.all_eq_true.1 hd) i hlt
    rw [he, hc] at this
    cases this

end Go.Proofs.YthcppbmkacbbiaaGreat
