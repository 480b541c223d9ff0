import Derived.Test.YthfjhjghohincaaKeys
namespace Go.Proofs.Ythfjhjghohincaa
open Go.RowKit Go.Maps Go.WideMaps
open Rdg (Key put)

theorem ret_int {k : IntKind} {a b : Int} (h : a = b) : Ending.returned (.int k a) = .returned (.int k b) := by rw [h]

set_option maxHeartbeats 400000 in
theorem numT_any (BT : Nat) (ts : List Key) (c : Int) (x y : Nat) (w : World) (h1 : 0 ≤ c ∧ c ≤ 255) (h2 : x ≤ 1000) (h3 : y ≤ 1000) (hl : ts.length ≤ 1000) (hM : MapIs w 97 BT kvT ts) :
    Calls Try.prog 61 #[.map (some BT), .agg #[.int .u8 c, .int .i64 x, .int .i64 y]] w fun e w' =>
      e = .returned (.int .i64 (ts.idxOf (c, x, y))) ∧ MapIs w' 97 BT kvT (put ts (c, x, y)) ∧ w.grownBy w' (some BT) := by
  obtain ⟨l, hkey⟩ := keyT (c, x, y) h1 h2 h3
  obtain ⟨D, hown, hsz, hall, hback⟩ := hM
  have hk0 := hall _ _ hkey
  have htidy := hown.tidy lawT
  have hkey' : keyOf Try.prog 97 (.agg #[.int .u8 c, .int .i64 x, .int .i64 y]) = some l := hkey
  have HALL := hide hall
  have HBACK := hide hback
  have HSZ := hide hsz
  have HK := hide hkey
  clear hall hsz hkey hback
  cases hc : ts.contains (c, x, y)
  · rw [hc] at hk0
    have hhas : Maps.has D l = false := hk0.1
    clear hk0
    have HC := hide hc
    clear hc
    go_enter Try.func61, Try.ntmps61
    go_wp2_with (first
      | (at_lookup; refine wpList_lookup_own_ok_int _ rfl _ _ 48 rfl 97 3 .i64 lawT Try.underlying48 Try.underlying3 (zeroE _) BT ts.length D rfl (hown.alloc _) _ l rfl hkey' ?_; intro c0 hat hwc)
      | (at_len; refine wpList_len_own _ rfl _ 48 rfl 97 3 Try.underlying48 _ BT ts.length D rfl (hown.alloc _) ?_)
      | (at_mapUpdate; refine wpList_mapUpdate_own _ rfl _ _ _ 48 rfl 97 3 lawT Try.underlying48 _ BT ts.length D rfl (hown.alloc _) (by unfold maxLen; omega) _ _ l rfl rfl hkey' _ [] (plainElem_int Try.underlying3 (WalkArith.wf_i64 (by have := unhide HSZ; omega))) ?_; intro w1 hown1 hgrow1))
    go_ret
    have hsz := unhide HSZ
    have hc := unhide HC
    have hn : ¬ (c, x, y) ∈ ts := by simpa using hc
    refine ⟨ret_int ?_, ?_, (World.grownBy_alloc _ _ _).trans hgrow1⟩
    · rw [hsz, List.idxOf_eq_length hn]
    · have hp : put ts (c, x, y) = ts ++ [(c, x, y)] := by unfold put; rw [hc]; rfl
      rw [hp]
      rw [hsz] at hown1
      exact mapIs_put (fun _ _ => kvT_inj) lawT hsz (unhide HALL) (unhide HBACK) htidy (unhide HK) hc hown1
  · rw [hc] at hk0
    have hhas : Maps.has D l = true := hk0.1
    have HAT := hide (hk0.2 rfl)
    clear hk0
    have HC := hide hc
    clear hc
    go_enter Try.func61, Try.ntmps61
    go_wp2_with (first
      | (at_lookup; refine wpList_lookup_own_ok_int _ rfl _ _ 48 rfl 97 3 .i64 lawT Try.underlying48 Try.underlying3 (zeroE _) BT ts.length D rfl (hown.alloc _) _ l rfl hkey' ?_; intro c0 hat hwc))
    go_ret
    have hc := unhide HC
    refine ⟨ret_int ?_, ?_, World.grownBy_alloc _ _ _⟩
    · have h := hat.symm.trans (unhide HAT)
      simpa using h
    · have hp : put ts (c, x, y) = ts := by unfold put; rw [hc]; rfl
      rw [hp]
      exact ⟨D, hown.alloc _, unhide HSZ, unhide HALL, unhide HBACK⟩

set_option maxHeartbeats 400000 in
theorem numC_any (BT : Nat) (ts : List (Int × Nat)) (c : Int) (x : Nat) (w : World) (h1 : 0 ≤ c ∧ c ≤ 255) (h2 : x ≤ 1000) (hl : ts.length ≤ 1000) (hM : MapIs w 80 BT kvC ts) :
    Calls Try.prog 55 #[.map (some BT), .agg #[.int .u8 c, .int .i64 x]] w fun e w' =>
      e = .returned (.int .i64 (ts.idxOf (c, x))) ∧ MapIs w' 80 BT kvC (put ts (c, x)) ∧ w.grownBy w' (some BT) := by
  obtain ⟨l, hkey⟩ := keyC (c, x) h1 h2
  obtain ⟨D, hown, hsz, hall, hback⟩ := hM
  have hk0 := hall _ _ hkey
  have htidy := hown.tidy lawC
  have hkey' : keyOf Try.prog 80 (.agg #[.int .u8 c, .int .i64 x]) = some l := hkey
  have HALL := hide hall
  have HBACK := hide hback
  have HSZ := hide hsz
  have HK := hide hkey
  clear hall hsz hkey hback
  cases hc : ts.contains (c, x)
  · rw [hc] at hk0
    have hhas : Maps.has D l = false := hk0.1
    clear hk0
    have HC := hide hc
    clear hc
    go_enter Try.func55, Try.ntmps55
    go_wp2_with (first
      | (at_lookup; refine wpList_lookup_own_ok_int _ rfl _ _ 50 rfl 80 3 .i64 lawC Try.underlying50 Try.underlying3 (zeroE _) BT ts.length D rfl (hown.alloc _) _ l rfl hkey' ?_; intro c0 hat hwc)
      | (at_len; refine wpList_len_own _ rfl _ 50 rfl 80 3 Try.underlying50 _ BT ts.length D rfl (hown.alloc _) ?_)
      | (at_mapUpdate; refine wpList_mapUpdate_own _ rfl _ _ _ 50 rfl 80 3 lawC Try.underlying50 _ BT ts.length D rfl (hown.alloc _) (by unfold maxLen; omega) _ _ l rfl rfl hkey' _ [] (plainElem_int Try.underlying3 (WalkArith.wf_i64 (by have := unhide HSZ; omega))) ?_; intro w1 hown1 hgrow1))
    go_ret
    have hsz := unhide HSZ
    have hc := unhide HC
    have hn : ¬ (c, x) ∈ ts := by simpa using hc
    refine ⟨ret_int ?_, ?_, (World.grownBy_alloc _ _ _).trans hgrow1⟩
    · rw [hsz, List.idxOf_eq_length hn]
    · have hp : put ts (c, x) = ts ++ [(c, x)] := by unfold put; rw [hc]; rfl
      rw [hp]
      rw [hsz] at hown1
      exact mapIs_put (fun _ _ => kvC_inj) lawC hsz (unhide HALL) (unhide HBACK) htidy (unhide HK) hc hown1
  · rw [hc] at hk0
    have hhas : Maps.has D l = true := hk0.1
    have HAT := hide (hk0.2 rfl)
    clear hk0
    have HC := hide hc
    clear hc
    go_enter Try.func55, Try.ntmps55
    go_wp2_with (first
      | (at_lookup; refine wpList_lookup_own_ok_int _ rfl _ _ 50 rfl 80 3 .i64 lawC Try.underlying50 Try.underlying3 (zeroE _) BT ts.length D rfl (hown.alloc _) _ l rfl hkey' ?_; intro c0 hat hwc))
    go_ret
    have hc := unhide HC
    refine ⟨ret_int ?_, ?_, World.grownBy_alloc _ _ _⟩
    · have h := hat.symm.trans (unhide HAT)
      simpa using h
    · have hp : put ts (c, x) = ts := by unfold put; rw [hc]; rfl
      rw [hp]
      exact ⟨D, hown.alloc _, unhide HSZ, unhide HALL, unhide HBACK⟩

end Go.Proofs.Ythfjhjghohincaa
