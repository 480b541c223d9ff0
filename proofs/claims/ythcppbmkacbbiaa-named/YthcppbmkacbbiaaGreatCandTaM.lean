import Derived.Test.YthcppbmkacbbiaaGreatCandTM
import Derived.Deep.RegionWith
namespace Go.Proofs.YthcppbmkacbbiaaGreat
open Go.RowKit Go.Maps Go.WideMaps
open Rdg (Key put RT RT2 RF)

section
variable (w : World) (B BT BC BP : Nat) (s : ByteArray) (a d : Nat) (ts : List Key) (cs : List (Int × Nat)) (ps : List Key) (n : Nat)

set_option maxHeartbeats 1000000 in
theorem term_97 (hs : s.size ≤ 100) (ha : a < s.size) (ht : ts.length ≤ a) (hc : pk s a = 97) (h : CI w B BT BC BP s a d ts cs ps) :
    Calls Tryz.prog 109 #[.pointer (some ⟨B, 0, none⟩)] w (PostT w B BT BC BP s d cs ps (.ok (a + 1, put ts (97, 0, 0), ts.idxOf ((97, 0, 0) : Key)))) := by
  have HC := hide hc
  clear hc
  go_enter Tryz.func109, Tryz.ntmps109
  go_wp2_with fail
  refine (peek_ci w B BT BC BP s a d ts cs ps hs (by omega) h).mono ?_
  rw [unhide HC]
  rintro e w1 ⟨rfl, h1, k1⟩
  have c1 := h1.c1
  have f1 := h1.f1
  have c4 := h1.c4
  have hlt := h1.lt
  have HI := hide ((h1.set1 (v := (a : Int) + 1) (a' := a + 1) (by omega)).alloc (.cells #[.int .u8 97, .int .i64 0, .int .i64 0] 87))
  have HK := hide ((k1.trans (Kp.setCell B BT BC BP w1 1 (.int .i64 ((a : Int) + 1)))).trans (Kp.alloc B BT BC BP _ (.cells #[.int .u8 97, .int .i64 0, .int .i64 0] 87)))
  go_wp2_with fail
  go_region_with (go_at_call 159; refine (numT_int BT ts 97 0 0 0 0 _ rfl rfl (by omega) (by omega) (by omega) (by omega) (by exact (unhide HI).mt.kept rfl)).mono ?_; rintro e w3 ⟨rfl, hm, hg⟩)
  all_goals
    go_wp2_with fail
    go_ret2
    exact ⟨(unhide HK).trans ((Kp.drewN _ _ _ _ _ 1).trans (Kp.grownT hg)), rfl, ((unhide HI).drewN 1).numT hm hg⟩

set_option maxHeartbeats 1000000 in
theorem term_98 (hs : s.size ≤ 100) (ha : a < s.size) (ht : ts.length ≤ a) (hc : pk s a = 98) (h : CI w B BT BC BP s a d ts cs ps) :
    Calls Tryz.prog 109 #[.pointer (some ⟨B, 0, none⟩)] w (PostT w B BT BC BP s d cs ps (.ok (a + 1, put ts (98, 0, 0), ts.idxOf ((98, 0, 0) : Key)))) := by
  have HC := hide hc
  clear hc
  go_enter Tryz.func109, Tryz.ntmps109
  go_wp2_with fail
  refine (peek_ci w B BT BC BP s a d ts cs ps hs (by omega) h).mono ?_
  rw [unhide HC]
  rintro e w1 ⟨rfl, h1, k1⟩
  have c1 := h1.c1
  have f1 := h1.f1
  have c4 := h1.c4
  have hlt := h1.lt
  have HI := hide ((h1.set1 (v := (a : Int) + 1) (a' := a + 1) (by omega)).alloc (.cells #[.int .u8 98, .int .i64 0, .int .i64 0] 87))
  have HK := hide ((k1.trans (Kp.setCell B BT BC BP w1 1 (.int .i64 ((a : Int) + 1)))).trans (Kp.alloc B BT BC BP _ (.cells #[.int .u8 98, .int .i64 0, .int .i64 0] 87)))
  go_wp2_with fail
  go_region_with (go_at_call 159; refine (numT_int BT ts 98 0 0 0 0 _ rfl rfl (by omega) (by omega) (by omega) (by omega) (by exact (unhide HI).mt.kept rfl)).mono ?_; rintro e w3 ⟨rfl, hm, hg⟩)
  all_goals
    go_wp2_with fail
    go_ret2
    exact ⟨(unhide HK).trans ((Kp.drewN _ _ _ _ _ 1).trans (Kp.grownT hg)), rfl, ((unhide HI).drewN 1).numT hm hg⟩

set_option maxHeartbeats 1000000 in
theorem term_99 (hs : s.size ≤ 100) (ha : a < s.size) (ht : ts.length ≤ a) (hc : pk s a = 99) (h : CI w B BT BC BP s a d ts cs ps) :
    Calls Tryz.prog 109 #[.pointer (some ⟨B, 0, none⟩)] w (PostT w B BT BC BP s d cs ps (.ok (a + 1, put ts (99, 0, 0), ts.idxOf ((99, 0, 0) : Key)))) := by
  have HC := hide hc
  clear hc
  go_enter Tryz.func109, Tryz.ntmps109
  go_wp2_with fail
  refine (peek_ci w B BT BC BP s a d ts cs ps hs (by omega) h).mono ?_
  rw [unhide HC]
  rintro e w1 ⟨rfl, h1, k1⟩
  have c1 := h1.c1
  have f1 := h1.f1
  have c4 := h1.c4
  have hlt := h1.lt
  have HI := hide ((h1.set1 (v := (a : Int) + 1) (a' := a + 1) (by omega)).alloc (.cells #[.int .u8 99, .int .i64 0, .int .i64 0] 87))
  have HK := hide ((k1.trans (Kp.setCell B BT BC BP w1 1 (.int .i64 ((a : Int) + 1)))).trans (Kp.alloc B BT BC BP _ (.cells #[.int .u8 99, .int .i64 0, .int .i64 0] 87)))
  go_wp2_with fail
  go_region_with (go_at_call 159; refine (numT_int BT ts 99 0 0 0 0 _ rfl rfl (by omega) (by omega) (by omega) (by omega) (by exact (unhide HI).mt.kept rfl)).mono ?_; rintro e w3 ⟨rfl, hm, hg⟩)
  all_goals
    go_wp2_with fail
    go_ret2
    exact ⟨(unhide HK).trans ((Kp.drewN _ _ _ _ _ 1).trans (Kp.grownT hg)), rfl, ((unhide HI).drewN 1).numT hm hg⟩

end

end Go.Proofs.YthcppbmkacbbiaaGreat

namespace Go.Proofs.YthcppbmkacbbiaaGreat
open Go.RowKit Go.Maps Go.WideMaps
open Rdg (Key put RT RT2 RF)

section
variable (w : World) (B BT BC BP : Nat) (s : ByteArray) (a d : Nat) (ts : List Key) (cs : List (Int × Nat)) (ps : List Key) (n : Nat)

set_option maxHeartbeats 1000000 in
theorem term_100 (hs : s.size ≤ 100) (ha : a < s.size) (ht : ts.length ≤ a) (hc : pk s a = 100) (h : CI w B BT BC BP s a d ts cs ps) :
    Calls Tryz.prog 109 #[.pointer (some ⟨B, 0, none⟩)] w (PostT w B BT BC BP s d cs ps (.ok (a + 1, put ts (100, 0, 0), ts.idxOf ((100, 0, 0) : Key)))) := by
  have HC := hide hc
  clear hc
  go_enter Tryz.func109, Tryz.ntmps109
  go_wp2_with fail
  refine (peek_ci w B BT BC BP s a d ts cs ps hs (by omega) h).mono ?_
  rw [unhide HC]
  rintro e w1 ⟨rfl, h1, k1⟩
  have c1 := h1.c1
  have f1 := h1.f1
  have c4 := h1.c4
  have hlt := h1.lt
  have HI := hide ((h1.set1 (v := (a : Int) + 1) (a' := a + 1) (by omega)).alloc (.cells #[.int .u8 100, .int .i64 0, .int .i64 0] 87))
  have HK := hide ((k1.trans (Kp.setCell B BT BC BP w1 1 (.int .i64 ((a : Int) + 1)))).trans (Kp.alloc B BT BC BP _ (.cells #[.int .u8 100, .int .i64 0, .int .i64 0] 87)))
  go_wp2_with fail
  go_region_with (go_at_call 159; refine (numT_int BT ts 100 0 0 0 0 _ rfl rfl (by omega) (by omega) (by omega) (by omega) (by exact (unhide HI).mt.kept rfl)).mono ?_; rintro e w3 ⟨rfl, hm, hg⟩)
  all_goals
    go_wp2_with fail
    go_ret2
    exact ⟨(unhide HK).trans ((Kp.drewN _ _ _ _ _ 1).trans (Kp.grownT hg)), rfl, ((unhide HI).drewN 1).numT hm hg⟩

set_option maxHeartbeats 1000000 in
theorem term_101 (hs : s.size ≤ 100) (ha : a < s.size) (ht : ts.length ≤ a) (hc : pk s a = 101) (h : CI w B BT BC BP s a d ts cs ps) :
    Calls Tryz.prog 109 #[.pointer (some ⟨B, 0, none⟩)] w (PostT w B BT BC BP s d cs ps (.ok (a + 1, put ts (101, 0, 0), ts.idxOf ((101, 0, 0) : Key)))) := by
  have HC := hide hc
  clear hc
  go_enter Tryz.func109, Tryz.ntmps109
  go_wp2_with fail
  refine (peek_ci w B BT BC BP s a d ts cs ps hs (by omega) h).mono ?_
  rw [unhide HC]
  rintro e w1 ⟨rfl, h1, k1⟩
  have c1 := h1.c1
  have f1 := h1.f1
  have c4 := h1.c4
  have hlt := h1.lt
  have HI := hide ((h1.set1 (v := (a : Int) + 1) (a' := a + 1) (by omega)).alloc (.cells #[.int .u8 101, .int .i64 0, .int .i64 0] 87))
  have HK := hide ((k1.trans (Kp.setCell B BT BC BP w1 1 (.int .i64 ((a : Int) + 1)))).trans (Kp.alloc B BT BC BP _ (.cells #[.int .u8 101, .int .i64 0, .int .i64 0] 87)))
  go_wp2_with fail
  go_region_with (go_at_call 159; refine (numT_int BT ts 101 0 0 0 0 _ rfl rfl (by omega) (by omega) (by omega) (by omega) (by exact (unhide HI).mt.kept rfl)).mono ?_; rintro e w3 ⟨rfl, hm, hg⟩)
  all_goals
    go_wp2_with fail
    go_ret2
    exact ⟨(unhide HK).trans ((Kp.drewN _ _ _ _ _ 1).trans (Kp.grownT hg)), rfl, ((unhide HI).drewN 1).numT hm hg⟩

end

end Go.Proofs.YthcppbmkacbbiaaGreat
