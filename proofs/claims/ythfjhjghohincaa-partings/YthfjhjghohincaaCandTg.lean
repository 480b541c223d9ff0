import Derived.Test.YthfjhjghohincaaCandTl
import Derived.Deep.RegionWith
namespace Go.Proofs.Ythfjhjghohincaa
open Go.RowKit Go.Maps Go.WideMaps
open Rdg (Key put RT RT2 RF)

section
variable (w : World) (B BT BC : Nat) (s : ByteArray) (a d : Nat) (ts : List Key) (cs : List (Int × Nat)) (n : Nat)

set_option maxHeartbeats 1000000 in
theorem term_g_ok (hs : s.size ≤ 100) (ha : a < s.size) (hd : d ≤ 8) (ht : ts.length ≤ a) (hn : s.size < a + 1 + 1 + n) (hT : SaidT B BT BC s cs n) (hc : pk s a = 103) (a1 : Nat) (ts1 : List Key) (m m2 : Nat)
    (HR : Hid (Rdg.arg2 (pk s) (Rdg.rdT (pk s) n) (a + 1) d ts = .ok (a1, ts1, m, m2))) (hl : ts1.length ≤ 1000) (hm1 : m ≤ 1000) (hm2 : m2 ≤ 1000) (h : CI w B BT BC s a d ts cs) :
    Calls Try.prog 56 #[.pointer (some ⟨B, 0, none⟩)] w (PostT w B BT BC s d cs (.ok (a1, put ts1 (103, m, m2), ts1.idxOf ((103, m, m2) : Key)))) := by
  have HC := hide hc
  clear hc
  go_enter Try.func56, Try.ntmps56
  go_wp2_with fail
  refine (peek_ci w B BT BC s a d ts cs hs (by omega) h).mono ?_
  rw [unhide HC]
  rintro e w1 ⟨rfl, h1, k1⟩
  have c1 := h1.c1
  have f1 := h1.f1
  have c4 := h1.c4
  have hlt := h1.lt
  have hltT := h1.mt.lt
  have hltC := h1.mc.lt
  have hI := (h1.set1 (v := (a : Int) + 1) (a' := a + 1) (by omega)).alloc (.cells #[.int .u8 103, .int .i64 0, .int .i64 0] 97)
  have HK := hide ((k1.trans (Kp.setCell B BT BC w1 1 (.int .i64 ((a : Int) + 1)))).trans (Kp.alloc B BT BC _ (.cells #[.int .u8 103, .int .i64 0, .int .i64 0] 97)))
  go_wp2_with fail
  refine (arguments_any _ B BT BC s (a + 1) d ts cs n hs (by omega) hd (by omega) (by omega) hT hI).mono ?_
  rw [unhide HR]
  rintro e w2 ⟨k2, rfl, h2⟩
  have cx0 := fresh_cell k2 hlt hltT hltC 0
  have cx1 := fresh_cell k2 hlt hltT hltC 1
  have cx2 := fresh_cell k2 hlt hltT hltC 2
  have fx1 := fresh_frozen k2 hlt hltT hltC 1
  have fx2 := fresh_frozen k2 hlt hltT hltC 2
  simp at cx0 cx1 cx2
  clear hI c1 f1 c4
  have c4 := h2.c4
  have HI := hide ((h2.setNew (X := w1.heap.size) (by omega) (by omega) (by omega) 1 (.int .i64 (m : Nat))).setNew (X := w1.heap.size) (by omega) (by omega) (by omega) 2 (.int .i64 (m2 : Nat)))
  have HK2 := hide ((((unhide HK).trans k2).setNew (X := w1.heap.size) (by have := k1.size; omega) 1 (.int .i64 (m : Nat))).setNew (X := w1.heap.size) (by have := k1.size; omega) 2 (.int .i64 (m2 : Nat)))
  go_wp2_with fail
  go_region_with (go_at_call 61; refine (numT_int BT ts1 103 m m2 m  m2 _ rfl rfl (by omega) (by omega) (by omega) hl (by exact (unhide HI).mt.kept rfl)).mono ?_; rintro e w3 ⟨rfl, hm, hg⟩)
  all_goals
    go_wp2_with fail
    go_ret2
    exact ⟨(unhide HK2).trans ((Kp.drewN _ _ _ _ 1).trans (Kp.grownT hg)), rfl, ((unhide HI).drewN 1).numT hm hg⟩

set_option maxHeartbeats 1000000 in
theorem term_g_bad (hs : s.size ≤ 100) (ha : a < s.size) (hd : d ≤ 8) (ht : ts.length ≤ a) (hn : s.size < a + 1 + 1 + n) (hT : SaidT B BT BC s cs n) (hc : pk s a = 103) (E : Int) (p : Nat)
    (HR : Hid (Rdg.arg2 (pk s) (Rdg.rdT (pk s) n) (a + 1) d ts = .error (E, p))) (h : CI w B BT BC s a d ts cs) :
    Calls Try.prog 56 #[.pointer (some ⟨B, 0, none⟩)] w (PostT w B BT BC s d cs (.error (E, p))) := by
  have HC := hide hc
  clear hc
  go_enter Try.func56, Try.ntmps56
  go_wp2_with fail
  refine (peek_ci w B BT BC s a d ts cs hs (by omega) h).mono ?_
  rw [unhide HC]
  rintro e w1 ⟨rfl, h1, k1⟩
  have c1 := h1.c1
  have f1 := h1.f1
  have c4 := h1.c4
  have hlt := h1.lt
  have hltT := h1.mt.lt
  have hltC := h1.mc.lt
  have hI := (h1.set1 (v := (a : Int) + 1) (a' := a + 1) (by omega)).alloc (.cells #[.int .u8 103, .int .i64 0, .int .i64 0] 97)
  have HK := hide ((k1.trans (Kp.setCell B BT BC w1 1 (.int .i64 ((a : Int) + 1)))).trans (Kp.alloc B BT BC _ (.cells #[.int .u8 103, .int .i64 0, .int .i64 0] 97)))
  go_wp2_with fail
  refine (arguments_any _ B BT BC s (a + 1) d ts cs n hs (by omega) hd (by omega) (by omega) hT hI).mono ?_
  rw [unhide HR]
  rintro e w2 ⟨k2, ⟨z, z2, rfl⟩, h2⟩
  have cx0 := fresh_cell k2 hlt hltT hltC 0
  have cx1 := fresh_cell k2 hlt hltT hltC 1
  have cx2 := fresh_cell k2 hlt hltT hltC 2
  have fx1 := fresh_frozen k2 hlt hltT hltC 1
  have fx2 := fresh_frozen k2 hlt hltT hltC 2
  simp at cx0 cx1 cx2
  clear hI c1 f1 c4
  go_wp2_with fail
  go_ret2
  exact ⟨((((unhide HK).trans k2).setNew (X := w1.heap.size) (by have := k1.size; omega) 1 (.int .i64 z)).setNew (X := w1.heap.size) (by have := k1.size; omega) 2 (.int .i64 z2)), ⟨_, rfl⟩, ((h2.setNew (X := w1.heap.size) (by omega) 1 (.int .i64 z)).setNew (X := w1.heap.size) (by omega) 2 (.int .i64 z2))⟩

end

end Go.Proofs.Ythfjhjghohincaa
