import Derived.Test.YthfjhjghohincaaCandTl
import Derived.Deep.RegionWith
namespace Go.Proofs.Ythfjhjghohincaa
open Go.RowKit Go.Maps Go.WideMaps
open Rdg (Key put RT RT2 RF)

section
variable (w : World) (B BT BC : Nat) (s : ByteArray) (a d : Nat) (ts : List Key) (cs : List (Int × Nat)) (n : Nat)

set_option maxHeartbeats 1000000 in
theorem term_f_ok (hs : s.size ≤ 100) (ha : a < s.size) (hd : d ≤ 8) (ht : ts.length ≤ a) (hn : s.size < a + 1 + 1 + n) (hT : SaidT B BT BC s cs n) (hc : pk s a = 102) (a1 : Nat) (ts1 : List Key) (m : Nat)
    (HR : Hid (Rdg.arg1 (pk s) (Rdg.rdT (pk s) n) (a + 1) d ts = .ok (a1, ts1, m))) (hl : ts1.length ≤ 1000) (hm1 : m ≤ 1000) (h : CI w B BT BC s a d ts cs) :
    Calls Try.prog 56 #[.pointer (some ⟨B, 0, none⟩)] w (PostT w B BT BC s d cs (.ok (a1, put ts1 (102, m, 0), ts1.idxOf ((102, m, 0) : Key)))) := by
  have HC := hide hc
  clear hc
  go_enter Try.func56, Try.ntmps56
  go_wp2_with fail
  refine (peek_ci w B BT BC s a d ts cs hs (by omega) h).mono ?_
  rw [unhide HC]
  rintro e w1 ⟨rfl, h1, k1⟩
  have c1 := h1.c1
  have f1 := h1.f1
  have c4 := h1.c4
  have hlt := h1.lt
  have hltT := h1.mt.lt
  have hltC := h1.mc.lt
  have hI := (h1.set1 (v := (a : Int) + 1) (a' := a + 1) (by omega)).alloc (.cells #[.int .u8 102, .int .i64 0, .int .i64 0] 97)
  have HK := hide ((k1.trans (Kp.setCell B BT BC w1 1 (.int .i64 ((a : Int) + 1)))).trans (Kp.alloc B BT BC _ (.cells #[.int .u8 102, .int .i64 0, .int .i64 0] 97)))
  go_wp2_with fail
  refine (argument_any _ B BT BC s (a + 1) d ts cs n hs (by omega) hd (by omega) (by omega) hT hI).mono ?_
  rw [unhide HR]
  rintro e w2 ⟨k2, rfl, h2⟩
  have cx0 := fresh_cell k2 hlt hltT hltC 0
  have cx1 := fresh_cell k2 hlt hltT hltC 1
  have cx2 := fresh_cell k2 hlt hltT hltC 2
  have fx1 := fresh_frozen k2 hlt hltT hltC 1
  have fx2 := fresh_frozen k2 hlt hltT hltC 2
  simp at cx0 cx1 cx2
  clear hI c1 f1 c4
  have c4 := h2.c4
  have HI := hide (h2.setNew (X := w1.heap.size) (by omega) (by omega) (by omega) 1 (.int .i64 (m : Nat)))
  have HK2 := hide (((unhide HK).trans k2).setNew (X := w1.heap.size) (by have := k1.size; omega) 1 (.int .i64 (m : Nat)))
  go_wp2_with fail
  go_region_with (go_at_call 61; refine (numT_int BT ts1 102 m 0 m  0 _ rfl rfl (by omega) (by omega) (by omega) hl (by exact (unhide HI).mt.kept rfl)).mono ?_; rintro e w3 ⟨rfl, hm, hg⟩)
  all_goals
    go_wp2_with fail
    go_ret2
    exact ⟨(unhide HK2).trans ((Kp.drewN _ _ _ _ 1).trans (Kp.grownT hg)), rfl, ((unhide HI).drewN 1).numT hm hg⟩

set_option maxHeartbeats 1000000 in
theorem term_f_bad (hs : s.size ≤ 100) (ha : a < s.size) (hd : d ≤ 8) (ht : ts.length ≤ a) (hn : s.size < a + 1 + 1 + n) (hT : SaidT B BT BC s cs n) (hc : pk s a = 102) (E : Int) (p : Nat)
    (HR : Hid (Rdg.arg1 (pk s) (Rdg.rdT (pk s) n) (a + 1) d ts = .error (E, p))) (h : CI w B BT BC s a d ts cs) :
    Calls Try.prog 56 #[.pointer (some ⟨B, 0, none⟩)] w (PostT w B BT BC s d cs (.error (E, p))) := by
  have HC := hide hc
  clear hc
  go_enter Try.func56, Try.ntmps56
  go_wp2_with fail
  refine (peek_ci w B BT BC s a d ts cs hs (by omega) h).mono ?_
  rw [unhide HC]
  rintro e w1 ⟨rfl, h1, k1⟩
  have c1 := h1.c1
  have f1 := h1.f1
  have c4 := h1.c4
  have hlt := h1.lt
  have hltT := h1.mt.lt
  have hltC := h1.mc.lt
  have hI := (h1.set1 (v := (a : Int) + 1) (a' := a + 1) (by omega)).alloc (.cells #[.int .u8 102, .int .i64 0, .int .i64 0] 97)
  have HK := hide ((k1.trans (Kp.setCell B BT BC w1 1 (.int .i64 ((a : Int) + 1)))).trans (Kp.alloc B BT BC _ (.cells #[.int .u8 102, .int .i64 0, .int .i64 0] 97)))
  go_wp2_with fail
  refine (argument_any _ B BT BC s (a + 1) d ts cs n hs (by omega) hd (by omega) (by omega) hT hI).mono ?_
  rw [unhide HR]
  rintro e w2 ⟨k2, ⟨z, rfl⟩, h2⟩
  have cx0 := fresh_cell k2 hlt hltT hltC 0
  have cx1 := fresh_cell k2 hlt hltT hltC 1
  have cx2 := fresh_cell k2 hlt hltT hltC 2
  have fx1 := fresh_frozen k2 hlt hltT hltC 1
  have fx2 := fresh_frozen k2 hlt hltT hltC 2
  simp at cx0 cx1 cx2
  clear hI c1 f1 c4
  go_wp2_with fail
  go_ret2
  exact ⟨(((unhide HK).trans k2).setNew (X := w1.heap.size) (by have := k1.size; omega) 1 (.int .i64 z)), ⟨_, rfl⟩, (h2.setNew (X := w1.heap.size) (by omega) 1 (.int .i64 z))⟩

set_option maxHeartbeats 1000000 in
theorem term_no (hs : s.size ≤ 100) (ha : a ≤ s.size) (h1 : Rdg.isName (pk s a) = false) (h2 : pk s a ≠ 102) (h3 : pk s a ≠ 103) (h : CI w B BT BC s a d ts cs) :
    Calls Try.prog 56 #[.pointer (some ⟨B, 0, none⟩)] w (PostT w B BT BC s d cs (.error (2, a))) := by
  generalize hp : pk s a = p at h1 h2 h3
  have HP := hide hp
  clear hp
  have hc' : ((p == 97) = false ∧ (p == 98) = false ∧ (p == 99) = false) ∧ (p == 100) = false ∧ (p == 101) = false ∧ (p == 102) = false ∧ (p == 103) = false := by
    simp [Rdg.isName] at h1; simp; omega
  obtain ⟨⟨b1, b2, b3⟩, b4, b5, b6, b7⟩ := hc'
  clear h1 h2 h3
  go_enter Try.func56, Try.ntmps56
  go_wp2_with fail
  refine (peek_ci w B BT BC s a d ts cs hs ha h).mono ?_
  rw [unhide HP]
  rintro e w1 ⟨rfl, h1, k1⟩
  go_wp2_with fail
  refine (refuse_ci _ B BT BC s a d ts cs 2 (h1.alloc _)).mono ?_
  rintro e w2 ⟨rfl, h2, k2⟩
  go_wp2_with fail
  go_ret2
  exact ⟨(k1.trans (Kp.alloc _ _ _ _ _)).trans k2, ⟨_, rfl⟩, h2⟩

end

end Go.Proofs.Ythfjhjghohincaa
