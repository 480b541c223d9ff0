import Derived.Test.YthcppbmkacbbiaaGreatCandTM
import Derived.Deep.RegionWith
import Derived.Test.YthcppbmkacbbiaaGreatCandTaM
namespace Go.Proofs.YthcppbmkacbbiaaGreat
open Go.RowKit Go.Maps Go.WideMaps
open Rdg (Key put RT RT2 RF)

section
variable (w : World) (B BT BC BP : Nat) (s : ByteArray) (a d : Nat) (ts : List Key) (cs : List (Int × Nat)) (ps : List Key) (n : Nat)

set_option maxHeartbeats 1000000 in
theorem term_f_ok (hs : s.size ≤ 100) (ha : a < s.size) (hd : d ≤ 8) (ht : ts.length ≤ a) (hn : s.size < a + 1 + 1 + n) (hT : SaidT B BT BC BP s cs ps n) (hc : pk s a = 102) (a1 : Nat) (ts1 : List Key) (m : Nat)
    (HR : Hid (Rdg.arg1 (pk s) (Rdg.rdT (pk s) n) (a + 1) d ts = .ok (a1, ts1, m))) (hl : ts1.length ≤ 1000) (hm1 : m ≤ 1000) (h : CI w B BT BC BP s a d ts cs ps) :
    Calls Tryz.prog 109 #[.pointer (some ⟨B, 0, none⟩)] w (PostT w B BT BC BP s d cs ps (.ok (a1, put ts1 (102, m, 0), ts1.idxOf ((102, m, 0) : Key)))) := by
  have HC := hide hc
  clear hc
  go_enter Tryz.func109, Tryz.ntmps109
  go_wp2_with fail
  refine (peek_ci w B BT BC BP s a d ts cs ps hs (by omega) h).mono ?_
  rw [unhide HC]
  rintro e w1 ⟨rfl, h1, k1⟩
  have c1 := h1.c1
  have f1 := h1.f1
  have c4 := h1.c4
  have hlt := h1.lt
  have hltT := h1.mt.lt
  have hltC := h1.mc.lt
  have hltP := h1.mp.lt
  have hI := (h1.set1 (v := (a : Int) + 1) (a' := a + 1) (by omega)).alloc (.cells #[.int .u8 102, .int .i64 0, .int .i64 0] 87)
  have HK := hide ((k1.trans (Kp.setCell B BT BC BP w1 1 (.int .i64 ((a : Int) + 1)))).trans (Kp.alloc B BT BC BP _ (.cells #[.int .u8 102, .int .i64 0, .int .i64 0] 87)))
  go_wp2_with fail
  refine (argument_any _ B BT BC BP s (a + 1) d ts cs ps n hs (by omega) hd (by omega) (by omega) hT hI).mono ?_
  rw [unhide HR]
  rintro e w2 ⟨k2, rfl, h2⟩
  have cx0 := fresh_cell k2 hlt hltT hltC hltP 0
  have cx1 := fresh_cell k2 hlt hltT hltC hltP 1
  have cx2 := fresh_cell k2 hlt hltT hltC hltP 2
  have fx1 := fresh_frozen k2 hlt hltT hltC hltP 1
  have fx2 := fresh_frozen k2 hlt hltT hltC hltP 2
  simp at cx0 cx1 cx2
  clear hI c1 f1 c4
  have c4 := h2.c4
  have HI := hide (h2.setNew (X := w1.heap.size) (by omega) (by omega) (by omega) (by omega) 1 (.int .i64 (m : Nat)))
  have HK2 := hide (((unhide HK).trans k2).setNew (X := w1.heap.size) (by have := k1.size; omega) 1 (.int .i64 (m : Nat)))
  go_wp2_with fail
  go_region_with (go_at_call 159; refine (numT_int BT ts1 102 m 0 m  0 _ rfl rfl (by omega) (by omega) (by omega) hl (by exact (unhide HI).mt.kept rfl)).mono ?_; rintro e w3 ⟨rfl, hm, hg⟩)
  all_goals
    go_wp2_with fail
    go_ret2
    exact ⟨(unhide HK2).trans ((Kp.drewN _ _ _ _ _ 1).trans (Kp.grownT hg)), rfl, ((unhide HI).drewN 1).numT hm hg⟩

set_option maxHeartbeats 1000000 in
theorem term_f_bad (hs : s.size ≤ 100) (ha : a < s.size) (hd : d ≤ 8) (ht : ts.length ≤ a) (hn : s.size < a + 1 + 1 + n) (hT : SaidT B BT BC BP s cs ps n) (hc : pk s a = 102) (E : Int) (p : Nat)
    (HR : Hid (Rdg.arg1 (pk s) (Rdg.rdT (pk s) n) (a + 1) d ts = .error (E, p))) (h : CI w B BT BC BP s a d ts cs ps) :
    Calls Tryz.prog 109 #[.pointer (some ⟨B, 0, none⟩)] w (PostT w B BT BC BP s d cs ps (.error (E, p))) := by
  have HC := hide hc
  clear hc
  go_enter Tryz.func109, Tryz.ntmps109
  go_wp2_with fail
  refine (peek_ci w B BT BC BP s a d ts cs ps hs (by omega) h).mono ?_
  rw [unhide HC]
  rintro e w1 ⟨rfl, h1, k1⟩
  have c1 := h1.c1
  have f1 := h1.f1
  have c4 := h1.c4
  have hlt := h1.lt
  have hltT := h1.mt.lt
  have hltC := h1.mc.lt
  have hltP := h1.mp.lt
  have hI := (h1.set1 (v := (a : Int) + 1) (a' := a + 1) (by omega)).alloc (.cells #[.int .u8 102, .int .i64 0, .int .i64 0] 87)
  have HK := hide ((k1.trans (Kp.setCell B BT BC BP w1 1 (.int .i64 ((a : Int) + 1)))).trans (Kp.alloc B BT BC BP _ (.cells #[.int .u8 102, .int .i64 0, .int .i64 0] 87)))
  go_wp2_with fail
  refine (argument_any _ B BT BC BP s (a + 1) d ts cs ps n hs (by omega) hd (by omega) (by omega) hT hI).mono ?_
  rw [unhide HR]
  rintro e w2 ⟨k2, ⟨z, rfl⟩, h2⟩
  have cx0 := fresh_cell k2 hlt hltT hltC hltP 0
  have cx1 := fresh_cell k2 hlt hltT hltC hltP 1
  have cx2 := fresh_cell k2 hlt hltT hltC hltP 2
  have fx1 := fresh_frozen k2 hlt hltT hltC hltP 1
  have fx2 := fresh_frozen k2 hlt hltT hltC hltP 2
  simp at cx0 cx1 cx2
  clear hI c1 f1 c4
  go_wp2_with fail
  go_ret2
  exact ⟨(((unhide HK).trans k2).setNew (X := w1.heap.size) (by have := k1.size; omega) 1 (.int .i64 z)), ⟨_, rfl⟩, (h2.setNew (X := w1.heap.size) (by omega) 1 (.int .i64 z))⟩

set_option maxHeartbeats 1000000 in
theorem term_no (hs : s.size ≤ 100) (ha : a ≤ s.size) (h1 : Rdg.isName (pk s a) = false) (h2 : pk s a ≠ 102) (h3 : pk s a ≠ 103) (h : CI w B BT BC BP s a d ts cs ps) :
    Calls Tryz.prog 109 #[.pointer (some ⟨B, 0, none⟩)] w (PostT w B BT BC BP s d cs ps (.error (2, a))) := by
  generalize hp : pk s a = p at h1 h2 h3
  have HP := hide hp
  clear hp
  have hc' : ((p == 97) = false ∧ (p == 98) = false ∧ (p == 99) = false) ∧ (p == 100) = false ∧ (p == 101) = false ∧ (p == 102) = false ∧ (p == 103) = false := by
    simp [Rdg.isName] at h1; simp; omega
  obtain ⟨⟨b1, b2, b3⟩, b4, b5, b6, b7⟩ := hc'
  clear h1 h2 h3
  go_enter Tryz.func109, Tryz.ntmps109
  go_wp2_with fail
  refine (peek_ci w B BT BC BP s a d ts cs ps hs ha h).mono ?_
  rw [unhide HP]
  rintro e w1 ⟨rfl, h1, k1⟩
  go_wp2_with fail
  refine (refuse_ci _ B BT BC BP s a d ts cs ps 2 (h1.alloc _)).mono ?_
  rintro e w2 ⟨rfl, h2, k2⟩
  go_wp2_with fail
  go_ret2
  exact ⟨(k1.trans (Kp.alloc _ _ _ _ _ _)).trans k2, ⟨_, rfl⟩, h2⟩

end

end Go.Proofs.YthcppbmkacbbiaaGreat

namespace Go.Proofs.YthcppbmkacbbiaaGreat
open Go.RowKit Go.Maps Go.WideMaps
open Rdg (Key put RT RT2 RF)

section
variable (w : World) (B BT BC BP : Nat) (s : ByteArray) (a d : Nat) (ts : List Key) (cs : List (Int × Nat)) (ps : List Key) (n : Nat)

set_option maxHeartbeats 1000000 in
theorem term_g_ok (hs : s.size ≤ 100) (ha : a < s.size) (hd : d ≤ 8) (ht : ts.length ≤ a) (hn : s.size < a + 1 + 1 + n) (hT : SaidT B BT BC BP s cs ps n) (hc : pk s a = 103) (a1 : Nat) (ts1 : List Key) (m m2 : Nat)
    (HR : Hid (Rdg.arg2 (pk s) (Rdg.rdT (pk s) n) (a + 1) d ts = .ok (a1, ts1, m, m2))) (hl : ts1.length ≤ 1000) (hm1 : m ≤ 1000) (hm2 : m2 ≤ 1000) (h : CI w B BT BC BP s a d ts cs ps) :
    Calls Tryz.prog 109 #[.pointer (some ⟨B, 0, none⟩)] w (PostT w B BT BC BP s d cs ps (.ok (a1, put ts1 (103, m, m2), ts1.idxOf ((103, m, m2) : Key)))) := by
  have HC := hide hc
  clear hc
  go_enter Tryz.func109, Tryz.ntmps109
  go_wp2_with fail
  refine (peek_ci w B BT BC BP s a d ts cs ps hs (by omega) h).mono ?_
  rw [unhide HC]
  rintro e w1 ⟨rfl, h1, k1⟩
  have c1 := h1.c1
  have f1 := h1.f1
  have c4 := h1.c4
  have hlt := h1.lt
  have hltT := h1.mt.lt
  have hltC := h1.mc.lt
  have hltP := h1.mp.lt
  have hI := (h1.set1 (v := (a : Int) + 1) (a' := a + 1) (by omega)).alloc (.cells #[.int .u8 103, .int .i64 0, .int .i64 0] 87)
  have HK := hide ((k1.trans (Kp.setCell B BT BC BP w1 1 (.int .i64 ((a : Int) + 1)))).trans (Kp.alloc B BT BC BP _ (.cells #[.int .u8 103, .int .i64 0, .int .i64 0] 87)))
  go_wp2_with fail
  refine (arguments_any _ B BT BC BP s (a + 1) d ts cs ps n hs (by omega) hd (by omega) (by omega) hT hI).mono ?_
  rw [unhide HR]
  rintro e w2 ⟨k2, rfl, h2⟩
  have cx0 := fresh_cell k2 hlt hltT hltC hltP 0
  have cx1 := fresh_cell k2 hlt hltT hltC hltP 1
  have cx2 := fresh_cell k2 hlt hltT hltC hltP 2
  have fx1 := fresh_frozen k2 hlt hltT hltC hltP 1
  have fx2 := fresh_frozen k2 hlt hltT hltC hltP 2
  simp at cx0 cx1 cx2
  clear hI c1 f1 c4
  have c4 := h2.c4
  have HI := hide ((h2.setNew (X := w1.heap.size) (by omega) (by omega) (by omega) (by omega) 1 (.int .i64 (m : Nat))).setNew (X := w1.heap.size) (by omega) (by omega) (by omega) (by omega) 2 (.int .i64 (m2 : Nat)))
  have HK2 := hide ((((unhide HK).trans k2).setNew (X := w1.heap.size) (by have := k1.size; omega) 1 (.int .i64 (m : Nat))).setNew (X := w1.heap.size) (by have := k1.size; omega) 2 (.int .i64 (m2 : Nat)))
  go_wp2_with fail
  go_region_with (go_at_call 159; refine (numT_int BT ts1 103 m m2 m  m2 _ rfl rfl (by omega) (by omega) (by omega) hl (by exact (unhide HI).mt.kept rfl)).mono ?_; rintro e w3 ⟨rfl, hm, hg⟩)
  all_goals
    go_wp2_with fail
    go_ret2
    exact ⟨(unhide HK2).trans ((Kp.drewN _ _ _ _ _ 1).trans (Kp.grownT hg)), rfl, ((unhide HI).drewN 1).numT hm hg⟩

set_option maxHeartbeats 1000000 in
theorem term_g_bad (hs : s.size ≤ 100) (ha : a < s.size) (hd : d ≤ 8) (ht : ts.length ≤ a) (hn : s.size < a + 1 + 1 + n) (hT : SaidT B BT BC BP s cs ps n) (hc : pk s a = 103) (E : Int) (p : Nat)
    (HR : Hid (Rdg.arg2 (pk s) (Rdg.rdT (pk s) n) (a + 1) d ts = .error (E, p))) (h : CI w B BT BC BP s a d ts cs ps) :
    Calls Tryz.prog 109 #[.pointer (some ⟨B, 0, none⟩)] w (PostT w B BT BC BP s d cs ps (.error (E, p))) := by
  have HC := hide hc
  clear hc
  go_enter Tryz.func109, Tryz.ntmps109
  go_wp2_with fail
  refine (peek_ci w B BT BC BP s a d ts cs ps hs (by omega) h).mono ?_
  rw [unhide HC]
  rintro e w1 ⟨rfl, h1, k1⟩
  have c1 := h1.c1
  have f1 := h1.f1
  have c4 := h1.c4
  have hlt := h1.lt
  have hltT := h1.mt.lt
  have hltC := h1.mc.lt
  have hltP := h1.mp.lt
  have hI := (h1.set1 (v := (a : Int) + 1) (a' := a + 1) (by omega)).alloc (.cells #[.int .u8 103, .int .i64 0, .int .i64 0] 87)
  have HK := hide ((k1.trans (Kp.setCell B BT BC BP w1 1 (.int .i64 ((a : Int) + 1)))).trans (Kp.alloc B BT BC BP _ (.cells #[.int .u8 103, .int .i64 0, .int .i64 0] 87)))
  go_wp2_with fail
  refine (arguments_any _ B BT BC BP s (a + 1) d ts cs ps n hs (by omega) hd (by omega) (by omega) hT hI).mono ?_
  rw [unhide HR]
  rintro e w2 ⟨k2, ⟨z, z2, rfl⟩, h2⟩
  have cx0 := fresh_cell k2 hlt hltT hltC hltP 0
  have cx1 := fresh_cell k2 hlt hltT hltC hltP 1
  have cx2 := fresh_cell k2 hlt hltT hltC hltP 2
  have fx1 := fresh_frozen k2 hlt hltT hltC hltP 1
  have fx2 := fresh_frozen k2 hlt hltT hltC hltP 2
  simp at cx0 cx1 cx2
  clear hI c1 f1 c4
  go_wp2_with fail
  go_ret2
  exact ⟨((((unhide HK).trans k2).setNew (X := w1.heap.size) (by have := k1.size; omega) 1 (.int .i64 z)).setNew (X := w1.heap.size) (by have := k1.size; omega) 2 (.int .i64 z2)), ⟨_, rfl⟩, ((h2.setNew (X := w1.heap.size) (by omega) 1 (.int .i64 z)).setNew (X := w1.heap.size) (by omega) 2 (.int .i64 z2))⟩

end

end Go.Proofs.YthcppbmkacbbiaaGreat

namespace Go.Proofs.YthcppbmkacbbiaaGreat
open Go.RowKit Go.Maps Go.WideMaps
open Rdg (Key put RT RT2 RF)

section
variable (w : World) (B BT BC BP : Nat) (s : ByteArray) (a d : Nat) (ts : List Key) (cs : List (Int × Nat)) (ps : List Key) (n : Nat)

theorem term_step (hs : s.size ≤ 100) (hT : SaidT B BT BC BP s cs ps n) : SaidT B BT BC BP s cs ps (n + 1) := by
  intro w a d ts ha hd ht hn h
  unfold Rdg.rdT
  split
  · rename_i hnm
    have hlt : a < s.size := pk_lt (fun e => by rw [e] at hnm; simp [Rdg.isName] at hnm)
    have h5 : pk s a = 97 ∨ pk s a = 98 ∨ pk s a = 99 ∨ pk s a = 100 ∨ pk s a = 101 := by simp [Rdg.isName] at hnm; omega
    rcases h5 with e | e | e | e | e
    · rw [e]; exact term_97 w B BT BC BP s a d ts cs ps hs hlt ht e h
    · rw [e]; exact term_98 w B BT BC BP s a d ts cs ps hs hlt ht e h
    · rw [e]; exact term_99 w B BT BC BP s a d ts cs ps hs hlt ht e h
    · rw [e]; exact term_100 w B BT BC BP s a d ts cs ps hs hlt ht e h
    · rw [e]; exact term_101 w B BT BC BP s a d ts cs ps hs hlt ht e h
  · rename_i hnm
    split
    · rename_i e
      have hlt : a < s.size := pk_lt (by omega)
      have hok := Rdg.okT1_arg1 (pk := pk s) (N := s.size) (fun a h => pk_lt h) (rec := Rdg.rdT (pk s) n) (a := a + 1) (d := d) (ts := ts) (by omega) (fun h40 => Rdg.okT_rdT (fun a h => pk_lt h) _ _ _ _ (by have := pk_lt (s := s) (a := a + 1) (by omega); omega))
      cases hR : Rdg.arg1 (pk s) (Rdg.rdT (pk s) n) (a + 1) d ts with
      | error Ep =>
        obtain ⟨E, p⟩ := Ep
        exact term_f_bad w B BT BC BP s a d ts cs ps n hs hlt hd ht (by omega) hT e E p (hide hR) h
      | ok q =>
        obtain ⟨a1, ts1, m⟩ := q
        rw [hR] at hok
        obtain ⟨p1, p2, p3, p4, p5⟩ := hok
        exact term_f_ok w B BT BC BP s a d ts cs ps n hs hlt hd ht (by omega) hT e a1 ts1 m (hide hR) (by omega) (by omega) h
    · split
      · rename_i e
        have hlt : a < s.size := pk_lt (by omega)
        have hok := Rdg.okT2_arg2 (pk := pk s) (N := s.size) (fun a h => pk_lt h) (rec := Rdg.rdT (pk s) n) (a := a + 1) (d := d) (ts := ts) (by omega) (fun a' ts' _ _ h' => Rdg.okT_rdT (fun a h => pk_lt h) _ _ _ _ h')
        cases hR : Rdg.arg2 (pk s) (Rdg.rdT (pk s) n) (a + 1) d ts with
        | error Ep =>
          obtain ⟨E, p⟩ := Ep
          exact term_g_bad w B BT BC BP s a d ts cs ps n hs hlt hd ht (by omega) hT e E p (hide hR) h
        | ok q =>
          obtain ⟨a1, ts1, m, m2⟩ := q
          rw [hR] at hok
          obtain ⟨p1, p2, p3, p4, p5, p6⟩ := hok
          exact term_g_ok w B BT BC BP s a d ts cs ps n hs hlt hd ht (by omega) hT e a1 ts1 m m2 (hide hR) (by omega) (by omega) (by omega) h
      · rename_i e1 e2
        exact term_no w B BT BC BP s a d ts cs ps hs ha (by simpa using hnm) e1 e2 h

theorem term_any (hs : s.size ≤ 100) : ∀ n, SaidT B BT BC BP s cs ps n
  | 0 => fun w a d ts ha hd ht hn h => absurd hn (by omega)
  | n + 1 => term_step B BT BC BP s cs ps n hs (term_any hs n)
end

end Go.Proofs.YthcppbmkacbbiaaGreat
