import Derived.Test.YthcppbmkacbbiaaGreatCandFM
import Derived.Deep.RegionWith
namespace Go.Proofs.YthcppbmkacbbiaaGreat
open Go.RowKit Go.Maps Go.WideMaps
open Rdg (Key put RT RT2 RF RP RQ)

section
variable (w : World) (B BT BC BP : Nat) (s : ByteArray) (a d : Nat) (ts : List Key) (cs : List (Int × Nat)) (ps : List Key) (n : Nat)

set_option linter.unusedVariables false in
set_option maxHeartbeats 1000000 in
theorem formula_not_bad (hs : s.size ≤ 100) (ha : a ≤ s.size) (hd : d ≤ 8) (ht : ts.length ≤ a) (hcs : cs.length ≤ a) (hps : ps.length ≤ a) (hn : s.size < a + 1 + n) (HC : Hid (pk s a = 33)) (hF : SaidF B BT BC BP s n) (E : Int) (p : Nat) (HR : Hid (Rdg.rdP (pk s) n (a + 1) d ts cs ps = .error (E, p))) (h : CI w B BT BC BP s a d ts cs ps) :
    Calls Tryz.prog 42 #[.pointer (some ⟨B, 0, none⟩)] w (PostF w B BT BC BP s d (.error (E, p))) := by
  have hlt : a < s.size := pk_lt (by rw [unhide HC]; omega)
  go_enter Tryz.func42, Tryz.ntmps42
  go_wp2_with fail
  refine (peek_ci w B BT BC BP s a d ts cs ps hs ha h).mono ?_
  rw [unhide HC]
  rintro e w1 ⟨rfl, h1, k1⟩
  have c1 := h1.c1
  have hBl := h1.lt
  have f1 := h1.f1
  have hI0 := (h1.set1 (v := (a : Int) + 1) (a' := a + 1) (by omega)).alloc (.cells #[.int .u8 33, .int .i64 0, .int .i64 0] 93)
  have hX0 := px_at h1 ((a : Int) + 1) (a + 1) (by omega) 33
  have hk0 := (k1.trans (Kp.setCell B BT BC BP w1 1 (.int .i64 ((a : Int) + 1)))).trans (Kp.alloc B BT BC BP _ (.cells #[.int .u8 33, .int .i64 0, .int .i64 0] 93))
  go_wp2_with fail
  refine (hF _ (a + 1) d ts cs ps (by omega) hd (by omega) (by omega) (by omega) (by omega) hI0).mono ?_
  rw [unhide HR]
  rintro e w2 ⟨k2, ⟨z, rfl⟩, h2⟩
  have hX := hX0.kp k2
  have x0 := hX.p0
  have x1 := hX.p1
  have x2 := hX.p2
  have y0 := hX.f0
  have y1 := hX.f1
  have y2 := hX.f2
  clear c1 f1
  go_wp2_with fail
  go_ret2
  refine ⟨?_, ⟨_, rfl⟩, ?_⟩
  · repeat refine Kp.setX k1.size ?_ _ _
    exact hk0.trans k2
  · repeat refine Bad.setNew ?_ hX.nB _ _
    exact h2

set_option linter.unusedVariables false in
set_option maxHeartbeats 1000000 in
theorem formula_not_ok (hs : s.size ≤ 100) (ha : a ≤ s.size) (hd : d ≤ 8) (ht : ts.length ≤ a) (hcs : cs.length ≤ a) (hps : ps.length ≤ a) (hn : s.size < a + 1 + n) (HC : Hid (pk s a = 33)) (hF : SaidF B BT BC BP s n) (a1 : Nat) (ts1 : List Key) (cs1 : List (Int × Nat)) (ps1 : List Key) (m : Nat) (hl : ps1.length ≤ 1000) (hm1 : m ≤ 1000) (HR : Hid (Rdg.rdP (pk s) n (a + 1) d ts cs ps = .ok (a1, ts1, cs1, ps1, m))) (h : CI w B BT BC BP s a d ts cs ps) :
    Calls Tryz.prog 42 #[.pointer (some ⟨B, 0, none⟩)] w (PostF w B BT BC BP s d (.ok (a1, ts1, cs1, put ps1 (33, m, 0), ps1.idxOf ((33, m, 0) : Key)))) := by
  have hlt : a < s.size := pk_lt (by rw [unhide HC]; omega)
  go_enter Tryz.func42, Tryz.ntmps42
  go_wp2_with fail
  refine (peek_ci w B BT BC BP s a d ts cs ps hs ha h).mono ?_
  rw [unhide HC]
  rintro e w1 ⟨rfl, h1, k1⟩
  have c1 := h1.c1
  have hBl := h1.lt
  have f1 := h1.f1
  have hI0 := (h1.set1 (v := (a : Int) + 1) (a' := a + 1) (by omega)).alloc (.cells #[.int .u8 33, .int .i64 0, .int .i64 0] 93)
  have hX0 := px_at h1 ((a : Int) + 1) (a + 1) (by omega) 33
  have hk0 := (k1.trans (Kp.setCell B BT BC BP w1 1 (.int .i64 ((a : Int) + 1)))).trans (Kp.alloc B BT BC BP _ (.cells #[.int .u8 33, .int .i64 0, .int .i64 0] 93))
  go_wp2_with fail
  refine (hF _ (a + 1) d ts cs ps (by omega) hd (by omega) (by omega) (by omega) (by omega) hI0).mono ?_
  rw [unhide HR]
  rintro e w2 ⟨k2, rfl, h2⟩
  have hX := hX0.kp k2
  have x0 := hX.p0
  have x1 := hX.p1
  have x2 := hX.p2
  have y0 := hX.f0
  have y1 := hX.f1
  have y2 := hX.f2
  clear c1 f1
  have c6 := h2.c6
  have HI := hide (h2.px hX 1 (.int .i64 (m : Nat)))
  have HK2 := hide (Kp.setX k1.size (hk0.trans k2) 1 (.int .i64 (m : Nat)))
  go_wp2_with fail
  go_region_with (go_at_call 67; refine (numP_int BP ps1 33 m 0 m 0 _ rfl rfl (by omega) (by omega) (by omega) hl (by exact (unhide HI).mp.kept rfl)).mono ?_; rintro e w3 ⟨rfl, hm, hg⟩)
  all_goals
    go_wp2_with fail
    go_ret2
    exact ⟨(unhide HK2).trans ((Kp.drewN _ _ _ _ _ 1).trans (Kp.grownP hg)), rfl, ((unhide HI).drewN 1).numP hm hg⟩

set_option linter.unusedVariables false in
set_option maxHeartbeats 1000000 in
theorem formula_80_bad (hs : s.size ≤ 100) (ha : a ≤ s.size) (hd : d ≤ 8) (ht : ts.length ≤ a) (hcs : cs.length ≤ a) (hps : ps.length ≤ a) (hn : s.size < a + 1 + 1 + n) (HC : Hid (pk s a = 80)) (E : Int) (p : Nat) (HR : Hid (Rdg.arg1 (pk s) (Rdg.rdT (pk s) n) (a + 1) d ts = .error (E, p))) (h : CI w B BT BC BP s a d ts cs ps) :
    Calls Tryz.prog 42 #[.pointer (some ⟨B, 0, none⟩)] w (PostF w B BT BC BP s d (.error (E, p))) := by
  have hlt : a < s.size := pk_lt (by rw [unhide HC]; omega)
  go_enter Tryz.func42, Tryz.ntmps42
  go_wp2_with fail
  refine (peek_ci w B BT BC BP s a d ts cs ps hs ha h).mono ?_
  rw [unhide HC]
  rintro e w1 ⟨rfl, h1, k1⟩
  have c1 := h1.c1
  have hBl := h1.lt
  have f1 := h1.f1
  have hI0 := (h1.set1 (v := (a : Int) + 1) (a' := a + 1) (by omega)).alloc (.cells #[.int .u8 80, .int .i64 0, .int .i64 0] 93)
  have hX0 := px_at h1 ((a : Int) + 1) (a + 1) (by omega) 80
  have hk0 := (k1.trans (Kp.setCell B BT BC BP w1 1 (.int .i64 ((a : Int) + 1)))).trans (Kp.alloc B BT BC BP _ (.cells #[.int .u8 80, .int .i64 0, .int .i64 0] 93))
  go_wp2_with fail
  refine (claim_any _ B BT BC BP s (a + 1) d ts cs ps n hs (by omega) hd (by omega) (by omega) (by omega) 80 (by omega) hI0).mono ?_
  rw [unhide HR]
  rintro e w2 ⟨k2, ⟨z, rfl⟩, h2⟩
  have hX := hX0.kp k2
  have x0 := hX.p0
  have x1 := hX.p1
  have x2 := hX.p2
  have y0 := hX.f0
  have y1 := hX.f1
  have y2 := hX.f2
  clear c1 f1
  go_wp2_with fail
  go_ret2
  refine ⟨?_, ⟨_, rfl⟩, ?_⟩
  · repeat refine Kp.setX k1.size ?_ _ _
    exact hk0.trans k2
  · repeat refine Bad.setNew ?_ hX.nB _ _
    exact h2

set_option linter.unusedVariables false in
set_option maxHeartbeats 1000000 in
theorem formula_80_ok (hs : s.size ≤ 100) (ha : a ≤ s.size) (hd : d ≤ 8) (ht : ts.length ≤ a) (hcs : cs.length ≤ a) (hps : ps.length ≤ a) (hn : s.size < a + 1 + 1 + n) (HC : Hid (pk s a = 80)) (a1 : Nat) (ts1 : List Key) (m ix : Nat) (HIX : Hid (cs.idxOf ((80, m) : Int × Nat) = ix)) (HR : Hid (Rdg.arg1 (pk s) (Rdg.rdT (pk s) n) (a + 1) d ts = .ok (a1, ts1, m))) (h : CI w B BT BC BP s a d ts cs ps) :
    Calls Tryz.prog 42 #[.pointer (some ⟨B, 0, none⟩)] w (PostF w B BT BC BP s d (.ok (a1, ts1, put cs (80, m), put ps (80, ix, 0), ps.idxOf ((80, ix, 0) : Key)))) := by
  have hlt : a < s.size := pk_lt (by rw [unhide HC]; omega)
  have hix : ix ≤ 1000 := by have : cs.idxOf ((80, m) : Int × Nat) ≤ cs.length := List.idxOf_le_length; rw [unhide HIX] at this; omega
  go_enter Tryz.func42, Tryz.ntmps42
  go_wp2_with fail
  refine (peek_ci w B BT BC BP s a d ts cs ps hs ha h).mono ?_
  rw [unhide HC]
  rintro e w1 ⟨rfl, h1, k1⟩
  have c1 := h1.c1
  have hBl := h1.lt
  have f1 := h1.f1
  have hI0 := (h1.set1 (v := (a : Int) + 1) (a' := a + 1) (by omega)).alloc (.cells #[.int .u8 80, .int .i64 0, .int .i64 0] 93)
  have hX0 := px_at h1 ((a : Int) + 1) (a + 1) (by omega) 80
  have hk0 := (k1.trans (Kp.setCell B BT BC BP w1 1 (.int .i64 ((a : Int) + 1)))).trans (Kp.alloc B BT BC BP _ (.cells #[.int .u8 80, .int .i64 0, .int .i64 0] 93))
  go_wp2_with fail
  refine (claim_any _ B BT BC BP s (a + 1) d ts cs ps n hs (by omega) hd (by omega) (by omega) (by omega) 80 (by omega) hI0).mono ?_
  rw [unhide HR]
  rintro e w2 ⟨k2, he, h2⟩
  rw [unhide HIX] at he
  subst he
  have hX := hX0.kp k2
  have x0 := hX.p0
  have x1 := hX.p1
  have x2 := hX.p2
  have y0 := hX.f0
  have y1 := hX.f1
  have y2 := hX.f2
  clear c1 f1
  have c6 := h2.c6
  have HI := hide (h2.px hX 1 (.int .i64 (ix : Nat)))
  have HK2 := hide (Kp.setX k1.size (hk0.trans k2) 1 (.int .i64 (ix : Nat)))
  go_wp2_with fail
  go_region_with (go_at_call 67; refine (numP_int BP ps 80 ix 0 ix 0 _ rfl rfl (by omega) (by omega) (by omega) (by omega) (by exact (unhide HI).mp.kept rfl)).mono ?_; rintro e w3 ⟨rfl, hm, hg⟩)
  all_goals
    go_wp2_with fail
    go_ret2
    exact ⟨(unhide HK2).trans ((Kp.drewN _ _ _ _ _ 1).trans (Kp.grownP hg)), rfl, ((unhide HI).drewN 1).numP hm hg⟩

set_option linter.unusedVariables false in
set_option maxHeartbeats 1000000 in
theorem formula_81_bad (hs : s.size ≤ 100) (ha : a ≤ s.size) (hd : d ≤ 8) (ht : ts.length ≤ a) (hcs : cs.length ≤ a) (hps : ps.length ≤ a) (hn : s.size < a + 1 + 1 + n) (HC : Hid (pk s a = 81)) (E : Int) (p : Nat) (HR : Hid (Rdg.arg1 (pk s) (Rdg.rdT (pk s) n) (a + 1) d ts = .error (E, p))) (h : CI w B BT BC BP s a d ts cs ps) :
    Calls Tryz.prog 42 #[.pointer (some ⟨B, 0, none⟩)] w (PostF w B BT BC BP s d (.error (E, p))) := by
  have hlt : a < s.size := pk_lt (by rw [unhide HC]; omega)
  go_enter Tryz.func42, Tryz.ntmps42
  go_wp2_with fail
  refine (peek_ci w B BT BC BP s a d ts cs ps hs ha h).mono ?_
  rw [unhide HC]
  rintro e w1 ⟨rfl, h1, k1⟩
  have c1 := h1.c1
  have hBl := h1.lt
  have f1 := h1.f1
  have hI0 := (h1.set1 (v := (a : Int) + 1) (a' := a + 1) (by omega)).alloc (.cells #[.int .u8 81, .int .i64 0, .int .i64 0] 93)
  have hX0 := px_at h1 ((a : Int) + 1) (a + 1) (by omega) 81
  have hk0 := (k1.trans (Kp.setCell B BT BC BP w1 1 (.int .i64 ((a : Int) + 1)))).trans (Kp.alloc B BT BC BP _ (.cells #[.int .u8 81, .int .i64 0, .int .i64 0] 93))
  go_wp2_with fail
  refine (claim_any _ B BT BC BP s (a + 1) d ts cs ps n hs (by omega) hd (by omega) (by omega) (by omega) 81 (by omega) hI0).mono ?_
  rw [unhide HR]
  rintro e w2 ⟨k2, ⟨z, rfl⟩, h2⟩
  have hX := hX0.kp k2
  have x0 := hX.p0
  have x1 := hX.p1
  have x2 := hX.p2
  have y0 := hX.f0
  have y1 := hX.f1
  have y2 := hX.f2
  clear c1 f1
  go_wp2_with fail
  go_ret2
  refine ⟨?_, ⟨_, rfl⟩, ?_⟩
  · repeat refine Kp.setX k1.size ?_ _ _
    exact hk0.trans k2
  · repeat refine Bad.setNew ?_ hX.nB _ _
    exact h2

set_option linter.unusedVariables false in
set_option maxHeartbeats 1000000 in
theorem formula_81_ok (hs : s.size ≤ 100) (ha : a ≤ s.size) (hd : d ≤ 8) (ht : ts.length ≤ a) (hcs : cs.length ≤ a) (hps : ps.length ≤ a) (hn : s.size < a + 1 + 1 + n) (HC : Hid (pk s a = 81)) (a1 : Nat) (ts1 : List Key) (m ix : Nat) (HIX : Hid (cs.idxOf ((81, m) : Int × Nat) = ix)) (HR : Hid (Rdg.arg1 (pk s) (Rdg.rdT (pk s) n) (a + 1) d ts = .ok (a1, ts1, m))) (h : CI w B BT BC BP s a d ts cs ps) :
    Calls Tryz.prog 42 #[.pointer (some ⟨B, 0, none⟩)] w (PostF w B BT BC BP s d (.ok (a1, ts1, put cs (81, m), put ps (81, ix, 0), ps.idxOf ((81, ix, 0) : Key)))) := by
  have hlt : a < s.size := pk_lt (by rw [unhide HC]; omega)
  have hix : ix ≤ 1000 := by have : cs.idxOf ((81, m) : Int × Nat) ≤ cs.length := List.idxOf_le_length; rw [unhide HIX] at this; omega
  go_enter Tryz.func42, Tryz.ntmps42
  go_wp2_with fail
  refine (peek_ci w B BT BC BP s a d ts cs ps hs ha h).mono ?_
  rw [unhide HC]
  rintro e w1 ⟨rfl, h1, k1⟩
  have c1 := h1.c1
  have hBl := h1.lt
  have f1 := h1.f1
  have hI0 := (h1.set1 (v := (a : Int) + 1) (a' := a + 1) (by omega)).alloc (.cells #[.int .u8 81, .int .i64 0, .int .i64 0] 93)
  have hX0 := px_at h1 ((a : Int) + 1) (a + 1) (by omega) 81
  have hk0 := (k1.trans (Kp.setCell B BT BC BP w1 1 (.int .i64 ((a : Int) + 1)))).trans (Kp.alloc B BT BC BP _ (.cells #[.int .u8 81, .int .i64 0, .int .i64 0] 93))
  go_wp2_with fail
  refine (claim_any _ B BT BC BP s (a + 1) d ts cs ps n hs (by omega) hd (by omega) (by omega) (by omega) 81 (by omega) hI0).mono ?_
  rw [unhide HR]
  rintro e w2 ⟨k2, he, h2⟩
  rw [unhide HIX] at he
  subst he
  have hX := hX0.kp k2
  have x0 := hX.p0
  have x1 := hX.p1
  have x2 := hX.p2
  have y0 := hX.f0
  have y1 := hX.f1
  have y2 := hX.f2
  clear c1 f1
  have c6 := h2.c6
  have HI := hide (h2.px hX 1 (.int .i64 (ix : Nat)))
  have HK2 := hide (Kp.setX k1.size (hk0.trans k2) 1 (.int .i64 (ix : Nat)))
  go_wp2_with fail
  go_region_with (go_at_call 67; refine (numP_int BP ps 81 ix 0 ix 0 _ rfl rfl (by omega) (by omega) (by omega) (by omega) (by exact (unhide HI).mp.kept rfl)).mono ?_; rintro e w3 ⟨rfl, hm, hg⟩)
  all_goals
    go_wp2_with fail
    go_ret2
    exact ⟨(unhide HK2).trans ((Kp.drewN _ _ _ _ _ 1).trans (Kp.grownP hg)), rfl, ((unhide HI).drewN 1).numP hm hg⟩

set_option linter.unusedVariables false in
set_option maxHeartbeats 1000000 in
theorem formula_j_bad (hs : s.size ≤ 100) (ha : a ≤ s.size) (hd : d ≤ 8) (ht : ts.length ≤ a) (hcs : cs.length ≤ a) (hps : ps.length ≤ a) (HC : Hid (pk s a = 40)) (E : Int) (p : Nat) (HP : Hid (∀ w, CI w B BT BC BP s a d ts cs ps → Calls Tryz.prog 64 #[.pointer (some ⟨B, 0, none⟩)] w (PostQ w B BT BC BP s d (.error (E, p))))) (h : CI w B BT BC BP s a d ts cs ps) :
    Calls Tryz.prog 42 #[.pointer (some ⟨B, 0, none⟩)] w (PostF w B BT BC BP s d (.error (E, p))) := by
  have hlt : a < s.size := pk_lt (by rw [unhide HC]; omega)
  go_enter Tryz.func42, Tryz.ntmps42
  go_wp2_with fail
  refine (peek_ci w B BT BC BP s a d ts cs ps hs ha h).mono ?_
  rw [unhide HC]
  rintro e w1 ⟨rfl, h1, k1⟩
  have hI0 := h1.alloc (.cells #[.int .u8 40, .int .i64 0, .int .i64 0] 93)
  have hX0 := PX.new h1 40 0 0
  have hk0 := k1.trans (Kp.alloc B BT BC BP _ (.cells #[.int .u8 40, .int .i64 0, .int .i64 0] 93))
  go_wp2_with fail
  refine ((unhide HP) _ hI0).mono ?_
  rintro e w2 ⟨k2, ⟨x, y, z, rfl⟩, h2⟩
  have hX := hX0.kp k2
  have x0 := hX.p0
  have x1 := hX.p1
  have x2 := hX.p2
  have y0 := hX.f0
  have y1 := hX.f1
  have y2 := hX.f2
  go_wp2_with fail
  go_ret2
  refine ⟨?_, ⟨_, rfl⟩, ?_⟩
  · repeat refine Kp.setX k1.size ?_ _ _
    exact hk0.trans k2
  · repeat refine Bad.setNew ?_ hX.nB _ _
    exact h2

set_option linter.unusedVariables false in
set_option maxHeartbeats 1000000 in
theorem formula_j_ok (hs : s.size ≤ 100) (ha : a ≤ s.size) (hd : d ≤ 8) (ht : ts.length ≤ a) (hcs : cs.length ≤ a) (hps : ps.length ≤ a) (HC : Hid (pk s a = 40)) (a1 : Nat) (ts1 : List Key) (cs1 : List (Int × Nat)) (ps1 : List Key) (q0 : Int) (q1 q2 : Nat) (hl : ps1.length ≤ 1000) (hq0 : 0 ≤ q0 ∧ q0 ≤ 255) (hq1 : q1 ≤ 1000) (hq2 : q2 ≤ 1000) (HP : Hid (∀ w, CI w B BT BC BP s a d ts cs ps → Calls Tryz.prog 64 #[.pointer (some ⟨B, 0, none⟩)] w (PostQ w B BT BC BP s d (.ok (a1, ts1, cs1, ps1, (q0, q1, q2)))))) (h : CI w B BT BC BP s a d ts cs ps) :
    Calls Tryz.prog 42 #[.pointer (some ⟨B, 0, none⟩)] w (PostF w B BT BC BP s d (.ok (a1, ts1, cs1, put ps1 (q0, q1, q2), ps1.idxOf ((q0, q1, q2) : Key)))) := by
  have hlt : a < s.size := pk_lt (by rw [unhide HC]; omega)
  go_enter Tryz.func42, Tryz.ntmps42
  go_wp2_with fail
  refine (peek_ci w B BT BC BP s a d ts cs ps hs ha h).mono ?_
  rw [unhide HC]
  rintro e w1 ⟨rfl, h1, k1⟩
  have hI0 := h1.alloc (.cells #[.int .u8 40, .int .i64 0, .int .i64 0] 93)
  have hX0 := PX.new h1 40 0 0
  have hk0 := k1.trans (Kp.alloc B BT BC BP _ (.cells #[.int .u8 40, .int .i64 0, .int .i64 0] 93))
  go_wp2_with fail
  refine ((unhide HP) _ hI0).mono ?_
  rintro e w2 ⟨k2, rfl, h2⟩
  have hX := hX0.kp k2
  have x0 := hX.p0
  have x1 := hX.p1
  have x2 := hX.p2
  have y0 := hX.f0
  have y1 := hX.f1
  have y2 := hX.f2
  have c6 := h2.c6
  have HI := hide (((h2.px hX 0 (.int .u8 q0)).setNew hX.nB hX.nT hX.nC hX.nP 1 (.int .i64 (q1 : Nat))).setNew hX.nB hX.nT hX.nC hX.nP 2 (.int .i64 (q2 : Nat)))
  have HK2 := hide (Kp.setX k1.size (Kp.setX k1.size (Kp.setX k1.size (hk0.trans k2) 0 (.int .u8 q0)) 1 (.int .i64 (q1 : Nat))) 2 (.int .i64 (q2 : Nat)))
  go_wp2_with fail
  go_region_with (go_at_call 67; refine (numP_int BP ps1 q0 q1 q2 q1 q2 _ rfl rfl hq0 hq1 hq2 hl (by exact (unhide HI).mp.kept rfl)).mono ?_; rintro e w3 ⟨rfl, hm, hg⟩)
  all_goals
    go_wp2_with fail
    go_ret2
    exact ⟨(unhide HK2).trans ((Kp.drewN _ _ _ _ _ 1).trans (Kp.grownP hg)), rfl, ((unhide HI).drewN 1).numP hm hg⟩
end

end Go.Proofs.YthcppbmkacbbiaaGreat
