import Derived.Test.YthcppbmkacbbiaaGreatCandCM
namespace Go.Proofs.YthcppbmkacbbiaaGreat
open Go.RowKit Go.Maps Go.WideMaps
open Rdg (Key put RT RT2 RF RP RQ)

theorem Kp.drewX {w w' : World} {B BT BC BP : Nat} (h : Kp B BT BC BP w w') : Kp B BT BC BP w w'.drew := h.trans (Kp.drewN B BT BC BP w' 1)
theorem Bad.drewX {w : World} {B p : Nat} {E : Int} (h : Bad w B p E) : Bad w.drew B p E := ⟨h.c1, h.c3⟩
theorem CI.drewX {w : World} {B BT BC BP : Nat} {s : ByteArray} {a d : Nat} {ts : List Key} {cs : List (Int × Nat)} {ps : List Key} (h : CI w B BT BC BP s a d ts cs ps) : CI w.drew B BT BC BP s a d ts cs ps := h.drewN 1
theorem PX.drewX {w : World} {X B BT BC BP : Nat} {c x y : Int} (h : PX w X B BT BC BP c x y) : PX w.drew X B BT BC BP c x y := h.kp (Kp.drewN _ _ _ _ _ 1)

/-- The contract of formula at one fuel. -/
def SaidF (B BT BC BP : Nat) (s : ByteArray) (n : Nat) : Prop :=
  ∀ (w : World) (a d : Nat) (ts : List Key) (cs : List (Int × Nat)) (ps : List Key), a ≤ s.size → d ≤ 8 → ts.length ≤ a → cs.length ≤ a → ps.length ≤ a → s.size < a + n → CI w B BT BC BP s a d ts cs ps →
    Calls Tryz.prog 42 #[.pointer (some ⟨B, 0, none⟩)] w (PostF w B BT BC BP s d (Rdg.rdP (pk s) n a d ts cs ps))

section
variable (w : World) (B BT BC BP : Nat) (s : ByteArray) (a d : Nat) (ts : List Key) (cs : List (Int × Nat)) (ps : List Key) (n : Nat)

set_option linter.unusedVariables false in
set_option maxHeartbeats 1000000 in
theorem joined_deep (hs : s.size ≤ 100) (ha : a < s.size) (hd : d ≤ 8) (ht : ts.length ≤ a) (hcs : cs.length ≤ a) (hps : ps.length ≤ a) (hn : s.size < a + 1 + n) (HC : Hid (pk s a = 40)) (h8 : d = 8) (h : CI w B BT BC BP s a d ts cs ps) :
    Calls Tryz.prog 64 #[.pointer (some ⟨B, 0, none⟩)] w (PostQ w B BT BC BP s d (.error (3, a))) := by
  have hX0 := PX.new h 0 0 0
  have hI0 := h.alloc (.cells #[.int .u8 0, .int .i64 0, .int .i64 0] 93)
  have kp0 : Kp B BT BC BP w _ := Kp.alloc B BT BC BP w (.cells #[.int .u8 0, .int .i64 0, .int .i64 0] 93)
  go_enter Tryz.func64, Tryz.ntmps64
  go_wp2_with fail
  refine (open_deep _ B BT BC BP s a d ts cs ps hs (by omega) h8 (unhide HC) hI0).mono ?_
  rintro e w1 ⟨rfl, h1, k1⟩
  have hX := hX0.kp k1
  have x0 := hX.p0
  have x1 := hX.p1
  have x2 := hX.p2
  have y0 := hX.f0
  have y1 := hX.f1
  have y2 := hX.f2
  go_wp2_with fail
  refine bodyPost_ret (v := .tuple #[.agg #[.int .u8 0, .int .i64 0, .int .i64 0], .bool false]) (by simp [results, Tryz.results64, go_sem, x0, x1, x2]) rfl ⟨?_, ⟨_, _, _, rfl⟩, ?_⟩
  · repeat refine Kp.setX (Nat.le_refl _) ?_ _ _
    exact kp0.trans k1
  · repeat refine Bad.setNew ?_ hX.nB _ _
    exact h1

set_option linter.unusedVariables false in
set_option maxHeartbeats 1000000 in
theorem joined_b1 (hs : s.size ≤ 100) (ha : a < s.size) (hd : d ≤ 8) (ht : ts.length ≤ a) (hcs : cs.length ≤ a) (hps : ps.length ≤ a) (hn : s.size < a + 1 + n) (HC : Hid (pk s a = 40)) (h8 : d ≠ 8) (E : Int) (p : Nat) (HR : Hid (Rdg.rdP (pk s) n (a + 1) (d + 1) ts cs ps = .error (E, p))) (hF : SaidF B BT BC BP s n) (h : CI w B BT BC BP s a d ts cs ps) :
    Calls Tryz.prog 64 #[.pointer (some ⟨B, 0, none⟩)] w (PostQ w B BT BC BP s d (.error (E, p))) := by
  have hX0 := PX.new h 0 0 0
  have hI0 := h.alloc (.cells #[.int .u8 0, .int .i64 0, .int .i64 0] 93)
  have kp0 : Kp B BT BC BP w _ := Kp.alloc B BT BC BP w (.cells #[.int .u8 0, .int .i64 0, .int .i64 0] 93)
  go_enter Tryz.func64, Tryz.ntmps64
  go_wp2_with fail
  refine (open_yes _ B BT BC BP s a d ts cs ps hs ha (by omega) (unhide HC) hI0).mono ?_
  rintro e w1 ⟨rfl, h1, k1⟩
  have hX1 := hX0.kp k1
  go_wp2_with fail
  refine (hF w1 (a + 1) (d + 1) ts cs ps (by omega) (by omega) (by omega) (by omega) (by omega) (by omega) h1).mono ?_
  rw [unhide HR]
  rintro e w2 ⟨k2, ⟨z, rfl⟩, h2⟩
  have hX := hX1.kp k2
  have x0 := hX.p0
  have x1 := hX.p1
  have x2 := hX.p2
  have y0 := hX.f0
  have y1 := hX.f1
  have y2 := hX.f2
  go_wp2_with fail
  refine bodyPost_ret (v := .tuple #[.agg #[.int .u8 0, .int .i64 z, .int .i64 0], .bool false]) (by simp [results, Tryz.results64, go_sem, x0, x1, x2]) rfl ⟨?_, ⟨_, _, _, rfl⟩, ?_⟩
  · repeat refine Kp.setX (Nat.le_refl _) ?_ _ _
    exact (kp0.trans k1).trans k2
  · repeat refine Bad.setNew ?_ hX.nB _ _
    exact h2

set_option linter.unusedVariables false in
set_option maxHeartbeats 1000000 in
theorem joined_b2 (hs : s.size ≤ 100) (ha : a < s.size) (hd : d ≤ 8) (ht : ts.length ≤ a) (hcs : cs.length ≤ a) (hps : ps.length ≤ a) (hn : s.size < a + 1 + n) (HC : Hid (pk s a = 40)) (h8 : d ≠ 8) (a1 : Nat) (ts1 : List Key) (cs1 : List (Int × Nat)) (ps1 : List Key) (m1 : Nat) (HR : Hid (Rdg.rdP (pk s) n (a + 1) (d + 1) ts cs ps = .ok (a1, ts1, cs1, ps1, m1))) (hts1 : ts1.length ≤ a1) (hcs1 : cs1.length ≤ a1) (hps1 : ps1.length ≤ a1) (hla1 : a < a1) (hle1 : a1 ≤ s.size) (hj : Rdg.isJoint (pk s a1) = false) (hF : SaidF B BT BC BP s n) (h : CI w B BT BC BP s a d ts cs ps) :
    Calls Tryz.prog 64 #[.pointer (some ⟨B, 0, none⟩)] w (PostQ w B BT BC BP s d (.error (2, a1))) := by
  have hX0 := PX.new h 0 0 0
  have hI0 := h.alloc (.cells #[.int .u8 0, .int .i64 0, .int .i64 0] 93)
  have kp0 : Kp B BT BC BP w _ := Kp.alloc B BT BC BP w (.cells #[.int .u8 0, .int .i64 0, .int .i64 0] 93)
  go_enter Tryz.func64, Tryz.ntmps64
  go_wp2_with fail
  refine (open_yes _ B BT BC BP s a d ts cs ps hs ha (by omega) (unhide HC) hI0).mono ?_
  rintro e w1 ⟨rfl, h1, k1⟩
  have hX1 := hX0.kp k1
  go_wp2_with fail
  refine (hF w1 (a + 1) (d + 1) ts cs ps (by omega) (by omega) (by omega) (by omega) (by omega) (by omega) h1).mono ?_
  rw [unhide HR]
  rintro e w2 ⟨k2, rfl, h2⟩
  have hX2 := hX1.kp k2
  have x0 := hX2.p0
  have x1 := hX2.p1
  have x2 := hX2.p2
  have y0 := hX2.f0
  have y1 := hX2.f1
  have y2 := hX2.f2
  go_wp2_with fail
  refine (peek_ci _ B BT BC BP s a1 (d + 1) ts1 cs1 ps1 hs (by omega) (h2.px hX2 1 (.int .i64 m1))).mono ?_
  rintro e w3 ⟨rfl, h3, k3⟩
  have hX3 := (hX2.set1 m1).kp k3
  clear x0 x1 x2 y0 y1 y2
  have x0 := hX3.p0
  have x1 := hX3.p1
  have x2 := hX3.p2
  have y0 := hX3.f0
  have y1 := hX3.f1
  have y2 := hX3.f2
  go_wp2_with fail
  refine (joint_no _ B BT BC BP s a1 (d + 1) ts1 cs1 ps1 hs hle1 hj (h3.px hX3 0 (.int .u8 (pk s a1)))).mono ?_
  rintro e w4 ⟨rfl, h4, k4⟩
  have hX4 := (hX3.set0 (pk s a1)).kp k4
  clear x0 x1 x2 y0 y1 y2
  have x0 := hX4.p0
  have x1 := hX4.p1
  have x2 := hX4.p2
  have y0 := hX4.f0
  have y1 := hX4.f1
  have y2 := hX4.f2
  go_wp2_with fail
  refine bodyPost_ret (v := .tuple #[.agg #[.int .u8 (pk s a1), .int .i64 m1, .int .i64 0], .bool false]) (by simp [results, Tryz.results64, go_sem, x0, x1, x2]) rfl ⟨?_, ⟨_, _, _, rfl⟩, ?_⟩
  · repeat refine Kp.setX (Nat.le_refl _) ?_ _ _
    exact (Kp.setX (Nat.le_refl _) ((Kp.setX (Nat.le_refl _) ((kp0.trans k1).trans k2) 1 (.int .i64 m1)).trans k3) 0 (.int .u8 (pk s a1))).trans k4
  · repeat refine Bad.setNew ?_ hX4.nB _ _
    exact h4

set_option linter.unusedVariables false in
set_option maxHeartbeats 1000000 in
theorem joined_b3 (hs : s.size ≤ 100) (ha : a < s.size) (hd : d ≤ 8) (ht : ts.length ≤ a) (hcs : cs.length ≤ a) (hps : ps.length ≤ a) (hn : s.size < a + 1 + n) (HC : Hid (pk s a = 40)) (h8 : d ≠ 8) (a1 : Nat) (ts1 : List Key) (cs1 : List (Int × Nat)) (ps1 : List Key) (m1 : Nat) (HR : Hid (Rdg.rdP (pk s) n (a + 1) (d + 1) ts cs ps = .ok (a1, ts1, cs1, ps1, m1))) (hts1 : ts1.length ≤ a1) (hcs1 : cs1.length ≤ a1) (hps1 : ps1.length ≤ a1) (hla1 : a < a1) (hlt1 : a1 < s.size) (hj : Rdg.isJoint (pk s a1) = true) (E : Int) (p : Nat) (HR2 : Hid (Rdg.rdP (pk s) n (a1 + 1) (d + 1) ts1 cs1 ps1 = .error (E, p))) (hF : SaidF B BT BC BP s n) (h : CI w B BT BC BP s a d ts cs ps) :
    Calls Tryz.prog 64 #[.pointer (some ⟨B, 0, none⟩)] w (PostQ w B BT BC BP s d (.error (E, p))) := by
  have hX0 := PX.new h 0 0 0
  have hI0 := h.alloc (.cells #[.int .u8 0, .int .i64 0, .int .i64 0] 93)
  have kp0 : Kp B BT BC BP w _ := Kp.alloc B BT BC BP w (.cells #[.int .u8 0, .int .i64 0, .int .i64 0] 93)
  go_enter Tryz.func64, Tryz.ntmps64
  go_wp2_with fail
  refine (open_yes _ B BT BC BP s a d ts cs ps hs ha (by omega) (unhide HC) hI0).mono ?_
  rintro e w1 ⟨rfl, h1, k1⟩
  have hX1 := hX0.kp k1
  go_wp2_with fail
  refine (hF w1 (a + 1) (d + 1) ts cs ps (by omega) (by omega) (by omega) (by omega) (by omega) (by omega) h1).mono ?_
  rw [unhide HR]
  rintro e w2 ⟨k2, rfl, h2⟩
  have hX2 := hX1.kp k2
  have x0 := hX2.p0
  have x1 := hX2.p1
  have x2 := hX2.p2
  have y0 := hX2.f0
  have y1 := hX2.f1
  have y2 := hX2.f2
  go_wp2_with fail
  refine (peek_ci _ B BT BC BP s a1 (d + 1) ts1 cs1 ps1 hs (by omega) (h2.px hX2 1 (.int .i64 m1))).mono ?_
  rintro e w3 ⟨rfl, h3, k3⟩
  have hX3 := (hX2.set1 m1).kp k3
  clear x0 x1 x2 y0 y1 y2
  have x0 := hX3.p0
  have x1 := hX3.p1
  have x2 := hX3.p2
  have y0 := hX3.f0
  have y1 := hX3.f1
  have y2 := hX3.f2
  go_wp2_with fail
  refine (joint_yes _ B BT BC BP s a1 (d + 1) ts1 cs1 ps1 hs hlt1 hj (h3.px hX3 0 (.int .u8 (pk s a1)))).mono ?_
  rintro e w4 ⟨rfl, h4, k4⟩
  have hX4 := (hX3.set0 (pk s a1)).kp k4
  clear x0 x1 x2 y0 y1 y2
  go_wp2_with fail
  refine (hF w4 (a1 + 1) (d + 1) ts1 cs1 ps1 (by omega) (by omega) (by omega) (by omega) (by omega) (by omega) h4).mono ?_
  rw [unhide HR2]
  rintro e w5 ⟨k5, ⟨z, rfl⟩, h5⟩
  have hX5 := hX4.kp k5
  have x0 := hX5.p0
  have x1 := hX5.p1
  have x2 := hX5.p2
  have y0 := hX5.f0
  have y1 := hX5.f1
  have y2 := hX5.f2
  go_wp2_with fail
  go_region
  all_goals
    go_wp2_with fail
    refine bodyPost_ret (v := .tuple #[.agg #[.int .u8 (pk s a1), .int .i64 m1, .int .i64 z], .bool false]) (by simp [results, Tryz.results64, go_sem, x0, x1, x2]) rfl ⟨?_, ⟨_, _, _, rfl⟩, ?_⟩
    · refine Kp.drewX ?_
      repeat refine Kp.setX (Nat.le_refl _) ?_ _ _
      exact ((Kp.setX (Nat.le_refl _) ((Kp.setX (Nat.le_refl _) ((kp0.trans k1).trans k2) 1 (.int .i64 m1)).trans k3) 0 (.int .u8 (pk s a1))).trans k4).trans k5
    · refine Bad.drewX ?_
      repeat refine Bad.setNew ?_ hX5.nB _ _
      exact h5
set_option linter.unusedVariables false in
set_option maxHeartbeats 1000000 in
theorem joined_b4 (hs : s.size ≤ 100) (ha : a < s.size) (hd : d ≤ 8) (ht : ts.length ≤ a) (hcs : cs.length ≤ a) (hps : ps.length ≤ a) (hn : s.size < a + 1 + n) (HC : Hid (pk s a = 40)) (h8 : d ≠ 8) (a1 : Nat) (ts1 : List Key) (cs1 : List (Int × Nat)) (ps1 : List Key) (m1 : Nat) (HR : Hid (Rdg.rdP (pk s) n (a + 1) (d + 1) ts cs ps = .ok (a1, ts1, cs1, ps1, m1))) (hts1 : ts1.length ≤ a1) (hcs1 : cs1.length ≤ a1) (hps1 : ps1.length ≤ a1) (hla1 : a < a1) (hlt1 : a1 < s.size) (hj : Rdg.isJoint (pk s a1) = true) (a2 : Nat) (ts2 : List Key) (cs2 : List (Int × Nat)) (ps2 : List Key) (m2 : Nat) (HR2 : Hid (Rdg.rdP (pk s) n (a1 + 1) (d + 1) ts1 cs1 ps1 = .ok (a2, ts2, cs2, ps2, m2))) (hle2 : a2 ≤ s.size) (h41 : pk s a2 ≠ 41) (hF : SaidF B BT BC BP s n) (h : CI w B BT BC BP s a d ts cs ps) :
    Calls Tryz.prog 64 #[.pointer (some ⟨B, 0, none⟩)] w (PostQ w B BT BC BP s d (.error (2, a2))) := by
  have hX0 := PX.new h 0 0 0
  have hI0 := h.alloc (.cells #[.int .u8 0, .int .i64 0, .int .i64 0] 93)
  have kp0 : Kp B BT BC BP w _ := Kp.alloc B BT BC BP w (.cells #[.int .u8 0, .int .i64 0, .int .i64 0] 93)
  go_enter Tryz.func64, Tryz.ntmps64
  go_wp2_with fail
  refine (open_yes _ B BT BC BP s a d ts cs ps hs ha (by omega) (unhide HC) hI0).mono ?_
  rintro e w1 ⟨rfl, h1, k1⟩
  have hX1 := hX0.kp k1
  go_wp2_with fail
  refine (hF w1 (a + 1) (d + 1) ts cs ps (by omega) (by omega) (by omega) (by omega) (by omega) (by omega) h1).mono ?_
  rw [unhide HR]
  rintro e w2 ⟨k2, rfl, h2⟩
  have hX2 := hX1.kp k2
  have x0 := hX2.p0
  have x1 := hX2.p1
  have x2 := hX2.p2
  have y0 := hX2.f0
  have y1 := hX2.f1
  have y2 := hX2.f2
  go_wp2_with fail
  refine (peek_ci _ B BT BC BP s a1 (d + 1) ts1 cs1 ps1 hs (by omega) (h2.px hX2 1 (.int .i64 m1))).mono ?_
  rintro e w3 ⟨rfl, h3, k3⟩
  have hX3 := (hX2.set1 m1).kp k3
  clear x0 x1 x2 y0 y1 y2
  have x0 := hX3.p0
  have x1 := hX3.p1
  have x2 := hX3.p2
  have y0 := hX3.f0
  have y1 := hX3.f1
  have y2 := hX3.f2
  go_wp2_with fail
  refine (joint_yes _ B BT BC BP s a1 (d + 1) ts1 cs1 ps1 hs hlt1 hj (h3.px hX3 0 (.int .u8 (pk s a1)))).mono ?_
  rintro e w4 ⟨rfl, h4, k4⟩
  have hX4 := (hX3.set0 (pk s a1)).kp k4
  clear x0 x1 x2 y0 y1 y2
  go_wp2_with fail
  refine (hF w4 (a1 + 1) (d + 1) ts1 cs1 ps1 (by omega) (by omega) (by omega) (by omega) (by omega) (by omega) h4).mono ?_
  rw [unhide HR2]
  rintro e w5 ⟨k5, rfl, h5⟩
  have hX5 := hX4.kp k5
  have hXs := (hX5.set2 m2).drewX
  have hIs := (h5.px hX5 2 (.int .i64 m2)).drewX
  have x0 := hX5.p0
  have x1 := hX5.p1
  have x2 := hX5.p2
  have y0 := hX5.f0
  have y1 := hX5.f1
  have y2 := hX5.f2
  go_wp2_with fail
  go_region_with (go_at_call 106; refine (shut_no _ B BT BC BP s a2 d ts2 cs2 ps2 hs hle2 hd h41 hIs).mono ?_; rintro e w6 ⟨rfl, h6, k6⟩; have z0 := (hXs.kp k6).p0; have z1 := (hXs.kp k6).p1; have z2 := (hXs.kp k6).p2; have v0 := (hXs.kp k6).f0; have v1 := (hXs.kp k6).f1; have v2 := (hXs.kp k6).f2)
  all_goals
    go_wp2_with fail
    refine bodyPost_ret (v := .tuple #[.agg #[.int .u8 (pk s a1), .int .i64 m1, .int .i64 m2], .bool false]) (by simp [results, Tryz.results64, go_sem, z0, z1, z2]) rfl ⟨?_, ⟨_, _, _, rfl⟩, ?_⟩
    · repeat refine Kp.setX (Nat.le_refl _) ?_ _ _
      exact (Kp.drewX (Kp.setX (Nat.le_refl _) (((Kp.setX (Nat.le_refl _) ((Kp.setX (Nat.le_refl _) ((kp0.trans k1).trans k2) 1 (.int .i64 m1)).trans k3) 0 (.int .u8 (pk s a1))).trans k4).trans k5) 2 (.int .i64 m2))).trans k6
    · repeat refine Bad.setNew ?_ hX5.nB _ _
      exact h6

set_option linter.unusedVariables false in
set_option maxHeartbeats 1000000 in
theorem joined_b5 (hs : s.size ≤ 100) (ha : a < s.size) (hd : d ≤ 8) (ht : ts.length ≤ a) (hcs : cs.length ≤ a) (hps : ps.length ≤ a) (hn : s.size < a + 1 + n) (HC : Hid (pk s a = 40)) (h8 : d ≠ 8) (a1 : Nat) (ts1 : List Key) (cs1 : List (Int × Nat)) (ps1 : List Key) (m1 : Nat) (HR : Hid (Rdg.rdP (pk s) n (a + 1) (d + 1) ts cs ps = .ok (a1, ts1, cs1, ps1, m1))) (hts1 : ts1.length ≤ a1) (hcs1 : cs1.length ≤ a1) (hps1 : ps1.length ≤ a1) (hla1 : a < a1) (hlt1 : a1 < s.size) (hj : Rdg.isJoint (pk s a1) = true) (a2 : Nat) (ts2 : List Key) (cs2 : List (Int × Nat)) (ps2 : List Key) (m2 : Nat) (HR2 : Hid (Rdg.rdP (pk s) n (a1 + 1) (d + 1) ts1 cs1 ps1 = .ok (a2, ts2, cs2, ps2, m2))) (hlt2 : a2 < s.size) (h41 : pk s a2 = 41) (hF : SaidF B BT BC BP s n) (h : CI w B BT BC BP s a d ts cs ps) :
    Calls Tryz.prog 64 #[.pointer (some ⟨B, 0, none⟩)] w (PostQ w B BT BC BP s d (.ok (a2 + 1, ts2, cs2, ps2, (pk s a1, m1, m2)))) := by
  have hX0 := PX.new h 0 0 0
  have hI0 := h.alloc (.cells #[.int .u8 0, .int .i64 0, .int .i64 0] 93)
  have kp0 : Kp B BT BC BP w _ := Kp.alloc B BT BC BP w (.cells #[.int .u8 0, .int .i64 0, .int .i64 0] 93)
  go_enter Tryz.func64, Tryz.ntmps64
  go_wp2_with fail
  refine (open_yes _ B BT BC BP s a d ts cs ps hs ha (by omega) (unhide HC) hI0).mono ?_
  rintro e w1 ⟨rfl, h1, k1⟩
  have hX1 := hX0.kp k1
  go_wp2_with fail
  refine (hF w1 (a + 1) (d + 1) ts cs ps (by omega) (by omega) (by omega) (by omega) (by omega) (by omega) h1).mono ?_
  rw [unhide HR]
  rintro e w2 ⟨k2, rfl, h2⟩
  have hX2 := hX1.kp k2
  have x0 := hX2.p0
  have x1 := hX2.p1
  have x2 := hX2.p2
  have y0 := hX2.f0
  have y1 := hX2.f1
  have y2 := hX2.f2
  go_wp2_with fail
  refine (peek_ci _ B BT BC BP s a1 (d + 1) ts1 cs1 ps1 hs (by omega) (h2.px hX2 1 (.int .i64 m1))).mono ?_
  rintro e w3 ⟨rfl, h3, k3⟩
  have hX3 := (hX2.set1 m1).kp k3
  clear x0 x1 x2 y0 y1 y2
  have x0 := hX3.p0
  have x1 := hX3.p1
  have x2 := hX3.p2
  have y0 := hX3.f0
  have y1 := hX3.f1
  have y2 := hX3.f2
  go_wp2_with fail
  refine (joint_yes _ B BT BC BP s a1 (d + 1) ts1 cs1 ps1 hs hlt1 hj (h3.px hX3 0 (.int .u8 (pk s a1)))).mono ?_
  rintro e w4 ⟨rfl, h4, k4⟩
  have hX4 := (hX3.set0 (pk s a1)).kp k4
  clear x0 x1 x2 y0 y1 y2
  go_wp2_with fail
  refine (hF w4 (a1 + 1) (d + 1) ts1 cs1 ps1 (by omega) (by omega) (by omega) (by omega) (by omega) (by omega) h4).mono ?_
  rw [unhide HR2]
  rintro e w5 ⟨k5, rfl, h5⟩
  have hX5 := hX4.kp k5
  have hXs := (hX5.set2 m2).drewX
  have hIs := (h5.px hX5 2 (.int .i64 m2)).drewX
  have x0 := hX5.p0
  have x1 := hX5.p1
  have x2 := hX5.p2
  have y0 := hX5.f0
  have y1 := hX5.f1
  have y2 := hX5.f2
  go_wp2_with fail
  go_region_with (go_at_call 106; refine (shut_yes _ B BT BC BP s a2 d ts2 cs2 ps2 hs hlt2 hd h41 hIs).mono ?_; rintro e w6 ⟨rfl, h6, k6⟩; have z0 := (hXs.kp k6).p0; have z1 := (hXs.kp k6).p1; have z2 := (hXs.kp k6).p2; have v0 := (hXs.kp k6).f0; have v1 := (hXs.kp k6).f1; have v2 := (hXs.kp k6).f2)
  all_goals
    go_wp2_with fail
    refine bodyPost_ret (v := .tuple #[.agg #[.int .u8 (pk s a1), .int .i64 m1, .int .i64 m2], .bool true]) (by simp [results, Tryz.results64, go_sem, z0, z1, z2]) rfl ⟨?_, rfl, ?_⟩
    · repeat refine Kp.setX (Nat.le_refl _) ?_ _ _
      exact (Kp.drewX (Kp.setX (Nat.le_refl _) (((Kp.setX (Nat.le_refl _) ((Kp.setX (Nat.le_refl _) ((kp0.trans k1).trans k2) 1 (.int .i64 m1)).trans k3) 0 (.int .u8 (pk s a1))).trans k4).trans k5) 2 (.int .i64 m2))).trans k6
    · repeat refine CI.setNew ?_ hX5.nB hX5.nT hX5.nC hX5.nP _ _
      exact h6

end

end Go.Proofs.YthcppbmkacbbiaaGreat

namespace Go.Proofs.YthcppbmkacbbiaaGreat
open Go.RowKit Go.Maps Go.WideMaps
open Rdg (Key put RT RT2 RF RP RQ)

section
variable (w : World) (B BT BC BP : Nat) (s : ByteArray) (a d : Nat) (ts : List Key) (cs : List (Int × Nat)) (ps : List Key) (n : Nat)

theorem pk_ok (s : ByteArray) : (∀ a, pk s a ≠ 0 → a < s.size) ∧ ∀ a, 0 ≤ pk s a ∧ pk s a ≤ 255 := ⟨fun _ h => pk_lt h, pk_bd s⟩

theorem joined_any (hs : s.size ≤ 100) (_ha : a ≤ s.size) (hd : d ≤ 8) (ht : ts.length ≤ a) (hcs : cs.length ≤ a) (hps : ps.length ≤ a) (hn : s.size < a + 1 + n) (hc : pk s a = 40) (hF : SaidF B BT BC BP s n) (h : CI w B BT BC BP s a d ts cs ps) :
    Calls Tryz.prog 64 #[.pointer (some ⟨B, 0, none⟩)] w (PostQ w B BT BC BP s d (Rdg.rdJ (pk s) (Rdg.rdP (pk s) n) a d ts cs ps)) := by
  have hlt : a < s.size := pk_lt (by omega)
  unfold Rdg.rdJ
  split
  · rename_i h8
    exact joined_deep w B BT BC BP s a d ts cs ps n hs hlt hd ht hcs hps hn (hide hc) h8 h
  · rename_i h8
    have hok := Rdg.okP_rdP (pk_ok s).1 (pk_ok s).2 n (a + 1) (d + 1) ts cs ps (by omega) (by omega) (by omega) (by omega)
    split
    · rename_i Ep hR
      obtain ⟨E, p⟩ := Ep
      exact joined_b1 w B BT BC BP s a d ts cs ps n hs hlt hd ht hcs hps hn (hide hc) h8 E p (hide hR) hF h
    · rename_i a1 ts1 cs1 ps1 m1 hR
      rw [hR] at hok
      obtain ⟨p1, p2, p3, p4, p5, p6, p7⟩ := hok
      split
      · rename_i hj
        have hlt1 : a1 < s.size := pk_lt (fun e => by rw [e] at hj; simp [Rdg.isJoint] at hj)
        have hok2 := Rdg.okP_rdP (pk_ok s).1 (pk_ok s).2 n (a1 + 1) (d + 1) ts1 cs1 ps1 (by omega) (by omega) (by omega) (by omega)
        split
        · rename_i Ep hR2
          obtain ⟨E, p⟩ := Ep
          exact joined_b3 w B BT BC BP s a d ts cs ps n hs hlt hd ht hcs hps hn (hide hc) h8 a1 ts1 cs1 ps1 m1 (hide hR) (by omega) (by omega) (by omega) (by omega) hlt1 hj E p (hide hR2) hF h
        · rename_i a2 ts2 cs2 ps2 m2 hR2
          rw [hR2] at hok2
          obtain ⟨q1, q2, q3, q4, q5, q6, q7⟩ := hok2
          split
          · rename_i h41
            exact joined_b5 w B BT BC BP s a d ts cs ps n hs hlt hd ht hcs hps hn (hide hc) h8 a1 ts1 cs1 ps1 m1 (hide hR) (by omega) (by omega) (by omega) (by omega) hlt1 hj a2 ts2 cs2 ps2 m2 (hide hR2) (pk_lt (by omega)) h41 hF h
          · rename_i h41
            exact joined_b4 w B BT BC BP s a d ts cs ps n hs hlt hd ht hcs hps hn (hide hc) h8 a1 ts1 cs1 ps1 m1 (hide hR) (by omega) (by omega) (by omega) (by omega) hlt1 hj a2 ts2 cs2 ps2 m2 (hide hR2) q2 h41 hF h
      · rename_i hj
        exact joined_b2 w B BT BC BP s a d ts cs ps n hs hlt hd ht hcs hps hn (hide hc) h8 a1 ts1 cs1 ps1 m1 (hide hR) (by omega) (by omega) (by omega) (by omega) p2 (by simpa using hj) hF h

theorem px_at {w1 : World} {B BT BC BP : Nat} {s : ByteArray} {a d : Nat} {ts : List Key} {cs : List (Int × Nat)} {ps : List Key} (h : CI w1 B BT BC BP s a d ts cs ps) (v : Int) (a' : Nat) (hv : v = a') (c : Int) :
    PX ((w1.setCell ⟨B, 1, none⟩ (.int .i64 v)).alloc (.cells #[.int .u8 c, .int .i64 0, .int .i64 0] 93)) w1.heap.size B BT BC BP c 0 0 := by
  have h1 := PX.new (h.set1 hv) c 0 0
  have e : (w1.setCell ⟨B, 1, none⟩ (.int .i64 v)).heap.size = w1.heap.size := by simp [World.setCell]
  rw [e] at h1
  exact h1

end

end Go.Proofs.YthcppbmkacbbiaaGreat
