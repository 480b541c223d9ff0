import Derived.Test.YthcppbmkacbbiaaGreatCandTfM
import Derived.Test.YthcppbmkacbbiaaGreatRdgM
namespace Go.Proofs.YthcppbmkacbbiaaGreat
open Go.RowKit Go.Maps Go.WideMaps
open Rdg (Key put RT RT2 RF RP RQ)

/-- What a reading of a formula leaves. -/
def PostF (w : World) (B BT BC BP : Nat) (s : ByteArray) (d : Nat) (r : RP) (e : Ending) (w' : World) : Prop :=
  Kp B BT BC BP w w' ∧ match r with
  | .ok (a1, ts1, cs1, ps1, m) => e = .returned (.tuple #[.int .i64 m, .bool true]) ∧ CI w' B BT BC BP s a1 d ts1 cs1 ps1
  | .error (E, p) => (∃ z : Int, e = .returned (.tuple #[.int .i64 z, .bool false])) ∧ Bad w' B p E

/-- What a reading of a piece leaves. -/
def PostQ (w : World) (B BT BC BP : Nat) (s : ByteArray) (d : Nat) (r : RQ) (e : Ending) (w' : World) : Prop :=
  Kp B BT BC BP w w' ∧ match r with
  | .ok (a1, ts1, cs1, ps1, q) => e = .returned (.tuple #[.agg #[.int .u8 q.1, .int .i64 q.2.1, .int .i64 q.2.2], .bool true]) ∧ CI w' B BT BC BP s a1 d ts1 cs1 ps1
  | .error (E, p) => (∃ x y z : Int, e = .returned (.tuple #[.agg #[.int .u8 x, .int .i64 y, .int .i64 z], .bool false])) ∧ Bad w' B p E

/-- What a reading of a claim leaves, its letter being c. -/
def PostC (w : World) (B BT BC BP : Nat) (s : ByteArray) (d : Nat) (cs : List (Int × Nat)) (ps : List Key) (c : Int) (r : RT) (e : Ending) (w' : World) : Prop :=
  Kp B BT BC BP w w' ∧ match r with
  | .ok (a1, ts1, m) => e = .returned (.tuple #[.int .i64 (cs.idxOf (c, m)), .bool true]) ∧ CI w' B BT BC BP s a1 d ts1 (put cs (c, m)) ps
  | .error (E, p) => (∃ z : Int, e = .returned (.tuple #[.int .i64 z, .bool false])) ∧ Bad w' B p E

theorem numC_int (BC : Nat) (cs : List (Int × Nat)) (c xi : Int) (x : Nat) (w : World) (hx : xi = x) (h1 : 0 ≤ c ∧ c ≤ 255) (h2 : x ≤ 1000) (hl : cs.length ≤ 1000) (hM : MapIs w 90 BC kvC cs) :
    Calls Tryz.prog 108 #[.map (some BC), .agg #[.int .u8 c, .int .i64 xi]] w fun e w' =>
      e = .returned (.int .i64 (cs.idxOf (c, x))) ∧ MapIs w' 90 BC kvC (put cs (c, x)) ∧ w.grownBy w' (some BC) := by
  subst hx
  exact numC_any BC cs c x w h1 h2 hl hM
theorem numP_int (BP : Nat) (ps : List Key) (c xi yi : Int) (x y : Nat) (w : World) (hx : xi = x) (hy : yi = y) (h1 : 0 ≤ c ∧ c ≤ 255) (h2 : x ≤ 1000) (h3 : y ≤ 1000) (hl : ps.length ≤ 1000) (hM : MapIs w 93 BP kvT ps) :
    Calls Tryz.prog 67 #[.map (some BP), .agg #[.int .u8 c, .int .i64 xi, .int .i64 yi]] w fun e w' =>
      e = .returned (.int .i64 (ps.idxOf (c, x, y))) ∧ MapIs w' 93 BP kvT (put ps (c, x, y)) ∧ w.grownBy w' (some BP) := by
  subst hx
  subst hy
  exact numP_any BP ps c x y w h1 h2 h3 hl hM

/-- A piece of the call's own, in block X. -/
structure PX (w : World) (X B BT BC BP : Nat) (c x y : Int) : Prop where
  p0 : w.cell? ⟨X, 0, none⟩ = some (.int .u8 c)
  p1 : w.cell? ⟨X, 1, none⟩ = some (.int .i64 x)
  p2 : w.cell? ⟨X, 2, none⟩ = some (.int .i64 y)
  f0 : w.frozen? ⟨X, 0, none⟩ = false
  f1 : w.frozen? ⟨X, 1, none⟩ = false
  f2 : w.frozen? ⟨X, 2, none⟩ = false
  nB : X ≠ B
  nT : X ≠ BT
  nC : X ≠ BC
  nP : X ≠ BP
  lt : X < w.heap.size

section
variable {w w' : World} {X B BT BC BP : Nat} {c x y : Int} {s : ByteArray} {a d : Nat} {ts : List Key} {cs : List (Int × Nat)} {ps : List Key}

theorem PX.kp (h : PX w X B BT BC BP c x y) (k : Kp B BT BC BP w w') : PX w' X B BT BC BP c x y :=
  ⟨(k.cell h.lt h.nB h.nT h.nC h.nP).trans h.p0, (k.cell h.lt h.nB h.nT h.nC h.nP).trans h.p1, (k.cell h.lt h.nB h.nT h.nC h.nP).trans h.p2,
   (k.frozen h.lt h.nB h.nT h.nC h.nP).trans h.f0, (k.frozen h.lt h.nB h.nT h.nC h.nP).trans h.f1, (k.frozen h.lt h.nB h.nT h.nC h.nP).trans h.f2, h.nB, h.nT, h.nC, h.nP, Nat.lt_of_lt_of_le h.lt k.size⟩

theorem PX.new (hci : CI w B BT BC BP s a d ts cs ps) (c x y : Int) : PX (w.alloc (.cells #[.int .u8 c, .int .i64 x, .int .i64 y] 93)) w.heap.size B BT BC BP c x y := by
  have h1 := hci.lt
  have h2 := hci.mt.lt
  have h3 := hci.mc.lt
  have h4 := hci.mp.lt
  exact ⟨World.cell?_alloc_at _ _ _ _ rfl, World.cell?_alloc_at _ _ _ _ rfl, World.cell?_alloc_at _ _ _ _ rfl, World.frozen?_alloc_at _ _ _ _ rfl, World.frozen?_alloc_at _ _ _ _ rfl, World.frozen?_alloc_at _ _ _ _ rfl, by omega, by omega, by omega, by omega, by simp⟩

theorem PX.set0 (h : PX w X B BT BC BP c x y) (c' : Int) : PX (w.setCell ⟨X, 0, none⟩ (.int .u8 c')) X B BT BC BP c' x y :=
  ⟨cell_same _ h.p0, (cell_other _ _ _ (by omega)).trans h.p1, (cell_other _ _ _ (by omega)).trans h.p2, by rw [World.frozen?_setCell]; exact h.f0, by rw [World.frozen?_setCell]; exact h.f1, by rw [World.frozen?_setCell]; exact h.f2,
   h.nB, h.nT, h.nC, h.nP, by have := h.lt; simpa [World.setCell] using this⟩
theorem PX.set1 (h : PX w X B BT BC BP c x y) (x' : Int) : PX (w.setCell ⟨X, 1, none⟩ (.int .i64 x')) X B BT BC BP c x' y :=
  ⟨(cell_other _ _ _ (by omega)).trans h.p0, cell_same _ h.p1, (cell_other _ _ _ (by omega)).trans h.p2, by rw [World.frozen?_setCell]; exact h.f0, by rw [World.frozen?_setCell]; exact h.f1, by rw [World.frozen?_setCell]; exact h.f2,
   h.nB, h.nT, h.nC, h.nP, by have := h.lt; simpa [World.setCell] using this⟩
theorem PX.set2 (h : PX w X B BT BC BP c x y) (y' : Int) : PX (w.setCell ⟨X, 2, none⟩ (.int .i64 y')) X B BT BC BP c x y' :=
  ⟨(cell_other _ _ _ (by omega)).trans h.p0, (cell_other _ _ _ (by omega)).trans h.p1, cell_same _ h.p2, by rw [World.frozen?_setCell]; exact h.f0, by rw [World.frozen?_setCell]; exact h.f1, by rw [World.frozen?_setCell]; exact h.f2,
   h.nB, h.nT, h.nC, h.nP, by have := h.lt; simpa [World.setCell] using this⟩
theorem CI.px (h : CI w B BT BC BP s a d ts cs ps) (hx : PX w X B BT BC BP c x y) (i : Nat) (v : Value) : CI (w.setCell ⟨X, i, none⟩ v) B BT BC BP s a d ts cs ps := h.setNew hx.nB hx.nT hx.nC hx.nP i v
theorem Bad.px {p : Nat} {E : Int} (h : Bad w B p E) (hx : PX w X B BT BC BP c x y) (i : Nat) (v : Value) : Bad (w.setCell ⟨X, i, none⟩ v) B p E := h.setNew hx.nB i v
end

section
variable (w : World) (B BT BC BP : Nat) (s : ByteArray) (a d : Nat) (ts : List Key) (cs : List (Int × Nat)) (ps : List Key) (n : Nat)

set_option maxHeartbeats 400000 in
theorem claim_any (hs : s.size ≤ 100) (ha : a ≤ s.size) (hd : d ≤ 8) (ht : ts.length ≤ a) (hcs : cs.length ≤ a) (hn : s.size < a + 1 + n) (c : Int) (hbd : 0 ≤ c ∧ c ≤ 255) (h : CI w B BT BC BP s a d ts cs ps) :
    Calls Tryz.prog 65 #[.pointer (some ⟨B, 0, none⟩), .int .u8 c] w (PostC w B BT BC BP s d cs ps c (Rdg.arg1 (pk s) (Rdg.rdT (pk s) n) a d ts)) := by
  have hok := Rdg.okT1_arg1 (pk := pk s) (N := s.size) (fun a h => pk_lt h) (rec := Rdg.rdT (pk s) n) (a := a) (d := d) (ts := ts) (by omega) (fun h40 => Rdg.okT_rdT (fun a h => pk_lt h) _ _ _ _ (by have := pk_lt (s := s) (a := a) (by omega); omega))
  cases hR : Rdg.arg1 (pk s) (Rdg.rdT (pk s) n) a d ts with
  | error Ep =>
    obtain ⟨E, p⟩ := Ep
    have HR := hide hR
    clear hR hok
    go_enter Tryz.func65, Tryz.ntmps65
    go_wp2_with fail
    refine (argument_any _ B BT BC BP s a d ts cs ps n hs ha hd ht hn (term_any B BT BC BP s cs ps hs n) h).mono ?_
    rw [unhide HR]
    rintro e w2 ⟨k2, ⟨z, rfl⟩, h2⟩
    go_wp2_with fail
    go_ret2
    exact ⟨k2, ⟨_, rfl⟩, h2⟩
  | ok q =>
    obtain ⟨a1, ts1, m⟩ := q
    rw [hR] at hok
    obtain ⟨p1, p2, p3, p4, p5⟩ := hok
    have HR := hide hR
    clear hR
    go_enter Tryz.func65, Tryz.ntmps65
    go_wp2_with fail
    refine (argument_any _ B BT BC BP s a d ts cs ps n hs ha hd ht hn (term_any B BT BC BP s cs ps hs n) h).mono ?_
    rw [unhide HR]
    rintro e w2 ⟨k2, rfl, h2⟩
    have c5 := h2.c5
    go_wp2_with fail
    refine (numC_int BC cs c m m _ rfl hbd (by omega) (by omega) h2.mc).mono ?_
    rintro e w3 ⟨rfl, hM, hg⟩
    go_wp2_with fail
    go_ret2
    exact ⟨k2.trans (Kp.grownC hg), rfl, h2.numC hM hg⟩

end

end Go.Proofs.YthcppbmkacbbiaaGreat

namespace Go.Proofs.YthcppbmkacbbiaaGreat
open Go.RowKit Go.Maps Go.WideMaps
open Rdg (Key put RT RT2 RF RP RQ)

theorem Kp.setX {w w' : World} {B BT BC BP X : Nat} (hX : w.heap.size ≤ X) (h : Kp B BT BC BP w w') (i : Nat) (v : Value) : Kp B BT BC BP w (w'.setCell ⟨X, i, none⟩ v) := h.setNew hX i v

section
variable (w : World) (B BT BC BP : Nat) (s : ByteArray) (a d : Nat) (ts : List Key) (cs : List (Int × Nat)) (ps : List Key) (n : Nat)

set_option maxHeartbeats 400000 in
theorem equality_any (hs : s.size ≤ 100) (ha : a ≤ s.size) (hd : d ≤ 8) (ht : ts.length ≤ a) (hn : s.size < a + n) (h : CI w B BT BC BP s a d ts cs ps) :
    Calls Tryz.prog 66 #[.pointer (some ⟨B, 0, none⟩)] w (PostQ w B BT BC BP s d (Rdg.rdE (pk s) n a d ts cs ps)) := by
  have hT := term_any B BT BC BP s cs ps hs n
  have hok := Rdg.okT_rdT (pk := pk s) (N := s.size) (fun a h => pk_lt h) n a d ts ha
  have hX0 := PX.new h 61 0 0
  have hI0 := h.alloc (.cells #[.int .u8 61, .int .i64 0, .int .i64 0] 93)
  have kp0 : Kp B BT BC BP w _ := Kp.alloc B BT BC BP w (.cells #[.int .u8 61, .int .i64 0, .int .i64 0] 93)
  cases hR : Rdg.rdT (pk s) n a d ts with
  | error Ep =>
    obtain ⟨E, p⟩ := Ep
    have hr : Rdg.rdE (pk s) n a d ts cs ps = .error (E, p) := by unfold Rdg.rdE; rw [hR]
    rw [hr]
    have HR := hide hR
    clear hr hR hok
    go_enter Tryz.func66, Tryz.ntmps66
    go_wp2_with fail
    refine (hT _ a d ts ha hd ht hn hI0).mono ?_
    rw [unhide HR]
    rintro e w2 ⟨k2, ⟨z, rfl⟩, h2⟩
    have hX := hX0.kp k2
    have x0 := hX.p0
    have x1 := hX.p1
    have x2 := hX.p2
    have y0 := hX.f0
    have y1 := hX.f1
    have y2 := hX.f2
    go_wp2_with fail
    refine bodyPost_ret (v := .tuple #[.agg #[.int .u8 61, .int .i64 z, .int .i64 0], .bool false]) (by simp [results, Tryz.results66, go_sem, x0, x1, x2]) rfl ⟨?_, ⟨_, _, _, rfl⟩, ?_⟩
    · repeat refine Kp.setX (Nat.le_refl _) ?_ _ _
      exact kp0.trans k2
    · repeat refine Bad.setNew ?_ hX.nB _ _
      exact h2
  | ok q =>
    obtain ⟨a1, ts1, m⟩ := q
    rw [hR] at hok
    obtain ⟨p1, p2, p3, p4, p5⟩ := hok
    by_cases h61 : pk s a1 = 61
    · have hlt1 : a1 < s.size := pk_lt (by omega)
      cases hR2 : Rdg.rdT (pk s) n (a1 + 1) d ts1 with
      | error Ep =>
        obtain ⟨E, p⟩ := Ep
        have hr : Rdg.rdE (pk s) n a d ts cs ps = .error (E, p) := by unfold Rdg.rdE; rw [hR]; simp only [h61, if_true, hR2]
        rw [hr]
        have HR := hide hR
        have HR2 := hide hR2
        clear hr hR hR2
        go_enter Tryz.func66, Tryz.ntmps66
        go_wp2_with fail
        refine (hT _ a d ts ha hd ht hn hI0).mono ?_
        rw [unhide HR]
        rintro e w2 ⟨k2, rfl, h2⟩
        have hX := hX0.kp k2
        have x0 := hX.p0
        have x1 := hX.p1
        have x2 := hX.p2
        have y0 := hX.f0
        have y1 := hX.f1
        have y2 := hX.f2
        go_wp2_with fail
        refine (take_yes _ B BT BC BP s a1 d ts1 cs ps 61 hs hlt1 h61 (h2.px hX 1 (.int .i64 m))).mono ?_
        rintro e w3 ⟨rfl, h3, k3⟩
        have hX3 := (hX.set1 m).kp k3
        clear x0 x1 x2 y0 y1 y2
        go_wp2_with fail
        refine (hT w3 (a1 + 1) d ts1 (by omega) hd (by omega) (by omega) h3).mono ?_
        rw [unhide HR2]
        rintro e w4 ⟨k4, ⟨z, rfl⟩, h4⟩
        have hX4 := hX3.kp k4
        have x0 := hX4.p0
        have x1 := hX4.p1
        have x2 := hX4.p2
        have y0 := hX4.f0
        have y1 := hX4.f1
        have y2 := hX4.f2
        go_wp2_with fail
        refine bodyPost_ret (v := .tuple #[.agg #[.int .u8 61, .int .i64 m, .int .i64 z], .bool false]) (by simp [results, Tryz.results66, go_sem, x0, x1, x2]) rfl ⟨?_, ⟨_, _, _, rfl⟩, ?_⟩
        · repeat refine Kp.setX (Nat.le_refl _) ?_ _ _
          exact ((Kp.setX (Nat.le_refl _) (kp0.trans k2) 1 (.int .i64 m)).trans k3).trans k4
        · repeat refine Bad.setNew ?_ hX4.nB _ _
          exact h4
      | ok q =>
        obtain ⟨a2, ts2, m2⟩ := q
        have hr : Rdg.rdE (pk s) n a d ts cs ps = .ok (a2, ts2, cs, ps, (61, m, m2)) := by unfold Rdg.rdE; rw [hR]; simp only [h61, if_true, hR2]
        rw [hr]
        have HR := hide hR
        have HR2 := hide hR2
        clear hr hR hR2
        go_enter Tryz.func66, Tryz.ntmps66
        go_wp2_with fail
        refine (hT _ a d ts ha hd ht hn hI0).mono ?_
        rw [unhide HR]
        rintro e w2 ⟨k2, rfl, h2⟩
        have hX := hX0.kp k2
        have x0 := hX.p0
        have x1 := hX.p1
        have x2 := hX.p2
        have y0 := hX.f0
        have y1 := hX.f1
        have y2 := hX.f2
        go_wp2_with fail
        refine (take_yes _ B BT BC BP s a1 d ts1 cs ps 61 hs hlt1 h61 (h2.px hX 1 (.int .i64 m))).mono ?_
        rintro e w3 ⟨rfl, h3, k3⟩
        have hX3 := (hX.set1 m).kp k3
        clear x0 x1 x2 y0 y1 y2
        go_wp2_with fail
        refine (hT w3 (a1 + 1) d ts1 (by omega) hd (by omega) (by omega) h3).mono ?_
        rw [unhide HR2]
        rintro e w4 ⟨k4, rfl, h4⟩
        have hX4 := hX3.kp k4
        have x0 := hX4.p0
        have x1 := hX4.p1
        have x2 := hX4.p2
        have y0 := hX4.f0
        have y1 := hX4.f1
        have y2 := hX4.f2
        go_wp2_with fail
        refine bodyPost_ret (v := .tuple #[.agg #[.int .u8 61, .int .i64 m, .int .i64 m2], .bool true]) (by simp [results, Tryz.results66, go_sem, x0, x1, x2]) rfl ⟨?_, rfl, ?_⟩
        · repeat refine Kp.setX (Nat.le_refl _) ?_ _ _
          exact ((Kp.setX (Nat.le_refl _) (kp0.trans k2) 1 (.int .i64 m)).trans k3).trans k4
        · repeat refine CI.setNew ?_ hX4.nB hX4.nT hX4.nC hX4.nP _ _
          exact h4
    · have hr : Rdg.rdE (pk s) n a d ts cs ps = .error (2, a1) := by unfold Rdg.rdE; rw [hR]; simp only [h61, if_false]
      rw [hr]
      have HR := hide hR
      clear hr hR
      go_enter Tryz.func66, Tryz.ntmps66
      go_wp2_with fail
      refine (hT _ a d ts ha hd ht hn hI0).mono ?_
      rw [unhide HR]
      rintro e w2 ⟨k2, rfl, h2⟩
      have hX := hX0.kp k2
      have x0 := hX.p0
      have x1 := hX.p1
      have x2 := hX.p2
      have y0 := hX.f0
      have y1 := hX.f1
      have y2 := hX.f2
      go_wp2_with fail
      refine (take_no _ B BT BC BP s a1 d ts1 cs ps 61 hs p2 h61 (h2.px hX 1 (.int .i64 m))).mono ?_
      rintro e w3 ⟨rfl, h3, k3⟩
      have hX3 := (hX.set1 m).kp k3
      clear x0 x1 x2 y0 y1 y2
      have x0 := hX3.p0
      have x1 := hX3.p1
      have x2 := hX3.p2
      have y0 := hX3.f0
      have y1 := hX3.f1
      have y2 := hX3.f2
      go_wp2_with fail
      refine bodyPost_ret (v := .tuple #[.agg #[.int .u8 61, .int .i64 m, .int .i64 0], .bool false]) (by simp [results, Tryz.results66, go_sem, x0, x1, x2]) rfl ⟨?_, ⟨_, _, _, rfl⟩, ?_⟩
      · repeat refine Kp.setX (Nat.le_refl _) ?_ _ _
        exact (Kp.setX (Nat.le_refl _) (kp0.trans k2) 1 (.int .i64 m)).trans k3
      · repeat refine Bad.setNew ?_ hX3.nB _ _
        exact h3
end

end Go.Proofs.YthcppbmkacbbiaaGreat
