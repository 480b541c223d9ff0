import Derived.Test.YthcppbmkacbbiaaGreatCand
import Derived.Deep.RegionWith
namespace Go.Proofs.YthcppbmkacbbiaaGreat
open Go.RowKit Go.Maps Go.WideMaps
open Rdg (Key put RT RT2 RF)

/-- What a reading of a term leaves. -/
def PostT (w : World) (B BT BC BP : Nat) (s : ByteArray) (d : Nat) (cs : List (Int × Nat)) (ps : List Key) (r : RT) (e : Ending) (w' : World) : Prop :=
  Kp B BT BC BP w w' ∧ match r with
  | .ok (a1, ts1, m) => e = .returned (.tuple #[.int .i64 m, .bool true]) ∧ CI w' B BT BC BP s a1 d ts1 cs ps
  | .error (E, p) => (∃ z : Int, e = .returned (.tuple #[.int .i64 z, .bool false])) ∧ Bad w' B p E

def PostT2 (w : World) (B BT BC BP : Nat) (s : ByteArray) (d : Nat) (cs : List (Int × Nat)) (ps : List Key) (r : RT2) (e : Ending) (w' : World) : Prop :=
  Kp B BT BC BP w w' ∧ match r with
  | .ok (a1, ts1, m, m2) => e = .returned (.tuple #[.int .i64 m, .int .i64 m2, .bool true]) ∧ CI w' B BT BC BP s a1 d ts1 cs ps
  | .error (E, p) => (∃ z z2 : Int, e = .returned (.tuple #[.int .i64 z, .int .i64 z2, .bool false])) ∧ Bad w' B p E

/-- The contract of term at one fuel. -/
def SaidT (B BT BC BP : Nat) (s : ByteArray) (cs : List (Int × Nat)) (ps : List Key) (n : Nat) : Prop :=
  ∀ (w : World) (a d : Nat) (ts : List Key), a ≤ s.size → d ≤ 8 → ts.length ≤ a → s.size < a + n → CI w B BT BC BP s a d ts cs ps →
    Calls Tryz.prog 109 #[.pointer (some ⟨B, 0, none⟩)] w (PostT w B BT BC BP s d cs ps (Rdg.rdT (pk s) n a d ts))

section
variable (w : World) (B BT BC BP : Nat) (s : ByteArray) (a d : Nat) (ts : List Key) (cs : List (Int × Nat)) (ps : List Key) (n : Nat)

set_option maxHeartbeats 400000 in
theorem argument_any (hs : s.size ≤ 100) (ha : a ≤ s.size) (hd : d ≤ 8) (ht : ts.length ≤ a) (hn : s.size < a + 1 + n) (hT : SaidT B BT BC BP s cs ps n) (h : CI w B BT BC BP s a d ts cs ps) :
    Calls Tryz.prog 107 #[.pointer (some ⟨B, 0, none⟩)] w (PostT w B BT BC BP s d cs ps (Rdg.arg1 (pk s) (Rdg.rdT (pk s) n) a d ts)) := by
  by_cases h40 : pk s a = 40
  · have hlt : a < s.size := pk_lt (by omega)
    by_cases h8 : d = 8
    · have hr : Rdg.arg1 (pk s) (Rdg.rdT (pk s) n) a d ts = .error (3, a) := by unfold Rdg.arg1; rw [if_pos h40, if_pos h8]
      rw [hr]
      go_enter Tryz.func107, Tryz.ntmps107
      go_wp2_with fail
      refine (open_deep w B BT BC BP s a d ts cs ps hs ha h8 h40 h).mono ?_
      rintro e w1 ⟨rfl, h1, k1⟩
      go_wp2_with fail
      go_ret2
      exact ⟨k1, ⟨_, rfl⟩, h1⟩
    · have hok := Rdg.okT_rdT (pk := pk s) (N := s.size) (fun a h => pk_lt h) n (a + 1) (d + 1) ts (by omega)
      cases hR : Rdg.rdT (pk s) n (a + 1) (d + 1) ts with
      | error Ep =>
        obtain ⟨E, p⟩ := Ep
        have hr : Rdg.arg1 (pk s) (Rdg.rdT (pk s) n) a d ts = .error (E, p) := by unfold Rdg.arg1; rw [if_pos h40, if_neg h8, hR]
        rw [hr]
        have HR := hide hR
        clear hr hR hok
        go_enter Tryz.func107, Tryz.ntmps107
        go_wp2_with fail
        refine (open_yes w B BT BC BP s a d ts cs ps hs hlt (by omega) h40 h).mono ?_
        rintro e w1 ⟨rfl, h1, k1⟩
        go_wp2_with fail
        refine (hT w1 (a + 1) (d + 1) ts (by omega) (by omega) (by omega) (by omega) h1).mono ?_
        rw [unhide HR]
        rintro e w2 ⟨k2, ⟨z, rfl⟩, h2⟩
        go_wp2_with fail
        go_ret2
        exact ⟨k1.trans k2, ⟨_, rfl⟩, h2⟩
      | ok q =>
        obtain ⟨a1, ts1, m⟩ := q
        rw [hR] at hok
        obtain ⟨p1, p2, p3, p4, p5⟩ := hok
        by_cases h41 : pk s a1 = 41
        · have hlt1 : a1 < s.size := pk_lt (by omega)
          have hr : Rdg.arg1 (pk s) (Rdg.rdT (pk s) n) a d ts = .ok (a1 + 1, ts1, m) := by unfold Rdg.arg1; rw [if_pos h40, if_neg h8, hR]; simp only [h41, if_true]
          rw [hr]
          have HR := hide hR
          clear hr hR
          go_enter Tryz.func107, Tryz.ntmps107
          go_wp2_with fail
          refine (open_yes w B BT BC BP s a d ts cs ps hs hlt (by omega) h40 h).mono ?_
          rintro e w1 ⟨rfl, h1, k1⟩
          go_wp2_with fail
          refine (hT w1 (a + 1) (d + 1) ts (by omega) (by omega) (by omega) (by omega) h1).mono ?_
          rw [unhide HR]
          rintro e w2 ⟨k2, rfl, h2⟩
          go_wp2_with fail
          refine (shut_yes w2 B BT BC BP s a1 d ts1 cs ps hs hlt1 hd h41 h2).mono ?_
          rintro e w3 ⟨rfl, h3, k3⟩
          go_wp2_with fail
          go_ret2
          exact ⟨(k1.trans k2).trans k3, rfl, h3⟩
        · have hr : Rdg.arg1 (pk s) (Rdg.rdT (pk s) n) a d ts = .error (2, a1) := by unfold Rdg.arg1; rw [if_pos h40, if_neg h8, hR]; simp only [h41, if_false]
          rw [hr]
          have HR := hide hR
          clear hr hR
          go_enter Tryz.func107, Tryz.ntmps107
          go_wp2_with fail
          refine (open_yes w B BT BC BP s a d ts cs ps hs hlt (by omega) h40 h).mono ?_
          rintro e w1 ⟨rfl, h1, k1⟩
          go_wp2_with fail
          refine (hT w1 (a + 1) (d + 1) ts (by omega) (by omega) (by omega) (by omega) h1).mono ?_
          rw [unhide HR]
          rintro e w2 ⟨k2, rfl, h2⟩
          go_wp2_with fail
          refine (shut_no w2 B BT BC BP s a1 d ts1 cs ps hs p2 hd h41 h2).mono ?_
          rintro e w3 ⟨rfl, h3, k3⟩
          go_wp2_with fail
          go_ret2
          exact ⟨(k1.trans k2).trans k3, ⟨_, rfl⟩, h3⟩
  · have hr : Rdg.arg1 (pk s) (Rdg.rdT (pk s) n) a d ts = .error (2, a) := by unfold Rdg.arg1; rw [if_neg h40]
    rw [hr]
    go_enter Tryz.func107, Tryz.ntmps107
    go_wp2_with fail
    refine (open_form w B BT BC BP s a d ts cs ps hs ha hd h40 h).mono ?_
    rintro e w1 ⟨rfl, h1, k1⟩
    go_wp2_with fail
    go_ret2
    exact ⟨k1, ⟨_, rfl⟩, h1⟩

set_option maxHeartbeats 400000 in
theorem arguments_any (hs : s.size ≤ 100) (ha : a ≤ s.size) (hd : d ≤ 8) (ht : ts.length ≤ a) (hn : s.size < a + 1 + n) (hT : SaidT B BT BC BP s cs ps n) (h : CI w B BT BC BP s a d ts cs ps) :
    Calls Tryz.prog 158 #[.pointer (some ⟨B, 0, none⟩)] w (PostT2 w B BT BC BP s d cs ps (Rdg.arg2 (pk s) (Rdg.rdT (pk s) n) a d ts)) := by
  by_cases h40 : pk s a = 40
  · have hlt : a < s.size := pk_lt (by omega)
    by_cases h8 : d = 8
    · have hr : Rdg.arg2 (pk s) (Rdg.rdT (pk s) n) a d ts = .error (3, a) := by unfold Rdg.arg2; rw [if_pos h40, if_pos h8]
      rw [hr]
      go_enter Tryz.func158, Tryz.ntmps158
      go_wp2_with fail
      refine (open_deep w B BT BC BP s a d ts cs ps hs ha h8 h40 h).mono ?_
      rintro e w1 ⟨rfl, h1, k1⟩
      go_wp2_with fail
      go_ret3
      exact ⟨k1, ⟨_, _, rfl⟩, h1⟩
    · have hok := Rdg.okT_rdT (pk := pk s) (N := s.size) (fun a h => pk_lt h) n (a + 1) (d + 1) ts (by omega)
      cases hR : Rdg.rdT (pk s) n (a + 1) (d + 1) ts with
      | error Ep =>
        obtain ⟨E, p⟩ := Ep
        have hr : Rdg.arg2 (pk s) (Rdg.rdT (pk s) n) a d ts = .error (E, p) := by unfold Rdg.arg2; rw [if_pos h40, if_neg h8, hR]
        rw [hr]
        have HR := hide hR
        clear hr hR hok
        go_enter Tryz.func158, Tryz.ntmps158
        go_wp2_with fail
        refine (open_yes w B BT BC BP s a d ts cs ps hs hlt (by omega) h40 h).mono ?_
        rintro e w1 ⟨rfl, h1, k1⟩
        go_wp2_with fail
        refine (hT w1 (a + 1) (d + 1) ts (by omega) (by omega) (by omega) (by omega) h1).mono ?_
        rw [unhide HR]
        rintro e w2 ⟨k2, ⟨z, rfl⟩, h2⟩
        go_wp2_with fail
        go_ret3
        exact ⟨k1.trans k2, ⟨_, _, rfl⟩, h2⟩
      | ok q =>
        obtain ⟨a1, ts1, m⟩ := q
        rw [hR] at hok
        obtain ⟨p1, p2, p3, p4, p5⟩ := hok
        by_cases h44 : pk s a1 = 44
        · have hlt1 : a1 < s.size := pk_lt (by omega)
          have hok2 := Rdg.okT_rdT (pk := pk s) (N := s.size) (fun a h => pk_lt h) n (a1 + 1) (d + 1) ts1 (by omega)
          cases hR2 : Rdg.rdT (pk s) n (a1 + 1) (d + 1) ts1 with
          | error Ep =>
            obtain ⟨E, p⟩ := Ep
            have hr : Rdg.arg2 (pk s) (Rdg.rdT (pk s) n) a d ts = .error (E, p) := by unfold Rdg.arg2; rw [if_pos h40, if_neg h8, hR]; simp only [h44, if_true, hR2]
            rw [hr]
            have HR := hide hR
            have HR2 := hide hR2
            clear hr hR hR2 hok2
            go_enter Tryz.func158, Tryz.ntmps158
            go_wp2_with fail
            refine (open_yes w B BT BC BP s a d ts cs ps hs hlt (by omega) h40 h).mono ?_
            rintro e w1 ⟨rfl, h1, k1⟩
            go_wp2_with fail
            refine (hT w1 (a + 1) (d + 1) ts (by omega) (by omega) (by omega) (by omega) h1).mono ?_
            rw [unhide HR]
            rintro e w2 ⟨k2, rfl, h2⟩
            go_wp2_with fail
            refine (take_yes w2 B BT BC BP s a1 (d + 1) ts1 cs ps 44 hs hlt1 h44 h2).mono ?_
            rintro e w3 ⟨rfl, h3, k3⟩
            go_wp2_with fail
            refine (hT w3 (a1 + 1) (d + 1) ts1 (by omega) (by omega) (by omega) (by omega) h3).mono ?_
            rw [unhide HR2]
            rintro e w4 ⟨k4, ⟨z, rfl⟩, h4⟩
            go_wp2_with fail
            go_ret3
            exact ⟨((k1.trans k2).trans k3).trans k4, ⟨_, _, rfl⟩, h4⟩
          | ok q =>
            obtain ⟨a2, ts2, m2⟩ := q
            rw [hR2] at hok2
            obtain ⟨q1, q2, q3, q4, q5⟩ := hok2
            by_cases h41 : pk s a2 = 41
            · have hlt2 : a2 < s.size := pk_lt (by omega)
              have hr : Rdg.arg2 (pk s) (Rdg.rdT (pk s) n) a d ts = .ok (a2 + 1, ts2, m, m2) := by unfold Rdg.arg2; rw [if_pos h40, if_neg h8, hR]; simp only [h44, if_true, hR2, h41]
              rw [hr]
              have HR := hide hR
              have HR2 := hide hR2
              clear hr hR hR2
              go_enter Tryz.func158, Tryz.ntmps158
              go_wp2_with fail
              refine (open_yes w B BT BC BP s a d ts cs ps hs hlt (by omega) h40 h).mono ?_
              rintro e w1 ⟨rfl, h1, k1⟩
              go_wp2_with fail
              refine (hT w1 (a + 1) (d + 1) ts (by omega) (by omega) (by omega) (by omega) h1).mono ?_
              rw [unhide HR]
              rintro e w2 ⟨k2, rfl, h2⟩
              go_wp2_with fail
              refine (take_yes w2 B BT BC BP s a1 (d + 1) ts1 cs ps 44 hs hlt1 h44 h2).mono ?_
              rintro e w3 ⟨rfl, h3, k3⟩
              go_wp2_with fail
              refine (hT w3 (a1 + 1) (d + 1) ts1 (by omega) (by omega) (by omega) (by omega) h3).mono ?_
              rw [unhide HR2]
              rintro e w4 ⟨k4, rfl, h4⟩
              go_wp2_with fail
              refine (shut_yes w4 B BT BC BP s a2 d ts2 cs ps hs hlt2 hd h41 h4).mono ?_
              rintro e w5 ⟨rfl, h5, k5⟩
              go_wp2_with fail
              go_ret3
              exact ⟨(((k1.trans k2).trans k3).trans k4).trans k5, rfl, h5⟩
            · have hr : Rdg.arg2 (pk s) (Rdg.rdT (pk s) n) a d ts = .error (2, a2) := by unfold Rdg.arg2; rw [if_pos h40, if_neg h8, hR]; simp only [h44, if_true, hR2, h41, if_false]
              rw [hr]
              have HR := hide hR
              have HR2 := hide hR2
              clear hr hR hR2
              go_enter Tryz.func158, Tryz.ntmps158
              go_wp2_with fail
              refine (open_yes w B BT BC BP s a d ts cs ps hs hlt (by omega) h40 h).mono ?_
              rintro e w1 ⟨rfl, h1, k1⟩
              go_wp2_with fail
              refine (hT w1 (a + 1) (d + 1) ts (by omega) (by omega) (by omega) (by omega) h1).mono ?_
              rw [unhide HR]
              rintro e w2 ⟨k2, rfl, h2⟩
              go_wp2_with fail
              refine (take_yes w2 B BT BC BP s a1 (d + 1) ts1 cs ps 44 hs hlt1 h44 h2).mono ?_
              rintro e w3 ⟨rfl, h3, k3⟩
              go_wp2_with fail
              refine (hT w3 (a1 + 1) (d + 1) ts1 (by omega) (by omega) (by omega) (by omega) h3).mono ?_
              rw [unhide HR2]
              rintro e w4 ⟨k4, rfl, h4⟩
              go_wp2_with fail
              refine (shut_no w4 B BT BC BP s a2 d ts2 cs ps hs q2 hd h41 h4).mono ?_
              rintro e w5 ⟨rfl, h5, k5⟩
              go_wp2_with fail
              go_ret3
              exact ⟨(((k1.trans k2).trans k3).trans k4).trans k5, ⟨_, _, rfl⟩, h5⟩
        · have hr : Rdg.arg2 (pk s) (Rdg.rdT (pk s) n) a d ts = .error (2, a1) := by unfold Rdg.arg2; rw [if_pos h40, if_neg h8, hR]; simp only [h44, if_false]
          rw [hr]
          have HR := hide hR
          clear hr hR
          go_enter Tryz.func158, Tryz.ntmps158
          go_wp2_with fail
          refine (open_yes w B BT BC BP s a d ts cs ps hs hlt (by omega) h40 h).mono ?_
          rintro e w1 ⟨rfl, h1, k1⟩
          go_wp2_with fail
          refine (hT w1 (a + 1) (d + 1) ts (by omega) (by omega) (by omega) (by omega) h1).mono ?_
          rw [unhide HR]
          rintro e w2 ⟨k2, rfl, h2⟩
          go_wp2_with fail
          refine (take_no w2 B BT BC BP s a1 (d + 1) ts1 cs ps 44 hs p2 h44 h2).mono ?_
          rintro e w3 ⟨rfl, h3, k3⟩
          go_wp2_with fail
          go_ret3
          exact ⟨(k1.trans k2).trans k3, ⟨_, _, rfl⟩, h3⟩
  · have hr : Rdg.arg2 (pk s) (Rdg.rdT (pk s) n) a d ts = .error (2, a) := by unfold Rdg.arg2; rw [if_neg h40]
    rw [hr]
    go_enter Tryz.func158, Tryz.ntmps158
    go_wp2_with fail
    refine (open_form w B BT BC BP s a d ts cs ps hs ha hd h40 h).mono ?_
    rintro e w1 ⟨rfl, h1, k1⟩
    go_wp2_with fail
    go_ret3
    exact ⟨k1, ⟨_, _, rfl⟩, h1⟩
end

end Go.Proofs.YthcppbmkacbbiaaGreat

namespace Go.Proofs.YthcppbmkacbbiaaGreat
open Go.RowKit Go.Maps Go.WideMaps
open Rdg (Key put RT RT2 RF)

theorem numT_int (BT : Nat) (ts : List Key) (c xi yi : Int) (x y : Nat) (w : World) (hx : xi = x) (hy : yi = y) (h1 : 0 ≤ c ∧ c ≤ 255) (h2 : x ≤ 1000) (h3 : y ≤ 1000) (hl : ts.length ≤ 1000) (hM : MapIs w 87 BT kvT ts) :
    Calls Tryz.prog 159 #[.map (some BT), .agg #[.int .u8 c, .int .i64 xi, .int .i64 yi]] w fun e w' =>
      e = .returned (.int .i64 (ts.idxOf (c, x, y))) ∧ MapIs w' 87 BT kvT (put ts (c, x, y)) ∧ w.grownBy w' (some BT) := by
  subst hx
  subst hy
  exact numT_any BT ts c x y w h1 h2 h3 hl hM

theorem CI.setNew {w : World} {B BT BC BP : Nat} {s : ByteArray} {a d : Nat} {ts : List Key} {cs : List (Int × Nat)} {ps : List Key} (h : CI w B BT BC BP s a d ts cs ps) {X : Nat} (h1 : X ≠ B) (h2 : X ≠ BT) (h3 : X ≠ BC) (h4 : X ≠ BP) (i : Nat) (v : Value) :
    CI (w.setCell ⟨X, i, none⟩ v) B BT BC BP s a d ts cs ps := by
  have hb : ∀ j, (w.setCell ⟨X, i, none⟩ v).cell? ⟨B, j, none⟩ = w.cell? ⟨B, j, none⟩ := fun j => World.cell?_of_block (Below.heap_setCell _ _ _ _ (Ne.symm h1))
  have hf : ∀ j, (w.setCell ⟨X, i, none⟩ v).frozen? ⟨B, j, none⟩ = w.frozen? ⟨B, j, none⟩ := fun j => World.frozen?_of_block (Below.heap_setCell _ _ _ _ (Ne.symm h1))
  exact ⟨(hb _).trans h.c0, (hb _).trans h.c1, (hb _).trans h.c2, (hb _).trans h.c3, (hb _).trans h.c4, (hb _).trans h.c5, (hb _).trans h.c6, (hf _).trans h.f1, (hf _).trans h.f2, (hf _).trans h.f3,
    h.mt.kept (Below.heap_setCell _ _ _ _ (Ne.symm h2)), h.mc.kept (Below.heap_setCell _ _ _ _ (Ne.symm h3)), h.mp.kept (Below.heap_setCell _ _ _ _ (Ne.symm h4)), h.nT, h.nC, h.nn, h.nP, h.nTP, h.nCP⟩

theorem Bad.setNew {w : World} {B p : Nat} {E : Int} (h : Bad w B p E) {X : Nat} (h1 : X ≠ B) (i : Nat) (v : Value) : Bad (w.setCell ⟨X, i, none⟩ v) B p E :=
  ⟨(World.cell?_of_block (Below.heap_setCell _ _ _ _ (Ne.symm h1))).trans h.c1, (World.cell?_of_block (Below.heap_setCell _ _ _ _ (Ne.symm h1))).trans h.c3⟩

theorem fresh_cell {w1 w2 : World} {B BT BC BP T : Nat} {v : Value} {xs : Array Value} (k : Kp B BT BC BP ((w1.setCell ⟨B, 1, none⟩ v).alloc (.cells xs T)) w2) (hB : B < w1.heap.size) (hT : BT < w1.heap.size) (hC : BC < w1.heap.size) (hP : BP < w1.heap.size) (i : Nat) :
    w2.cell? ⟨w1.heap.size, i, none⟩ = xs[i]? := by
  have hsz1 : w1.heap.size = (w1.setCell ⟨B, 1, none⟩ v).heap.size := by simp [World.setCell]
  rw [k.cell (by simp [World.setCell]) (by omega) (by omega) (by omega) (by omega)]
  exact World.cell?_alloc_at _ _ _ _ hsz1
theorem fresh_frozen {w1 w2 : World} {B BT BC BP T : Nat} {v : Value} {xs : Array Value} (k : Kp B BT BC BP ((w1.setCell ⟨B, 1, none⟩ v).alloc (.cells xs T)) w2) (hB : B < w1.heap.size) (hT : BT < w1.heap.size) (hC : BC < w1.heap.size) (hP : BP < w1.heap.size) (i : Nat) :
    w2.frozen? ⟨w1.heap.size, i, none⟩ = false := by
  have hsz1 : w1.heap.size = (w1.setCell ⟨B, 1, none⟩ v).heap.size := by simp [World.setCell]
  rw [k.frozen (by simp [World.setCell]) (by omega) (by omega) (by omega) (by omega)]
  exact World.frozen?_alloc_at _ _ _ _ hsz1

end Go.Proofs.YthcppbmkacbbiaaGreat
