import Derived.Test.YthfjhjghohincaaCand
namespace Go.Proofs.Ythfjhjghohincaa
open Go.RowKit Go.Maps Go.WideMaps
open Rdg (Key put RT RT2 RF)

/-- What a reading of a term leaves. -/
def PostT (w : World) (B BT BC : Nat) (s : ByteArray) (d : Nat) (cs : List (Int × Nat)) (r : RT) (e : Ending) (w' : World) : Prop :=
  Kp B BT BC w w' ∧ match r with
  | .ok (a1, ts1, m) => e = .returned (.tuple #[.int .i64 m, .bool true]) ∧ CI w' B BT BC s a1 d ts1 cs
  | .error (E, p) => (∃ z : Int, e = .returned (.tuple #[.int .i64 z, .bool false])) ∧ Bad w' B p E

def PostT2 (w : World) (B BT BC : Nat) (s : ByteArray) (d : Nat) (cs : List (Int × Nat)) (r : RT2) (e : Ending) (w' : World) : Prop :=
  Kp B BT BC w w' ∧ match r with
  | .ok (a1, ts1, m, m2) => e = .returned (.tuple #[.int .i64 m, .int .i64 m2, .bool true]) ∧ CI w' B BT BC s a1 d ts1 cs
  | .error (E, p) => (∃ z z2 : Int, e = .returned (.tuple #[.int .i64 z, .int .i64 z2, .bool false])) ∧ Bad w' B p E

/-- The contract of term at one fuel. -/
def SaidT (B BT BC : Nat) (s : ByteArray) (cs : List (Int × Nat)) (n : Nat) : Prop :=
  ∀ (w : World) (a d : Nat) (ts : List Key), a ≤ s.size → d ≤ 8 → ts.length ≤ a → s.size < a + n → CI w B BT BC s a d ts cs →
    Calls Try.prog 56 #[.pointer (some ⟨B, 0, none⟩)] w (PostT w B BT BC s d cs (Rdg.rdT (pk s) n a d ts))

section
variable (w : World) (B BT BC : Nat) (s : ByteArray) (a d : Nat) (ts : List Key) (cs : List (Int × Nat)) (n : Nat)

set_option maxHeartbeats 400000 in
theorem argument_any (hs : s.size ≤ 100) (ha : a ≤ s.size) (hd : d ≤ 8) (ht : ts.length ≤ a) (hn : s.size < a + 1 + n) (hT : SaidT B BT BC s cs n) (h : CI w B BT BC s a d ts cs) :
    Calls Try.prog 54 #[.pointer (some ⟨B, 0, none⟩)] w (PostT w B BT BC s d cs (Rdg.arg1 (pk s) (Rdg.rdT (pk s) n) a d ts)) := by
  by_cases h40 : pk s a = 40
  · have hlt : a < s.size := pk_lt (by omega)
    by_cases h8 : d = 8
    · have hr : Rdg.arg1 (pk s) (Rdg.rdT (pk s) n) a d ts = .error (3, a) := by unfold Rdg.arg1; rw [if_pos h40, if_pos h8]
      rw [hr]
      go_enter Try.func54, Try.ntmps54
      go_wp2_with fail
      refine (open_deep w B BT BC s a d ts cs hs ha h8 h40 h).mono ?_
      rintro e w1 ⟨rfl, h1, k1⟩
      go_wp2_with fail
      go_ret2
      exact ⟨k1, ⟨_, rfl⟩, h1⟩
    · have hok := Rdg.okT_rdT (pk := pk s) (N := s.size) (fun a h => pk_lt h) n (a + 1) (d + 1) ts (by omega)
      cases hR : Rdg.rdT (pk s) n (a + 1) (d + 1) ts with
      | error Ep =>
        obtain ⟨E, p⟩ := Ep
        have hr : Rdg.arg1 (pk s) (Rdg.rdT (pk s) n) a d ts = .error (E, p) := by unfold Rdg.arg1; rw [if_pos h40, if_neg h8, hR]
        rw [hr]
        have HR := hide hR
        clear hr hR hok
        go_enter Try.func54, Try.ntmps54
        go_wp2_with fail
        refine (open_yes w B BT BC s a d ts cs hs hlt (by omega) h40 h).mono ?_
        rintro e w1 ⟨rfl, h1, k1⟩
        go_wp2_with fail
        refine (hT w1 (a + 1) (d + 1) ts (by omega) (by omega) (by omega) (by omega) h1).mono ?_
        rw [unhide HR]
        rintro e w2 ⟨k2, ⟨z, rfl⟩, h2⟩
        go_wp2_with fail
        go_ret2
        exact ⟨k1.trans k2, ⟨_, rfl⟩, h2⟩
      | ok q =>
        obtain ⟨a1, ts1, m⟩ := q
        rw [hR] at hok
        obtain ⟨p1, p2, p3, p4, p5⟩ := hok
        by_cases h41 : pk s a1 = 41
        · have hlt1 : a1 < s.size := pk_lt (by omega)
          have hr : Rdg.arg1 (pk s) (Rdg.rdT (pk s) n) a d ts = .ok (a1 + 1, ts1, m) := by unfold Rdg.arg1; rw [if_pos h40, if_neg h8, hR]; simp only [h41, if_true]
          rw [hr]
          have HR := hide hR
          clear hr hR
          go_enter Try.func54, Try.ntmps54
          go_wp2_with fail
          refine (open_yes w B BT BC s a d ts cs hs hlt (by omega) h40 h).mono ?_
          rintro e w1 ⟨rfl, h1, k1⟩
          go_wp2_with fail
          refine (hT w1 (a + 1) (d + 1) ts (by omega) (by omega) (by omega) (by omega) h1).mono ?_
          rw [unhide HR]
          rintro e w2 ⟨k2, rfl, h2⟩
          go_wp2_with fail
          refine (shut_yes w2 B BT BC s a1 d ts1 cs hs hlt1 hd h41 h2).mono ?_
          rintro e w3 ⟨rfl, h3, k3⟩
          go_wp2_with fail
          go_ret2
          exact ⟨(k1.trans k2).trans k3, rfl, h3⟩
        · have hr : Rdg.arg1 (pk s) (Rdg.rdT (pk s) n) a d ts = .error (2, a1) := by unfold Rdg.arg1; rw [if_pos h40, if_neg h8, hR]; simp only [h41, if_false]
          rw [hr]
          have HR := hide hR
          clear hr hR
          go_enter Try.func54, Try.ntmps54
          go_wp2_with fail
          refine (open_yes w B BT BC s a d ts cs hs hlt (by omega) h40 h).mono ?_
          rintro e w1 ⟨rfl, h1, k1⟩
          go_wp2_with fail
          refine (hT w1 (a + 1) (d + 1) ts (by omega) (by omega) (by omega) (by omega) h1).mono ?_
          rw [unhide HR]
          rintro e w2 ⟨k2, rfl, h2⟩
          go_wp2_with fail
          refine (shut_no w2 B BT BC s a1 d ts1 cs hs p2 hd h41 h2).mono ?_
          rintro e w3 ⟨rfl, h3, k3⟩
          go_wp2_with fail
          go_ret2
          exact ⟨(k1.trans k2).trans k3, ⟨_, rfl⟩, h3⟩
  · have hr : Rdg.arg1 (pk s) (Rdg.rdT (pk s) n) a d ts = .error (2, a) := by unfold Rdg.arg1; rw [if_neg h40]
    rw [hr]
    go_enter Try.func54, Try.ntmps54
    go_wp2_with fail
    refine (open_form w B BT BC s a d ts cs hs ha hd h40 h).mono ?_
    rintro e w1 ⟨rfl, h1, k1⟩
    go_wp2_with fail
    go_ret2
    exact ⟨k1, ⟨_, rfl⟩, h1⟩

set_option maxHeartbeats 400000 in
theorem arguments_any (hs : s.size ≤ 100) (ha : a ≤ s.size) (hd : d ≤ 8) (ht : ts.length ≤ a) (hn : s.size < a + 1 + n) (hT : SaidT B BT BC s cs n) (h : CI w B BT BC s a d ts cs) :
    Calls Try.prog 60 #[.pointer (some ⟨B, 0, none⟩)] w (PostT2 w B BT BC s d cs (Rdg.arg2 (pk s) (Rdg.rdT (pk s) n) a d ts)) := by
  by_cases h40 : pk s a = 40
  · have hlt : a < s.size := pk_lt (by omega)
    by_cases h8 : d = 8
    · have hr : Rdg.arg2 (pk s) (Rdg.rdT (pk s) n) a d ts = .error (3, a) := by unfold Rdg.arg2; rw [if_pos h40, if_pos h8]
      rw [hr]
      go_enter Try.func60, Try.ntmps60
      go_wp2_with fail
      refine (open_deep w B BT BC s a d ts cs hs ha h8 h40 h).mono ?_
      rintro e w1 ⟨rfl, h1, k1⟩
      go_wp2_with fail
      go_ret3
      exact ⟨k1, ⟨_, _, rfl⟩, h1⟩
    · have hok := Rdg.okT_rdT (pk := pk s) (N := s.size) (fun a h => pk_lt h) n (a + 1) (d + 1) ts (by omega)
      cases hR : Rdg.rdT (pk s) n (a + 1) (d + 1) ts with
      | error Ep =>
        obtain ⟨E, p⟩ := Ep
        have hr : Rdg.arg2 (pk s) (Rdg.rdT (pk s) n) a d ts = .error (E, p) := by unfold Rdg.arg2; rw [if_pos h40, if_neg h8, hR]
        rw [hr]
        have HR := hide hR
        clear hr hR hok
        go_enter Try.func60, Try.ntmps60
        go_wp2_with fail
        refine (open_yes w B BT BC s a d ts cs hs hlt (by omega) h40 h).mono ?_
        rintro e w1 ⟨rfl, h1, k1⟩
        go_wp2_with fail
        refine (hT w1 (a + 1) (d + 1) ts (by omega) (by omega) (by omega) (by omega) h1).mono ?_
        rw [unhide HR]
        rintro e w2 ⟨k2, ⟨z, rfl⟩, h2⟩
        go_wp2_with fail
        go_ret3
        exact ⟨k1.trans k2, ⟨_, _, rfl⟩, h2⟩
      | ok q =>
        obtain ⟨a1, ts1, m⟩ := q
        rw [hR] at hok
        obtain ⟨p1, p2, p3, p4, p5⟩ := hok
        by_cases h44 : pk s a1 = 44
        · have hlt1 : a1 < s.size := pk_lt (by omega)
          have hok2 := Rdg.okT_rdT (pk := pk s) (N := s.size) (fun a h => pk_lt h) n (a1 + 1) (d + 1) ts1 (by omega)
          cases hR2 : Rdg.rdT (pk s) n (a1 + 1) (d + 1) ts1 with
          | error Ep =>
            obtain ⟨E, p⟩ := Ep
            have hr : Rdg.arg2 (pk s) (Rdg.rdT (pk s) n) a d ts = .error (E, p) := by unfold Rdg.arg2; rw [if_pos h40, if_neg h8, hR]; simp only [h44, if_true, hR2]
            rw [hr]
            have HR := hide hR
            have HR2 := hide hR2
            clear hr hR hR2 hok2
            go_enter Try.func60, Try.ntmps60
            go_wp2_with fail
            refine (open_yes w B BT BC s a d ts cs hs hlt (by omega) h40 h).mono ?_
            rintro e w1 ⟨rfl, h1, k1⟩
            go_wp2_with fail
            refine (hT w1 (a + 1) (d + 1) ts (by omega) (by omega) (by omega) (by omega) h1).mono ?_
            rw [unhide HR]
            rintro e w2 ⟨k2, rfl, h2⟩
            go_wp2_with fail
            refine (take_yes w2 B BT BC s a1 (d + 1) ts1 cs 44 hs hlt1 h44 h2).mono ?_
            rintro e w3 ⟨rfl, h3, k3⟩
            go_wp2_with fail
            refine (hT w3 (a1 + 1) (d + 1) ts1 (by omega) (by omega) (by omega) (by omega) h3).mono ?_
            rw [unhide HR2]
            rintro e w4 ⟨k4, ⟨z, rfl⟩, h4⟩
            go_wp2_with fail
            go_ret3
            exact ⟨((k1.trans k2).trans k3).trans k4, ⟨_, _, rfl⟩, h4⟩
          | ok q =>
            obtain ⟨a2, ts2, m2⟩ := q
            rw [hR2] at hok2
            obtain ⟨q1, q2, q3, q4, q5⟩ := hok2
            by_cases h41 : pk s a2 = 41
            · have hlt2 : a2 < s.size := pk_lt (by omega)
              have hr : Rdg.arg2 (pk s) (Rdg.rdT (pk s) n) a d ts = .ok (a2 + 1, ts2, m, m2) := by unfold Rdg.arg2; rw [if_pos h40, if_neg h8, hR]; simp only [h44, if_true, hR2, h41]
              rw [hr]
              have HR := hide hR
              have HR2 := hide hR2
              clear hr hR hR2
              go_enter Try.func60, Try.ntmps60
              go_wp2_with fail
              refine (open_yes w B BT BC s a d ts cs hs hlt (by omega) h40 h).mono ?_
              rintro e w1 ⟨rfl, h1, k1⟩
              go_wp2_with fail
              refine (hT w1 (a + 1) (d + 1) ts (by omega) (by omega) (by omega) (by omega) h1).mono ?_
              rw [unhide HR]
              rintro e w2 ⟨k2, rfl, h2⟩
              go_wp2_with fail
              refine (take_yes w2 B BT BC s a1 (d + 1) ts1 cs 44 hs hlt1 h44 h2).mono ?_
              rintro e w3 ⟨rfl, h3, k3⟩
              go_wp2_with fail
              refine (hT w3 (a1 + 1) (d + 1) ts1 (by omega) (by omega) (by omega) (by omega) h3).mono ?_
              rw [unhide HR2]
              rintro e w4 ⟨k4, rfl, h4⟩
              go_wp2_with fail
              refine (shut_yes w4 B BT BC s a2 d ts2 cs hs hlt2 hd h41 h4).mono ?_
              rintro e w5 ⟨rfl, h5, k5⟩
              go_wp2_with fail
              go_ret3
              exact ⟨(((k1.trans k2).trans k3).trans k4).trans k5, rfl, h5⟩
            · have hr : Rdg.arg2 (pk s) (Rdg.rdT (pk s) n) a d ts = .error (2, a2) := by unfold Rdg.arg2; rw [if_pos h40, if_neg h8, hR]; simp only [h44, if_true, hR2, h41, if_false]
              rw [hr]
              have HR := hide hR
              have HR2 := hide hR2
              clear hr hR hR2
              go_enter Try.func60, Try.ntmps60
              go_wp2_with fail
              refine (open_yes w B BT BC s a d ts cs hs hlt (by omega) h40 h).mono ?_
              rintro e w1 ⟨rfl, h1, k1⟩
              go_wp2_with fail
              refine (hT w1 (a + 1) (d + 1) ts (by omega) (by omega) (by omega) (by omega) h1).mono ?_
              rw [unhide HR]
              rintro e w2 ⟨k2, rfl, h2⟩
              go_wp2_with fail
              refine (take_yes w2 B BT BC s a1 (d + 1) ts1 cs 44 hs hlt1 h44 h2).mono ?_
              rintro e w3 ⟨rfl, h3, k3⟩
              go_wp2_with fail
              refine (hT w3 (a1 + 1) (d + 1) ts1 (by omega) (by omega) (by omega) (by omega) h3).mono ?_
              rw [unhide HR2]
              rintro e w4 ⟨k4, rfl, h4⟩
              go_wp2_with fail
              refine (shut_no w4 B BT BC s a2 d ts2 cs hs q2 hd h41 h4).mono ?_
              rintro e w5 ⟨rfl, h5, k5⟩
              go_wp2_with fail
              go_ret3
              exact ⟨(((k1.trans k2).trans k3).trans k4).trans k5, ⟨_, _, rfl⟩, h5⟩
        · have hr : Rdg.arg2 (pk s) (Rdg.rdT (pk s) n) a d ts = .error (2, a1) := by unfold Rdg.arg2; rw [if_pos h40, if_neg h8, hR]; simp only [h44, if_false]
          rw [hr]
          have HR := hide hR
          clear hr hR
          go_enter Try.func60, Try.ntmps60
          go_wp2_with fail
          refine (open_yes w B BT BC s a d ts cs hs hlt (by omega) h40 h).mono ?_
          rintro e w1 ⟨rfl, h1, k1⟩
          go_wp2_with fail
          refine (hT w1 (a + 1) (d + 1) ts (by omega) (by omega) (by omega) (by omega) h1).mono ?_
          rw [unhide HR]
          rintro e w2 ⟨k2, rfl, h2⟩
          go_wp2_with fail
          refine (take_no w2 B BT BC s a1 (d + 1) ts1 cs 44 hs p2 h44 h2).mono ?_
          rintro e w3 ⟨rfl, h3, k3⟩
          go_wp2_with fail
          go_ret3
          exact ⟨(k1.trans k2).trans k3, ⟨_, _, rfl⟩, h3⟩
  · have hr : Rdg.arg2 (pk s) (Rdg.rdT (pk s) n) a d ts = .error (2, a) := by unfold Rdg.arg2; rw [if_neg h40]
    rw [hr]
    go_enter Try.func60, Try.ntmps60
    go_wp2_with fail
    refine (open_form w B BT BC s a d ts cs hs ha hd h40 h).mono ?_
    rintro e w1 ⟨rfl, h1, k1⟩
    go_wp2_with fail
    go_ret3
    exact ⟨k1, ⟨_, _, rfl⟩, h1⟩
end

end Go.Proofs.Ythfjhjghohincaa
