import Derived.Test.YthfjhjghohincaaCandTerm
namespace Go.Proofs.Ythfjhjghohincaa
open Go.RowKit Go.Maps Go.WideMaps
open Rdg (Key put RT RT2 RF)

/-- What a reading of a formula leaves. -/
def PostF (w : World) (B BT BC : Nat) (s : ByteArray) (d : Nat) (r : RF) (e : Ending) (w' : World) : Prop :=
  Kp B BT BC w w' ∧ match r with
  | .ok (a1, ts1, cs1) => e = .returned (.bool true) ∧ CI w' B BT BC s a1 d ts1 cs1
  | .error (E, p) => e = .returned (.bool false) ∧ Bad w' B p E

theorem numC_int (BC : Nat) (cs : List (Int × Nat)) (c xi : Int) (x : Nat) (w : World) (hx : xi = x) (h1 : 0 ≤ c ∧ c ≤ 255) (h2 : x ≤ 1000) (hl : cs.length ≤ 1000) (hM : MapIs w 80 BC kvC cs) :
    Calls Try.prog 55 #[.map (some BC), .agg #[.int .u8 c, .int .i64 xi]] w fun e w' =>
      e = .returned (.int .i64 (cs.idxOf (c, x))) ∧ MapIs w' 80 BC kvC (put cs (c, x)) ∧ w.grownBy w' (some BC) := by
  subst hx
  exact numC_any BC cs c x w h1 h2 hl hM

section
variable (w : World) (B BT BC : Nat) (s : ByteArray) (a d : Nat) (ts : List Key) (cs : List (Int × Nat)) (n : Nat)

set_option maxHeartbeats 400000 in
theorem claim_bad (hs : s.size ≤ 100) (ha : a < s.size) (hd : d ≤ 8) (ht : ts.length ≤ a) (hn : s.size < a + 1 + 1 + n) (E : Int) (p : Nat) (HR : Hid (Rdg.arg1 (pk s) (Rdg.rdT (pk s) n) (a + 1) d ts = .error (E, p))) (h : CI w B BT BC s a d ts cs) :
    Calls Try.prog 39 #[.pointer (some ⟨B, 0, none⟩)] w (PostF w B BT BC s d (.error (E, p))) := by
  go_enter Try.func39, Try.ntmps39
  go_wp2_with fail
  refine (peek_ci w B BT BC s a d ts cs hs (by omega) h).mono ?_
  generalize pk s a = c
  rintro e w1 ⟨rfl, h1, k1⟩
  have c1 := h1.c1
  have f1 := h1.f1
  go_wp2_with fail
  refine (argument_any _ B BT BC s (a + 1) d ts cs n hs (by omega) hd (by omega) (by omega) (term_any B BT BC s cs hs n) (h1.set1 (by omega))).mono ?_
  rw [unhide HR]
  rintro e w2 ⟨k2, ⟨z, rfl⟩, h2⟩
  go_wp2_with fail
  go_ret
  exact ⟨(k1.trans (Kp.setCell _ _ _ _ _ _)).trans k2, rfl, h2⟩

set_option maxHeartbeats 400000 in
theorem claim_ok (hs : s.size ≤ 100) (ha : a < s.size) (hd : d ≤ 8) (ht : ts.length ≤ a) (hcs : cs.length ≤ a) (hn : s.size < a + 1 + 1 + n) (a1 : Nat) (ts1 : List Key) (m : Nat) (hm : m ≤ 1000)
    (HR : Hid (Rdg.arg1 (pk s) (Rdg.rdT (pk s) n) (a + 1) d ts = .ok (a1, ts1, m))) (h : CI w B BT BC s a d ts cs) :
    Calls Try.prog 39 #[.pointer (some ⟨B, 0, none⟩)] w (PostF w B BT BC s d (.ok (a1, ts1, put cs (pk s a, m)))) := by
  have hbd := pk_bd s a
  generalize hc : pk s a = c at hbd
  have HC := hide hc
  clear hc
  go_enter Try.func39, Try.ntmps39
  go_wp2_with fail
  refine (peek_ci w B BT BC s a d ts cs hs (by omega) h).mono ?_
  rw [unhide HC]
  rintro e w1 ⟨rfl, h1, k1⟩
  have c1 := h1.c1
  have f1 := h1.f1
  go_wp2_with fail
  refine (argument_any _ B BT BC s (a + 1) d ts cs n hs (by omega) hd (by omega) (by omega) (term_any B BT BC s cs hs n) (h1.set1 (by omega))).mono ?_
  rw [unhide HR]
  rintro e w2 ⟨k2, rfl, h2⟩
  have c5 := h2.c5
  go_wp2_with fail
  refine (numC_int BC cs c m m _ rfl hbd hm (by omega) h2.mc).mono ?_
  rintro e w3 ⟨rfl, hM, hg⟩
  go_wp2_with fail
  go_ret
  exact ⟨((k1.trans (Kp.setCell _ _ _ _ _ _)).trans k2).trans (Kp.grownC hg), rfl, h2.numC hM hg⟩

theorem claim_any (hs : s.size ≤ 100) (ha : a < s.size) (hd : d ≤ 8) (ht : ts.length ≤ a) (hcs : cs.length ≤ a) (hn : s.size < a + 1 + 1 + n) (h : CI w B BT BC s a d ts cs) :
    Calls Try.prog 39 #[.pointer (some ⟨B, 0, none⟩)] w (PostF w B BT BC s d (Rdg.finC (pk s a) cs (Rdg.arg1 (pk s) (Rdg.rdT (pk s) n) (a + 1) d ts))) := by
  have hok := Rdg.okT1_arg1 (pk := pk s) (N := s.size) (fun a h => pk_lt h) (rec := Rdg.rdT (pk s) n) (a := a + 1) (d := d) (ts := ts) (by omega) (fun h40 => Rdg.okT_rdT (fun a h => pk_lt h) _ _ _ _ (by have := pk_lt (s := s) (a := a + 1) (by omega); omega))
  cases hR : Rdg.arg1 (pk s) (Rdg.rdT (pk s) n) (a + 1) d ts with
  | error Ep =>
    obtain ⟨E, p⟩ := Ep
    exact claim_bad w B BT BC s a d ts cs n hs ha hd ht hn E p (hide hR) h
  | ok q =>
    obtain ⟨a1, ts1, m⟩ := q
    rw [hR] at hok
    obtain ⟨p1, p2, p3, p4, p5⟩ := hok
    exact claim_ok w B BT BC s a d ts cs n hs ha hd ht hcs hn a1 ts1 m (by omega) (hide hR) h

set_option maxHeartbeats 400000 in
theorem equality_any (hs : s.size ≤ 100) (ha : a ≤ s.size) (hd : d ≤ 8) (ht : ts.length ≤ a) (hn : s.size < a + n) (h : CI w B BT BC s a d ts cs) :
    Calls Try.prog 40 #[.pointer (some ⟨B, 0, none⟩)] w (PostF w B BT BC s d (Rdg.rdEq (pk s) n a d ts cs)) := by
  have hT := term_any B BT BC s cs hs n
  have hok := Rdg.okT_rdT (pk := pk s) (N := s.size) (fun a h => pk_lt h) n a d ts ha
  cases hR : Rdg.rdT (pk s) n a d ts with
  | error Ep =>
    obtain ⟨E, p⟩ := Ep
    have hr : Rdg.rdEq (pk s) n a d ts cs = .error (E, p) := by unfold Rdg.rdEq; rw [hR]
    rw [hr]
    have HR := hide hR
    clear hr hR hok
    go_enter Try.func40, Try.ntmps40
    go_wp2_with fail
    refine (hT w a d ts ha hd ht hn h).mono ?_
    rw [unhide HR]
    rintro e w2 ⟨k2, ⟨z, rfl⟩, h2⟩
    go_wp2_with fail
    go_ret
    exact ⟨k2, rfl, h2⟩
  | ok q =>
    obtain ⟨a1, ts1, m⟩ := q
    rw [hR] at hok
    obtain ⟨p1, p2, p3, p4, p5⟩ := hok
    by_cases h61 : pk s a1 = 61
    · have hlt1 : a1 < s.size := pk_lt (by omega)
      cases hR2 : Rdg.rdT (pk s) n (a1 + 1) d ts1 with
      | error Ep =>
        obtain ⟨E, p⟩ := Ep
        have hr : Rdg.rdEq (pk s) n a d ts cs = .error (E, p) := by unfold Rdg.rdEq; rw [hR]; simp only [h61, if_true, hR2]
        rw [hr]
        have HR := hide hR
        have HR2 := hide hR2
        clear hr hR hR2
        go_enter Try.func40, Try.ntmps40
        go_wp2_with fail
        refine (hT w a d ts ha hd ht hn h).mono ?_
        rw [unhide HR]
        rintro e w2 ⟨k2, rfl, h2⟩
        go_wp2_with fail
        refine (take_yes w2 B BT BC s a1 d ts1 cs 61 hs hlt1 h61 h2).mono ?_
        rintro e w3 ⟨rfl, h3, k3⟩
        go_wp2_with fail
        refine (hT w3 (a1 + 1) d ts1 (by omega) hd (by omega) (by omega) h3).mono ?_
        rw [unhide HR2]
        rintro e w4 ⟨k4, ⟨z, rfl⟩, h4⟩
        go_wp2_with fail
        go_ret
        exact ⟨(k2.trans k3).trans k4, rfl, h4⟩
      | ok q =>
        obtain ⟨a2, ts2, m2⟩ := q
        have hr : Rdg.rdEq (pk s) n a d ts cs = .ok (a2, ts2, cs) := by unfold Rdg.rdEq; rw [hR]; simp only [h61, if_true, hR2]
        rw [hr]
        have HR := hide hR
        have HR2 := hide hR2
        clear hr hR hR2
        go_enter Try.func40, Try.ntmps40
        go_wp2_with fail
        refine (hT w a d ts ha hd ht hn h).mono ?_
        rw [unhide HR]
        rintro e w2 ⟨k2, rfl, h2⟩
        go_wp2_with fail
        refine (take_yes w2 B BT BC s a1 d ts1 cs 61 hs hlt1 h61 h2).mono ?_
        rintro e w3 ⟨rfl, h3, k3⟩
        go_wp2_with fail
        refine (hT w3 (a1 + 1) d ts1 (by omega) hd (by omega) (by omega) h3).mono ?_
        rw [unhide HR2]
        rintro e w4 ⟨k4, rfl, h4⟩
        go_wp2_with fail
        go_ret
        exact ⟨(k2.trans k3).trans k4, rfl, h4⟩
    · have hr : Rdg.rdEq (pk s) n a d ts cs = .error (2, a1) := by unfold Rdg.rdEq; rw [hR]; simp only [h61, if_false]
      rw [hr]
      have HR := hide hR
      clear hr hR
      go_enter Try.func40, Try.ntmps40
      go_wp2_with fail
      refine (hT w a d ts ha hd ht hn h).mono ?_
      rw [unhide HR]
      rintro e w2 ⟨k2, rfl, h2⟩
      go_wp2_with fail
      refine (take_no w2 B BT BC s a1 d ts1 cs 61 hs p2 h61 h2).mono ?_
      rintro e w3 ⟨rfl, h3, k3⟩
      go_wp2_with fail
      go_ret
      exact ⟨k2.trans k3, rfl, h3⟩

end

end Go.Proofs.Ythfjhjghohincaa
