import Derived.Test.YthfjhjghohincaaCandF
namespace Go.Proofs.Ythfjhjghohincaa
open Go.RowKit Go.Maps Go.WideMaps
open Rdg (Key put RT RT2 RF)

section
variable (w : World) (B BT BC : Nat) (s : ByteArray) (a d : Nat) (ts : List Key) (cs : List (Int × Nat)) (n : Nat)

set_option maxHeartbeats 400000 in
theorem formula_deep (hs : s.size ≤ 100) (ha : a ≤ s.size) (_hd : d ≤ 8) (_ht : ts.length ≤ a) (_hcs : cs.length ≤ a) (_hn : s.size < a + 1 + n) (HC : Hid (pk s a = 40)) (h8 : d = 8) (h : CI w B BT BC s a d ts cs) :
    Calls Try.prog 26 #[.pointer (some ⟨B, 0, none⟩)] w (PostF w B BT BC s d (.error (3, a))) := by
  have hlt : a < s.size := pk_lt (by rw [unhide HC]; omega)
  go_enter Try.func26, Try.ntmps26
  go_wp2_with fail
  refine (peek_ci w B BT BC s a d ts cs hs ha h).mono ?_
  rw [unhide HC]
  rintro e w1 ⟨rfl, h1, k1⟩
  go_wp2_with fail
  refine (open_deep w1 B BT BC s a d ts cs hs ha h8 (unhide HC) h1).mono ?_
  rintro e w2 ⟨rfl, h2, k2⟩
  go_wp2_with fail
  go_ret
  exact ⟨k1.trans k2, rfl, h2⟩

set_option maxHeartbeats 400000 in
theorem formula_b1 (hs : s.size ≤ 100) (ha : a ≤ s.size) (hd : d ≤ 8) (ht : ts.length ≤ a) (hcs : cs.length ≤ a) (hn : s.size < a + 1 + n) (HC : Hid (pk s a = 40)) (h8 : d ≠ 8) (E : Int) (p : Nat) (HR : Hid (Rdg.rdF (pk s) n (a + 1) (d + 1) ts cs = .error (E, p))) (hF : SaidF B BT BC s n) (h : CI w B BT BC s a d ts cs) :
    Calls Try.prog 26 #[.pointer (some ⟨B, 0, none⟩)] w (PostF w B BT BC s d (.error (E, p))) := by
  have hlt : a < s.size := pk_lt (by rw [unhide HC]; omega)
  go_enter Try.func26, Try.ntmps26
  go_wp2_with fail
  refine (peek_ci w B BT BC s a d ts cs hs ha h).mono ?_
  rw [unhide HC]
  rintro e w1 ⟨rfl, h1, k1⟩
  go_wp2_with fail
  refine (open_yes w1 B BT BC s a d ts cs hs hlt (by omega) (unhide HC) h1).mono ?_
  rintro e w2 ⟨rfl, h2, k2⟩
  go_wp2_with fail
  refine (hF w2 (a + 1) (d + 1) ts cs (by omega) (by omega) (by omega) (by omega) (by omega) h2).mono ?_
  rw [unhide HR]
  rintro e w3 ⟨k3, rfl, h3⟩
  go_wp2_with fail
  go_ret
  exact ⟨(k1.trans k2).trans k3, rfl, h3⟩

set_option maxHeartbeats 400000 in
theorem formula_b2 (hs : s.size ≤ 100) (ha : a ≤ s.size) (hd : d ≤ 8) (ht : ts.length ≤ a) (hcs : cs.length ≤ a) (hn : s.size < a + 1 + n) (HC : Hid (pk s a = 40)) (h8 : d ≠ 8) (a1 : Nat) (ts1 : List Key) (cs1 : List (Int × Nat)) (HR : Hid (Rdg.rdF (pk s) n (a + 1) (d + 1) ts cs = .ok (a1, ts1, cs1))) (_hts1 : ts1.length ≤ a1) (_hcs1 : cs1.length ≤ a1) (_hla1 : a < a1) (hle1 : a1 ≤ s.size) (hj : Rdg.isJoint (pk s a1) = false) (hF : SaidF B BT BC s n) (h : CI w B BT BC s a d ts cs) :
    Calls Try.prog 26 #[.pointer (some ⟨B, 0, none⟩)] w (PostF w B BT BC s d (.error (2, a1))) := by
  have hlt : a < s.size := pk_lt (by rw [unhide HC]; omega)
  go_enter Try.func26, Try.ntmps26
  go_wp2_with fail
  refine (peek_ci w B BT BC s a d ts cs hs ha h).mono ?_
  rw [unhide HC]
  rintro e w1 ⟨rfl, h1, k1⟩
  go_wp2_with fail
  refine (open_yes w1 B BT BC s a d ts cs hs hlt (by omega) (unhide HC) h1).mono ?_
  rintro e w2 ⟨rfl, h2, k2⟩
  go_wp2_with fail
  refine (hF w2 (a + 1) (d + 1) ts cs (by omega) (by omega) (by omega) (by omega) (by omega) h2).mono ?_
  rw [unhide HR]
  rintro e w3 ⟨k3, rfl, h3⟩
  go_wp2_with fail
  refine (joint_no w3 B BT BC s a1 (d + 1) ts1 cs1 hs hle1 hj h3).mono ?_
  rintro e w4 ⟨rfl, h4, k4⟩
  go_wp2_with fail
  go_ret
  exact ⟨((k1.trans k2).trans k3).trans k4, rfl, h4⟩

set_option maxHeartbeats 400000 in
theorem formula_b3 (hs : s.size ≤ 100) (ha : a ≤ s.size) (hd : d ≤ 8) (ht : ts.length ≤ a) (hcs : cs.length ≤ a) (hn : s.size < a + 1 + n) (HC : Hid (pk s a = 40)) (h8 : d ≠ 8) (a1 : Nat) (ts1 : List Key) (cs1 : List (Int × Nat)) (HR : Hid (Rdg.rdF (pk s) n (a + 1) (d + 1) ts cs = .ok (a1, ts1, cs1))) (hts1 : ts1.length ≤ a1) (hcs1 : cs1.length ≤ a1) (hla1 : a < a1) (hlt1 : a1 < s.size) (hj : Rdg.isJoint (pk s a1) = true) (E : Int) (p : Nat) (HR2 : Hid (Rdg.rdF (pk s) n (a1 + 1) (d + 1) ts1 cs1 = .error (E, p))) (hF : SaidF B BT BC s n) (h : CI w B BT BC s a d ts cs) :
    Calls Try.prog 26 #[.pointer (some ⟨B, 0, none⟩)] w (PostF w B BT BC s d (.error (E, p))) := by
  have hlt : a < s.size := pk_lt (by rw [unhide HC]; omega)
  go_enter Try.func26, Try.ntmps26
  go_wp2_with fail
  refine (peek_ci w B BT BC s a d ts cs hs ha h).mono ?_
  rw [unhide HC]
  rintro e w1 ⟨rfl, h1, k1⟩
  go_wp2_with fail
  refine (open_yes w1 B BT BC s a d ts cs hs hlt (by omega) (unhide HC) h1).mono ?_
  rintro e w2 ⟨rfl, h2, k2⟩
  go_wp2_with fail
  refine (hF w2 (a + 1) (d + 1) ts cs (by omega) (by omega) (by omega) (by omega) (by omega) h2).mono ?_
  rw [unhide HR]
  rintro e w3 ⟨k3, rfl, h3⟩
  go_wp2_with fail
  refine (joint_yes w3 B BT BC s a1 (d + 1) ts1 cs1 hs hlt1 hj h3).mono ?_
  rintro e w4 ⟨rfl, h4, k4⟩
  go_wp2_with fail
  refine (hF w4 (a1 + 1) (d + 1) ts1 cs1 (by omega) (by omega) (by omega) (by omega) (by omega) h4).mono ?_
  rw [unhide HR2]
  rintro e w5 ⟨k5, rfl, h5⟩
  go_wp2_with fail
  go_ret
  exact ⟨(((k1.trans k2).trans k3).trans k4).trans k5, rfl, h5⟩

set_option maxHeartbeats 400000 in
theorem formula_b4 (hs : s.size ≤ 100) (ha : a ≤ s.size) (hd : d ≤ 8) (ht : ts.length ≤ a) (hcs : cs.length ≤ a) (hn : s.size < a + 1 + n) (HC : Hid (pk s a = 40)) (h8 : d ≠ 8) (a1 : Nat) (ts1 : List Key) (cs1 : List (Int × Nat)) (HR : Hid (Rdg.rdF (pk s) n (a + 1) (d + 1) ts cs = .ok (a1, ts1, cs1))) (hts1 : ts1.length ≤ a1) (hcs1 : cs1.length ≤ a1) (hla1 : a < a1) (hlt1 : a1 < s.size) (hj : Rdg.isJoint (pk s a1) = true) (a2 : Nat) (ts2 : List Key) (cs2 : List (Int × Nat)) (HR2 : Hid (Rdg.rdF (pk s) n (a1 + 1) (d + 1) ts1 cs1 = .ok (a2, ts2, cs2))) (hle2 : a2 ≤ s.size) (h41 : pk s a2 ≠ 41) (hF : SaidF B BT BC s n) (h : CI w B BT BC s a d ts cs) :
    Calls Try.prog 26 #[.pointer (some ⟨B, 0, none⟩)] w (PostF w B BT BC s d (.error (2, a2))) := by
  have hlt : a < s.size := pk_lt (by rw [unhide HC]; omega)
  go_enter Try.func26, Try.ntmps26
  go_wp2_with fail
  refine (peek_ci w B BT BC s a d ts cs hs ha h).mono ?_
  rw [unhide HC]
  rintro e w1 ⟨rfl, h1, k1⟩
  go_wp2_with fail
  refine (open_yes w1 B BT BC s a d ts cs hs hlt (by omega) (unhide HC) h1).mono ?_
  rintro e w2 ⟨rfl, h2, k2⟩
  go_wp2_with fail
  refine (hF w2 (a + 1) (d + 1) ts cs (by omega) (by omega) (by omega) (by omega) (by omega) h2).mono ?_
  rw [unhide HR]
  rintro e w3 ⟨k3, rfl, h3⟩
  go_wp2_with fail
  refine (joint_yes w3 B BT BC s a1 (d + 1) ts1 cs1 hs hlt1 hj h3).mono ?_
  rintro e w4 ⟨rfl, h4, k4⟩
  go_wp2_with fail
  refine (hF w4 (a1 + 1) (d + 1) ts1 cs1 (by omega) (by omega) (by omega) (by omega) (by omega) h4).mono ?_
  rw [unhide HR2]
  rintro e w5 ⟨k5, rfl, h5⟩
  go_wp2_with fail
  refine (shut_no w5 B BT BC s a2 d ts2 cs2 hs hle2 hd h41 h5).mono ?_
  rintro e w6 ⟨rfl, h6, k6⟩
  go_wp2_with fail
  go_ret
  exact ⟨((((k1.trans k2).trans k3).trans k4).trans k5).trans k6, rfl, h6⟩

set_option maxHeartbeats 400000 in
theorem formula_b5 (hs : s.size ≤ 100) (ha : a ≤ s.size) (hd : d ≤ 8) (ht : ts.length ≤ a) (hcs : cs.length ≤ a) (hn : s.size < a + 1 + n) (HC : Hid (pk s a = 40)) (h8 : d ≠ 8) (a1 : Nat) (ts1 : List Key) (cs1 : List (Int × Nat)) (HR : Hid (Rdg.rdF (pk s) n (a + 1) (d + 1) ts cs = .ok (a1, ts1, cs1))) (hts1 : ts1.length ≤ a1) (hcs1 : cs1.length ≤ a1) (hla1 : a < a1) (hlt1 : a1 < s.size) (hj : Rdg.isJoint (pk s a1) = true) (a2 : Nat) (ts2 : List Key) (cs2 : List (Int × Nat)) (HR2 : Hid (Rdg.rdF (pk s) n (a1 + 1) (d + 1) ts1 cs1 = .ok (a2, ts2, cs2))) (hlt2 : a2 < s.size) (h41 : pk s a2 = 41) (hF : SaidF B BT BC s n) (h : CI w B BT BC s a d ts cs) :
    Calls Try.prog 26 #[.pointer (some ⟨B, 0, none⟩)] w (PostF w B BT BC s d (.ok (a2 + 1, ts2, cs2))) := by
  have hlt : a < s.size := pk_lt (by rw [unhide HC]; omega)
  go_enter Try.func26, Try.ntmps26
  go_wp2_with fail
  refine (peek_ci w B BT BC s a d ts cs hs ha h).mono ?_
  rw [unhide HC]
  rintro e w1 ⟨rfl, h1, k1⟩
  go_wp2_with fail
  refine (open_yes w1 B BT BC s a d ts cs hs hlt (by omega) (unhide HC) h1).mono ?_
  rintro e w2 ⟨rfl, h2, k2⟩
  go_wp2_with fail
  refine (hF w2 (a + 1) (d + 1) ts cs (by omega) (by omega) (by omega) (by omega) (by omega) h2).mono ?_
  rw [unhide HR]
  rintro e w3 ⟨k3, rfl, h3⟩
  go_wp2_with fail
  refine (joint_yes w3 B BT BC s a1 (d + 1) ts1 cs1 hs hlt1 hj h3).mono ?_
  rintro e w4 ⟨rfl, h4, k4⟩
  go_wp2_with fail
  refine (hF w4 (a1 + 1) (d + 1) ts1 cs1 (by omega) (by omega) (by omega) (by omega) (by omega) h4).mono ?_
  rw [unhide HR2]
  rintro e w5 ⟨k5, rfl, h5⟩
  go_wp2_with fail
  refine (shut_yes w5 B BT BC s a2 d ts2 cs2 hs hlt2 hd h41 h5).mono ?_
  rintro e w6 ⟨rfl, h6, k6⟩
  go_wp2_with fail
  go_ret
  exact ⟨((((k1.trans k2).trans k3).trans k4).trans k5).trans k6, rfl, h6⟩

end

end Go.Proofs.Ythfjhjghohincaa
