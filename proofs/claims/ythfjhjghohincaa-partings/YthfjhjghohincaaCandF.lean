import Derived.Test.YthfjhjghohincaaCandC
namespace Go.Proofs.Ythfjhjghohincaa
open Go.RowKit Go.Maps Go.WideMaps
open Rdg (Key put RT RT2 RF)

/-- The contract of formula at one fuel. -/
def SaidF (B BT BC : Nat) (s : ByteArray) (n : Nat) : Prop :=
  ∀ (w : World) (a d : Nat) (ts : List Key) (cs : List (Int × Nat)), a ≤ s.size → d ≤ 8 → ts.length ≤ a → cs.length ≤ a → s.size < a + n → CI w B BT BC s a d ts cs →
    Calls Try.prog 26 #[.pointer (some ⟨B, 0, none⟩)] w (PostF w B BT BC s d (Rdg.rdF (pk s) n a d ts cs))

section
variable (w : World) (B BT BC : Nat) (s : ByteArray) (a d : Nat) (ts : List Key) (cs : List (Int × Nat)) (n : Nat)

set_option maxHeartbeats 400000 in
theorem formula_not (hs : s.size ≤ 100) (ha : a ≤ s.size) (hd : d ≤ 8) (ht : ts.length ≤ a) (hcs : cs.length ≤ a) (hn : s.size < a + 1 + n) (HC : Hid (pk s a = 33)) (hF : SaidF B BT BC s n) (h : CI w B BT BC s a d ts cs) :
    Calls Try.prog 26 #[.pointer (some ⟨B, 0, none⟩)] w (PostF w B BT BC s d (Rdg.rdF (pk s) n (a + 1) d ts cs)) := by
  have hlt : a < s.size := pk_lt (by rw [unhide HC]; omega)
  cases hR : Rdg.rdF (pk s) n (a + 1) d ts cs with
  | error Ep =>
    obtain ⟨E, p⟩ := Ep
    have HR := hide hR
    clear hR
    go_enter Try.func26, Try.ntmps26
    go_wp2_with fail
    refine (peek_ci w B BT BC s a d ts cs hs ha h).mono ?_
    rw [unhide HC]
    rintro e w1 ⟨rfl, h1, k1⟩
    have c1 := h1.c1
    have f1 := h1.f1
    go_wp2_with fail
    refine (hF _ (a + 1) d ts cs (by omega) hd (by omega) (by omega) (by omega) (h1.set1 (by omega))).mono ?_
    rw [unhide HR]
    rintro e w2 ⟨k2, rfl, h2⟩
    go_wp2_with fail
    go_ret
    exact ⟨(k1.trans (Kp.setCell _ _ _ _ _ _)).trans k2, rfl, h2⟩
  | ok q =>
    obtain ⟨a1, ts1, cs1⟩ := q
    have HR := hide hR
    clear hR
    go_enter Try.func26, Try.ntmps26
    go_wp2_with fail
    refine (peek_ci w B BT BC s a d ts cs hs ha h).mono ?_
    rw [unhide HC]
    rintro e w1 ⟨rfl, h1, k1⟩
    have c1 := h1.c1
    have f1 := h1.f1
    go_wp2_with fail
    refine (hF _ (a + 1) d ts cs (by omega) hd (by omega) (by omega) (by omega) (h1.set1 (by omega))).mono ?_
    rw [unhide HR]
    rintro e w2 ⟨k2, rfl, h2⟩
    go_wp2_with fail
    go_ret
    exact ⟨(k1.trans (Kp.setCell _ _ _ _ _ _)).trans k2, rfl, h2⟩

set_option maxHeartbeats 400000 in
theorem formula_claim (hs : s.size ≤ 100) (ha : a ≤ s.size) (hd : d ≤ 8) (ht : ts.length ≤ a) (hcs : cs.length ≤ a) (hn : s.size < a + 1 + 1 + n) (c : Int) (HC : Hid (pk s a = c)) (h8 : c = 80 ∨ c = 81) (h : CI w B BT BC s a d ts cs) :
    Calls Try.prog 26 #[.pointer (some ⟨B, 0, none⟩)] w (PostF w B BT BC s d (Rdg.finC (pk s a) cs (Rdg.arg1 (pk s) (Rdg.rdT (pk s) n) (a + 1) d ts))) := by
  have hlt : a < s.size := pk_lt (by rw [unhide HC]; omega)
  have HF := hide (fun w h => claim_any w B BT BC s a d ts cs n hs hlt hd ht hcs hn h)
  generalize Rdg.finC (pk s a) cs (Rdg.arg1 (pk s) (Rdg.rdT (pk s) n) (a + 1) d ts) = r at HF
  rcases h8 with rfl | rfl <;> rcases r with ⟨E, p⟩ | ⟨a1, ts1, cs1⟩
  all_goals
    go_enter Try.func26, Try.ntmps26
    go_wp2_with fail
    refine (peek_ci w B BT BC s a d ts cs hs ha h).mono ?_
    rw [unhide HC]
    rintro e w1 ⟨rfl, h1, k1⟩
    go_wp2_with fail
    refine ((unhide HF) _ h1).mono ?_
    rintro e w2 ⟨k2, rfl, h2⟩
    go_wp2_with fail
    go_ret
    exact ⟨k1.trans k2, rfl, h2⟩

set_option maxHeartbeats 400000 in
theorem formula_eq (hs : s.size ≤ 100) (ha : a ≤ s.size) (hd : d ≤ 8) (ht : ts.length ≤ a) (hn : s.size < a + n) (h33 : pk s a ≠ 33) (h40 : pk s a ≠ 40) (h80 : pk s a ≠ 80) (h81 : pk s a ≠ 81) (h : CI w B BT BC s a d ts cs) :
    Calls Try.prog 26 #[.pointer (some ⟨B, 0, none⟩)] w (PostF w B BT BC s d (Rdg.rdEq (pk s) n a d ts cs)) := by
  have HF := hide (fun w h => equality_any w B BT BC s a d ts cs n hs ha hd ht hn h)
  generalize Rdg.rdEq (pk s) n a d ts cs = r at HF
  generalize hc : pk s a = c at h33 h40 h80 h81
  have HC := hide hc
  clear hc
  have hc' : ((c == 33) = false ∧ (c == 40) = false) ∧ (c == 80) = false ∧ (c == 81) = false := by simp; omega
  obtain ⟨⟨b1, b2⟩, b3, b4⟩ := hc'
  clear h33 h40 h80 h81
  rcases r with ⟨E, p⟩ | ⟨a1, ts1, cs1⟩
  all_goals
    go_enter Try.func26, Try.ntmps26
    go_wp2_with fail
    refine (peek_ci w B BT BC s a d ts cs hs ha h).mono ?_
    rw [unhide HC]
    rintro e w1 ⟨rfl, h1, k1⟩
    go_wp2_with fail
    refine ((unhide HF) _ h1).mono ?_
    rintro e w2 ⟨k2, rfl, h2⟩
    go_wp2_with fail
    go_ret
    exact ⟨k1.trans k2, rfl, h2⟩

end

end Go.Proofs.Ythfjhjghohincaa
