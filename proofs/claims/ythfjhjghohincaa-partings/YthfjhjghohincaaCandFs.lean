import Derived.Test.YthfjhjghohincaaCandFb
namespace Go.Proofs.Ythfjhjghohincaa
open Go.RowKit Go.Maps Go.WideMaps
open Rdg (Key put RT RT2 RF)

section
variable (w : World) (B BT BC : Nat) (s : ByteArray) (a d : Nat) (ts : List Key) (cs : List (Int × Nat)) (n : Nat)

theorem formula_step (hs : s.size ≤ 100) (hF : SaidF B BT BC s n) : SaidF B BT BC s (n + 1) := by
  intro w a d ts cs ha hd ht hcs hn h
  unfold Rdg.rdF
  split
  · rename_i e
    exact formula_not w B BT BC s a d ts cs n hs ha hd ht hcs (by omega) (hide e) hF h
  · rename_i e33
    split
    · rename_i e
      have hlt : a < s.size := pk_lt (by omega)
      split
      · rename_i h8
        exact formula_deep w B BT BC s a d ts cs n hs ha hd ht hcs (by omega) (hide e) h8 h
      · rename_i h8
        have hok := Rdg.okF_rdF (pk := pk s) (N := s.size) (fun a h => pk_lt h) n (a + 1) (d + 1) ts cs (by omega)
        split
        · rename_i Ep hR
          obtain ⟨E, p⟩ := Ep
          exact formula_b1 w B BT BC s a d ts cs n hs ha hd ht hcs (by omega) (hide e) h8 E p (hide hR) hF h
        · rename_i a1 ts1 cs1 hR
          rw [hR] at hok
          obtain ⟨p1, p2, p3, p4, p5⟩ := hok
          split
          · rename_i hj
            have hlt1 : a1 < s.size := pk_lt (fun e => by rw [e] at hj; simp [Rdg.isJoint] at hj)
            have hok2 := Rdg.okF_rdF (pk := pk s) (N := s.size) (fun a h => pk_lt h) n (a1 + 1) (d + 1) ts1 cs1 (by omega)
            split
            · rename_i Ep hR2
              obtain ⟨E, p⟩ := Ep
              exact formula_b3 w B BT BC s a d ts cs n hs ha hd ht hcs (by omega) (hide e) h8 a1 ts1 cs1 (hide hR) (by omega) (by omega) (by omega) hlt1 hj E p (hide hR2) hF h
            · rename_i a2 ts2 cs2 hR2
              rw [hR2] at hok2
              obtain ⟨q1, q2, q3, q4, q5⟩ := hok2
              split
              · rename_i h41
                exact formula_b5 w B BT BC s a d ts cs n hs ha hd ht hcs (by omega) (hide e) h8 a1 ts1 cs1 (hide hR) (by omega) (by omega) (by omega) hlt1 hj a2 ts2 cs2 (hide hR2) (pk_lt (by omega)) h41 hF h
              · rename_i h41
                exact formula_b4 w B BT BC s a d ts cs n hs ha hd ht hcs (by omega) (hide e) h8 a1 ts1 cs1 (hide hR) (by omega) (by omega) (by omega) hlt1 hj a2 ts2 cs2 (hide hR2) q2 h41 hF h
          · rename_i hj
            exact formula_b2 w B BT BC s a d ts cs n hs ha hd ht hcs (by omega) (hide e) h8 a1 ts1 cs1 (hide hR) (by omega) (by omega) (by omega) p2 (by simpa using hj) hF h
    · rename_i e40
      split
      · rename_i e8
        exact formula_claim w B BT BC s a d ts cs (n + 1) hs ha hd ht hcs (by omega) _ (hide rfl) e8 h
      · rename_i e8
        exact formula_eq w B BT BC s a d ts cs (n + 1) hs ha hd ht (by omega) e33 e40 (fun e => e8 (Or.inl e)) (fun e => e8 (Or.inr e)) h

theorem formula_any (hs : s.size ≤ 100) : ∀ n, SaidF B BT BC s n
  | 0 => fun w a d ts cs ha hd ht hcs hn h => absurd hn (by omega)
  | n + 1 => formula_step B BT BC s n hs (formula_any hs n)

end

end Go.Proofs.Ythfjhjghohincaa
