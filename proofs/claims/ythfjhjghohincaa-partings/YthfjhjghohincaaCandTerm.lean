import Derived.Test.YthfjhjghohincaaCandTa
import Derived.Test.YthfjhjghohincaaCandTb
import Derived.Test.YthfjhjghohincaaCandTf
import Derived.Test.YthfjhjghohincaaCandTg
import Derived.Deep.RegionWith
namespace Go.Proofs.Ythfjhjghohincaa
open Go.RowKit Go.Maps Go.WideMaps
open Rdg (Key put RT RT2 RF)

section
variable (w : World) (B BT BC : Nat) (s : ByteArray) (a d : Nat) (ts : List Key) (cs : List (Int × Nat)) (n : Nat)

theorem term_step (hs : s.size ≤ 100) (hT : SaidT B BT BC s cs n) : SaidT B BT BC s cs (n + 1) := by
  intro w a d ts ha hd ht hn h
  unfold Rdg.rdT
  split
  · rename_i hnm
    have hlt : a < s.size := pk_lt (fun e => by rw [e] at hnm; simp [Rdg.isName] at hnm)
    have h5 : pk s a = 97 ∨ pk s a = 98 ∨ pk s a = 99 ∨ pk s a = 100 ∨ pk s a = 101 := by simp [Rdg.isName] at hnm; omega
    rcases h5 with e | e | e | e | e
    · rw [e]; exact term_97 w B BT BC s a d ts cs hs hlt ht e h
    · rw [e]; exact term_98 w B BT BC s a d ts cs hs hlt ht e h
    · rw [e]; exact term_99 w B BT BC s a d ts cs hs hlt ht e h
    · rw [e]; exact term_100 w B BT BC s a d ts cs hs hlt ht e h
    · rw [e]; exact term_101 w B BT BC s a d ts cs hs hlt ht e h
  · rename_i hnm
    split
    · rename_i e
      have hlt : a < s.size := pk_lt (by omega)
      have hok := Rdg.okT1_arg1 (pk := pk s) (N := s.size) (fun a h => pk_lt h) (rec := Rdg.rdT (pk s) n) (a := a + 1) (d := d) (ts := ts) (by omega) (fun h40 => Rdg.okT_rdT (fun a h => pk_lt h) _ _ _ _ (by have := pk_lt (s := s) (a := a + 1) (by omega); omega))
      cases hR : Rdg.arg1 (pk s) (Rdg.rdT (pk s) n) (a + 1) d ts with
      | error Ep =>
        obtain ⟨E, p⟩ := Ep
        exact term_f_bad w B BT BC s a d ts cs n hs hlt hd ht (by omega) hT e E p (hide hR) h
      | ok q =>
        obtain ⟨a1, ts1, m⟩ := q
        rw [hR] at hok
        obtain ⟨p1, p2, p3, p4, p5⟩ := hok
        exact term_f_ok w B BT BC s a d ts cs n hs hlt hd ht (by omega) hT e a1 ts1 m (hide hR) (by omega) (by omega) h
    · split
      · rename_i e
        have hlt : a < s.size := pk_lt (by omega)
        have hok := Rdg.okT2_arg2 (pk := pk s) (N := s.size) (fun a h => pk_lt h) (rec := Rdg.rdT (pk s) n) (a := a + 1) (d := d) (ts := ts) (by omega) (fun a' ts' _ _ h' => Rdg.okT_rdT (fun a h => pk_lt h) _ _ _ _ h')
        cases hR : Rdg.arg2 (pk s) (Rdg.rdT (pk s) n) (a + 1) d ts with
        | error Ep =>
          obtain ⟨E, p⟩ := Ep
          exact term_g_bad w B BT BC s a d ts cs n hs hlt hd ht (by omega) hT e E p (hide hR) h
        | ok q =>
          obtain ⟨a1, ts1, m, m2⟩ := q
          rw [hR] at hok
          obtain ⟨p1, p2, p3, p4, p5, p6⟩ := hok
          exact term_g_ok w B BT BC s a d ts cs n hs hlt hd ht (by omega) hT e a1 ts1 m m2 (hide hR) (by omega) (by omega) (by omega) h
      · rename_i e1 e2
        exact term_no w B BT BC s a d ts cs hs ha (by simpa using hnm) e1 e2 h

theorem term_any (hs : s.size ≤ 100) : ∀ n, SaidT B BT BC s cs n
  | 0 => fun w a d ts ha hd ht hn h => absurd hn (by omega)
  | n + 1 => term_step B BT BC s cs n hs (term_any hs n)
end

end Go.Proofs.Ythfjhjghohincaa
