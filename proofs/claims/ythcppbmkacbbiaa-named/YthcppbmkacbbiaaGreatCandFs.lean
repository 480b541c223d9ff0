import Derived.Test.YthcppbmkacbbiaaGreatCandFc
namespace Go.Proofs.YthcppbmkacbbiaaGreat
open Go.RowKit Go.Maps Go.WideMaps
open Rdg (Key put RT RT2 RF RP RQ)

section
variable (w : World) (B BT BC BP : Nat) (s : ByteArray) (a d : Nat) (ts : List Key) (cs : List (Int × Nat)) (ps : List Key) (n : Nat)

set_option linter.unusedVariables false in
set_option maxHeartbeats 1000000 in
theorem formula_e_bad (hs : s.size ≤ 100) (ha : a ≤ s.size) (hd : d ≤ 8) (ht : ts.length ≤ a) (hcs : cs.length ≤ a) (hps : ps.length ≤ a) (c : Int) (HC : Hid (pk s a = c)) (b1 : (c == 33) = false) (b2 : (c == 40) = false) (b3 : (c == 80) = false) (b4 : (c == 81) = false) (E : Int) (p : Nat) (HP : Hid (∀ w, CI w B BT BC BP s a d ts cs ps → Calls Tryz.prog 66 #[.pointer (some ⟨B, 0, none⟩)] w (PostQ w B BT BC BP s d (.error (E, p))))) (h : CI w B BT BC BP s a d ts cs ps) :
    Calls Tryz.prog 42 #[.pointer (some ⟨B, 0, none⟩)] w (PostF w B BT BC BP s d (.error (E, p))) := by
  go_enter Tryz.func42, Tryz.ntmps42
  go_wp2_with fail
  refine (peek_ci w B BT BC BP s a d ts cs ps hs ha h).mono ?_
  rw [unhide HC]
  rintro e w1 ⟨rfl, h1, k1⟩
  have hI0 := h1.alloc (.cells #[.int .u8 c, .int .i64 0, .int .i64 0] 93)
  have hX0 := PX.new h1 c 0 0
  have hk0 := k1.trans (Kp.alloc B BT BC BP _ (.cells #[.int .u8 c, .int .i64 0, .int .i64 0] 93))
  go_wp2_with fail
  refine ((unhide HP) _ hI0).mono ?_
  rintro e w2 ⟨k2, ⟨x, y, z, rfl⟩, h2⟩
  have hX := hX0.kp k2
  have x0 := hX.p0
  have x1 := hX.p1
  have x2 := hX.p2
  have y0 := hX.f0
  have y1 := hX.f1
  have y2 := hX.f2
  go_wp2_with fail
  go_ret2
  refine ⟨?_, ⟨_, rfl⟩, ?_⟩
  · repeat refine Kp.setX k1.size ?_ _ _
    exact hk0.trans k2
  · repeat refine Bad.setNew ?_ hX.nB _ _
    exact h2

set_option linter.unusedVariables false in
set_option maxHeartbeats 1000000 in
theorem formula_e_ok (hs : s.size ≤ 100) (ha : a ≤ s.size) (hd : d ≤ 8) (ht : ts.length ≤ a) (hcs : cs.length ≤ a) (hps : ps.length ≤ a) (c : Int) (HC : Hid (pk s a = c)) (b1 : (c == 33) = false) (b2 : (c == 40) = false) (b3 : (c == 80) = false) (b4 : (c == 81) = false) (a1 : Nat) (ts1 : List Key) (cs1 : List (Int × Nat)) (ps1 : List Key) (q0 : Int) (q1 q2 : Nat) (hl : ps1.length ≤ 1000) (hq0 : 0 ≤ q0 ∧ q0 ≤ 255) (hq1 : q1 ≤ 1000) (hq2 : q2 ≤ 1000) (HP : Hid (∀ w, CI w B BT BC BP s a d ts cs ps → Calls Tryz.prog 66 #[.pointer (some ⟨B, 0, none⟩)] w (PostQ w B BT BC BP s d (.ok (a1, ts1, cs1, ps1, (q0, q1, q2)))))) (h : CI w B BT BC BP s a d ts cs ps) :
    Calls Tryz.prog 42 #[.pointer (some ⟨B, 0, none⟩)] w (PostF w B BT BC BP s d (.ok (a1, ts1, cs1, put ps1 (q0, q1, q2), ps1.idxOf ((q0, q1, q2) : Key)))) := by
  go_enter Tryz.func42, Tryz.ntmps42
  go_wp2_with fail
  refine (peek_ci w B BT BC BP s a d ts cs ps hs ha h).mono ?_
  rw [unhide HC]
  rintro e w1 ⟨rfl, h1, k1⟩
  have hI0 := h1.alloc (.cells #[.int .u8 c, .int .i64 0, .int .i64 0] 93)
  have hX0 := PX.new h1 c 0 0
  have hk0 := k1.trans (Kp.alloc B BT BC BP _ (.cells #[.int .u8 c, .int .i64 0, .int .i64 0] 93))
  go_wp2_with fail
  refine ((unhide HP) _ hI0).mono ?_
  rintro e w2 ⟨k2, rfl, h2⟩
  have hX := hX0.kp k2
  have x0 := hX.p0
  have x1 := hX.p1
  have x2 := hX.p2
  have y0 := hX.f0
  have y1 := hX.f1
  have y2 := hX.f2
  have c6 := h2.c6
  have HI := hide (((h2.px hX 0 (.int .u8 q0)).setNew hX.nB hX.nT hX.nC hX.nP 1 (.int .i64 (q1 : Nat))).setNew hX.nB hX.nT hX.nC hX.nP 2 (.int .i64 (q2 : Nat)))
  have HK2 := hide (Kp.setX k1.size (Kp.setX k1.size (Kp.setX k1.size (hk0.trans k2) 0 (.int .u8 q0)) 1 (.int .i64 (q1 : Nat))) 2 (.int .i64 (q2 : Nat)))
  go_wp2_with fail
  go_region_with (go_at_call 67; refine (numP_int BP ps1 q0 q1 q2 q1 q2 _ rfl rfl hq0 hq1 hq2 hl (by exact (unhide HI).mp.kept rfl)).mono ?_; rintro e w3 ⟨rfl, hm, hg⟩)
  all_goals
    go_wp2_with fail
    go_ret2
    exact ⟨(unhide HK2).trans ((Kp.drewN _ _ _ _ _ 1).trans (Kp.grownP hg)), rfl, ((unhide HI).drewN 1).numP hm hg⟩

theorem formula_step (hs : s.size ≤ 100) (hF : SaidF B BT BC BP s n) : SaidF B BT BC BP s (n + 1) := by
  intro w a d ts cs ps ha hd ht hcs hps hn h
  unfold Rdg.rdP
  split
  · rename_i e
    have hlt : a < s.size := pk_lt (by omega)
    have hok := Rdg.okP_rdP (pk_ok s).1 (pk_ok s).2 n (a + 1) d ts cs ps (by omega) (by omega) (by omega) (by omega)
    cases hR : Rdg.rdP (pk s) n (a + 1) d ts cs ps with
    | error Ep =>
      obtain ⟨E, p⟩ := Ep
      exact formula_not_bad w B BT BC BP s a d ts cs ps n hs ha hd ht hcs hps (by omega) (hide e) hF E p (hide hR) h
    | ok q =>
      obtain ⟨a1, ts1, cs1, ps1, m⟩ := q
      rw [hR] at hok
      obtain ⟨p1, p2, p3, p4, p5, p6, p7⟩ := hok
      exact formula_not_ok w B BT BC BP s a d ts cs ps n hs ha hd ht hcs hps (by omega) (hide e) hF a1 ts1 cs1 ps1 m (by omega) (by omega) (hide hR) h
  · rename_i e33
    split
    · rename_i e
      have hlt : a < s.size := pk_lt (by omega)
      have HP : Hid (∀ w, CI w B BT BC BP s a d ts cs ps → Calls Tryz.prog 64 #[.pointer (some ⟨B, 0, none⟩)] w (PostQ w B BT BC BP s d (Rdg.rdJ (pk s) (Rdg.rdP (pk s) n) a d ts cs ps))) := fun w h => joined_any w B BT BC BP s a d ts cs ps n hs ha hd ht hcs hps (by omega) e hF h
      have hok := Rdg.okQ_rdJ (pk_ok s).1 (pk_ok s).2 (n := n) (a := a) (d := d) (ts := ts) (cs := cs) (ps := ps) hlt ht hcs hps
      cases hR : Rdg.rdJ (pk s) (Rdg.rdP (pk s) n) a d ts cs ps with
      | error Ep =>
        obtain ⟨E, p⟩ := Ep
        rw [hR] at HP
        exact formula_j_bad w B BT BC BP s a d ts cs ps hs ha hd ht hcs hps (hide e) E p HP h
      | ok q =>
        obtain ⟨a1, ts1, cs1, ps1, q0, q1, q2⟩ := q
        rw [hR] at HP hok
        obtain ⟨p1, p2, p3, p4, p5, p6, p7, p8, p9, p10⟩ := hok
        exact formula_j_ok w B BT BC BP s a d ts cs ps hs ha hd ht hcs hps (hide e) a1 ts1 cs1 ps1 q0 q1 q2 (by omega) ⟨p9, p10⟩ (by simp at p7; omega) (by simp at p8; omega) HP h
    · rename_i e40
      split
      · rename_i e8
        have hlt : a < s.size := pk_lt (by omega)
        unfold Rdg.rdC
        rcases e8 with e | e
        · rw [e]
          cases hR : Rdg.arg1 (pk s) (Rdg.rdT (pk s) (n + 1)) (a + 1) d ts with
          | error Ep =>
            obtain ⟨E, p⟩ := Ep
            exact formula_80_bad w B BT BC BP s a d ts cs ps (n + 1) hs ha hd ht hcs hps (by omega) (hide e) E p (hide hR) h
          | ok q =>
            obtain ⟨a1, ts1, m⟩ := q
            exact formula_80_ok w B BT BC BP s a d ts cs ps (n + 1) hs ha hd ht hcs hps (by omega) (hide e) a1 ts1 m _ (hide rfl) (hide hR) h
        · rw [e]
          cases hR : Rdg.arg1 (pk s) (Rdg.rdT (pk s) (n + 1)) (a + 1) d ts with
          | error Ep =>
            obtain ⟨E, p⟩ := Ep
            exact formula_81_bad w B BT BC BP s a d ts cs ps (n + 1) hs ha hd ht hcs hps (by omega) (hide e) E p (hide hR) h
          | ok q =>
            obtain ⟨a1, ts1, m⟩ := q
            exact formula_81_ok w B BT BC BP s a d ts cs ps (n + 1) hs ha hd ht hcs hps (by omega) (hide e) a1 ts1 m _ (hide rfl) (hide hR) h
      · rename_i e8
        have hc' : ((pk s a == 33) = false ∧ (pk s a == 40) = false) ∧ (pk s a == 80) = false ∧ (pk s a == 81) = false := by simp; omega
        obtain ⟨⟨b1, b2⟩, b3, b4⟩ := hc'
        have HP : Hid (∀ w, CI w B BT BC BP s a d ts cs ps → Calls Tryz.prog 66 #[.pointer (some ⟨B, 0, none⟩)] w (PostQ w B BT BC BP s d (Rdg.rdE (pk s) (n + 1) a d ts cs ps))) := fun w h => equality_any w B BT BC BP s a d ts cs ps (n + 1) hs ha hd ht (by omega) h
        have hok := Rdg.okQ_rdE (pk_ok s).1 (n := n + 1) (a := a) (d := d) (ts := ts) (cs := cs) (ps := ps) ha ht
        cases hR : Rdg.rdE (pk s) (n + 1) a d ts cs ps with
        | error Ep =>
          obtain ⟨E, p⟩ := Ep
          rw [hR] at HP
          exact formula_e_bad w B BT BC BP s a d ts cs ps hs ha hd ht hcs hps _ (hide rfl) b1 b2 b3 b4 E p HP h
        | ok q =>
          obtain ⟨a1, ts1, cs1, ps1, q0, q1, q2⟩ := q
          rw [hR] at HP hok
          obtain ⟨p1, p2, p3, p4, p5, p6, p7, p8, p9, p10⟩ := hok
          exact formula_e_ok w B BT BC BP s a d ts cs ps hs ha hd ht hcs hps _ (hide rfl) b1 b2 b3 b4 a1 ts1 cs1 ps1 q0 q1 q2 (by omega) ⟨p9, p10⟩ (by simp at p7; omega) (by simp at p8; omega) HP h

theorem formula_any (hs : s.size ≤ 100) : ∀ n, SaidF B BT BC BP s n
  | 0 => fun w a d ts cs ps ha hd ht hcs hps hn h => absurd hn (by omega)
  | n + 1 => formula_step B BT BC BP s n hs (formula_any hs n)

end

end Go.Proofs.YthcppbmkacbbiaaGreat
