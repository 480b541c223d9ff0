import Derived.Test.YthfjhjghohincaaCandY
import Derived.Test.YthfjhjghohincaaCandK
import Derived.Test.YthfjhjghohincaaLawC
import Derived.Test.YthfjhjghohincaaEqL
namespace Go.Proofs.Ythfjhjghohincaa
open Go.RowKit Go.Maps Go.WideMaps
open Rdg (Key put St)

theorem rall_gd (s : ByteArray) : Rdg.Gd s.data.toList (rall s) := by
  unfold rall
  exact Rdg.gd_formula _ _ ⟨fun t ht => (by cases ht), fun t ht => (by cases ht), List.Pairwise.nil⟩

/-- What a right formula's reading comes to. -/
theorem right_parts (s : ByteArray) (hs : s.size ≤ 100) (h0 : (chk s).1 = 0) : ∃ ts cs, Rdg.rdF (pk s) (s.size + 1) 0 0 [] [] = .ok (s.size, ts, cs) ∧ ts.length ≤ 7 ∧ cs.length ≤ 4 ∧ Rdg.Inv ts ∧ Rdg.InvC ts cs ∧
    rall s = ⟨s.size, 0, 0, Rdg.texts ts, ctx ts cs⟩ ∧ (∀ t ∈ Rdg.texts ts, t.length ≤ 100) ∧ (∀ t ∈ ctx ts cs, t.length ≤ 100) ∧ cs.Nodup := by
  have h := rall_rel s
  have hg := rall_gd s
  have hok := Rdg.okF_rdF (pk := pk s) (N := s.size) (fun a h => pk_lt h) (s.size + 1) 0 0 [] [] (by omega)
  unfold chk at h0
  rw [if_neg (by omega)] at h0
  unfold Rdg.check at h0
  cases hR : Rdg.rdF (pk s) (s.size + 1) 0 0 [] [] with
  | error Ep =>
    obtain ⟨E, p⟩ := Ep
    rw [hR] at h h0
    obtain ⟨_, _, h3⟩ := h
    exact absurd h0 h3
  | ok q =>
    obtain ⟨a1, ts, cs⟩ := q
    rw [hR] at h h0 hok
    obtain ⟨h1, h2, h3⟩ := h
    obtain ⟨_, p2, _⟩ := hok
    simp only at h0
    have ha : a1 = s.size := by
      by_cases ha : a1 < s.size
      · rw [if_pos ha] at h0; simp at h0
      · omega
    subst ha
    have hmany : ¬ (7 < ts.length ∨ 4 < cs.length) := by
      intro hm
      rw [if_neg (by omega), if_pos hm] at h0; simp at h0
    rw [h1] at hg
    obtain ⟨g1, g2, g3⟩ := hg
    have hsz : s.data.toList.length = s.size := by simp
    refine ⟨ts, cs, rfl, by omega, by omega, h2, h3, h1, fun t ht => by have := g1 t ht; omega, fun t ht => by have := g2 t ht; omega, ?_⟩
    exact (List.pairwise_map.1 g3).imp (fun h e => h (congrArg _ e))

theorem keys_ok {ts : List Key} (h : Rdg.Inv ts) (hl : ts.length ≤ 7) : ∀ x ∈ ts, ∃ l, keyOf Try.prog 97 (kvT x) = some l := by
  intro x hx
  obtain ⟨i, hi, rfl⟩ := List.getElem_of_mem hx
  rcases h.key i hi with ⟨h1, h2, h3, h4⟩ | ⟨h1, h2, h3⟩ | ⟨h1, h2, h3⟩
  · exact keyT _ (by omega) (by omega) (by omega)
  · exact keyT _ (by omega) (by omega) (by omega)
  · exact keyT _ (by omega) (by omega) (by omega)

theorem claims_ok {ts : List Key} {cs : List (Int × Nat)} (h : Rdg.InvC ts cs) (hl : ts.length ≤ 7) : ∀ x ∈ cs, ∃ l, keyOf Try.prog 80 (kvC x) = some l := by
  intro x hx
  obtain ⟨h1, h2⟩ := h x hx
  exact keyC _ (by omega) (by omega)

set_option maxHeartbeats 400000 in
theorem parts_bad (w : World) (s : ByteArray) (hm : s.size ≤ maxLen) (hE : (chk s).1 ≠ 0) :
    Calls Try.prog 10 #[.string s] w fun e w' => e = .returned (.tuple #[.string ⟨#[]⟩, .int .i64 (chk s).1]) ∧ Below w.heap.size w w' := by
  have HR := hide (fun w => read_chk w s hm)
  generalize chk s = c at HR hE
  have hb : (c.1 != 0) = true := by simpa using hE
  go_enter Try.func10, Try.ntmps10
  go_wp2_with fail
  refine ((unhide HR) _).mono ?_
  rintro e w1 ⟨⟨v0, v1, rfl⟩, h1⟩
  go_wp2_with fail
  go_ret2
  exact ⟨rfl, h1.alloc h1.size _⟩

set_option maxHeartbeats 400000 in
theorem parts_ok (w : World) (s : ByteArray) (hs : s.size ≤ 100) (ts : List Key) (cs : List (Int × Nat)) (HR : Hid (Rdg.rdF (pk s) (s.size + 1) 0 0 [] [] = .ok (s.size, ts, cs))) (h7 : ts.length ≤ 7) (h4 : cs.length ≤ 4) (hi : Rdg.Inv ts) (hic : Rdg.InvC ts cs)
    (hT : ∀ t ∈ Rdg.texts ts, t.length ≤ 100) (hC : ∀ t ∈ ctx ts cs, t.length ≤ 100) (hnd : cs.Nodup) :
    Calls Try.prog 10 #[.string s] w fun e w' => e = .returned (.tuple #[str (spc (Rdg.texts ts) ++ 47 :: spc (ctx ts cs)), .int .i64 0]) ∧ Below w.heap.size w w' := by
  have HO := hide (read_ok w s hs s.size ts cs HR rfl h7 h4)
  have HLEN : ∀ i, ((Rdg.texts ts).getD i []).length ≤ 100 := fun i => by
    by_cases hlt : i < (Rdg.texts ts).length
    · exact hT _ (Rdg.getD_mem hlt)
    · rw [List.getD_eq_getElem?_getD, List.getElem?_eq_none (by omega)]; simp
  have HX : Hid (∀ w1 w2 : World, Below w1.heap.size w1 w2 → MapIs w1 97 (w.heap.size + 1) kvT ts → MapIs w1 80 (w.heap.size + 1 + 1) kvC cs → Calls Try.prog 20 #[.agg #[.map (some (w.heap.size + 1)), .map (some (w.heap.size + 1 + 1))]] w2 fun e w' => e = .returned (str (spc (Rdg.texts ts) ++ 47 :: spc (ctx ts cs))) ∧ Below w2.heap.size w2 w') := fun w1 w2 hb m1 m2 =>
    text_any _ _ ts cs w2 h7 hi.nodup (m1.kept (hb.block _ m1.lt)) (keys_ok hi h7) hi HLEN h4 hnd (m2.kept (hb.block _ m2.lt)) (claims_ok hic h7) hic hC
  unfold str at HX ⊢
  generalize spc (Rdg.texts ts) ++ 47 :: spc (ctx ts cs) = x at HX
  clear hT hC HLEN hnd hi hic HR
  go_enter Try.func10, Try.ntmps10
  go_wp2_with fail
  refine (unhide HO).mono ?_
  rintro e w1 ⟨rfl, h1, m1, m2⟩
  have M1 := hide m1
  have M2 := hide m2
  clear m1 m2 HO
  go_wp2_with fail
  refine (unhide HX w1 _ ((Below.refl _ w1).alloc (Nat.le_refl _) _) (unhide M1) (unhide M2)).mono ?_
  rintro e w3 ⟨rfl, h3⟩
  go_wp2_with fail
  go_ret2
  refine ⟨rfl, ?_⟩
  have hsz := h1.size
  exact (h1.alloc h1.size _).trans (h3.mono (by simp; omega))

end Go.Proofs.Ythfjhjghohincaa
