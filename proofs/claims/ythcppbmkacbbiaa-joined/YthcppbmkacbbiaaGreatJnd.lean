import Derived.Test.YthcppbmkacbbiaaGreatAstM
namespace Go.Proofs.YthcppbmkacbbiaaGreat
open Rdg (Key)
open Ast

/-- Whether a formula's text is right hangs on its depth, its terms and its claims alone. -/
theorem chk_fm {s : ByteArray} {txt : List UInt8} {dep : Nat} {run : List Key → List (Int × Nat) → List Key × List (Int × Nat)} {val : List Int → List Bool → List Key → List (Int × Nat) → Bool} (h : FmOk txt dep run val) (e : s.data.toList = txt) (hs : s.size ≤ 100) :
    (chk s).1 = if dep ≤ 8 then (if 7 < (run [] []).1.length ∨ 4 < (run [] []).2.length then 4 else 0) else 3 := by
  have hl : txt.length = s.size := by rw [← e]; simp
  have hr := h.reads (pk s) s.size (s.size + 1) 0 0 [] [] [] (fun _ q => pk_lt q) (Nat.zero_le _) (by rw [← e]; exact pk_at s) (by omega) (by omega) ⟨List.nodup_nil, fun i hi => by simp at hi⟩
  have hls := Rdg.less_rdP (pk s) (s.size + 1) 0 0 [] [] []
  unfold chk
  rw [if_neg (by omega)]
  unfold Rdg.check
  rw [← hls]
  by_cases hd : dep ≤ 8
  · obtain ⟨ps1, m, hp, _⟩ := hr.1 (by omega)
    rw [hp, if_pos hd]
    show (if 0 + txt.length < s.size then _ else _ : Int × Nat).1 = _
    rw [if_neg (by omega)]
    split <;> rfl
  · obtain ⟨p, hp⟩ := hr.2 (by omega)
    rw [hp, if_neg hd]
    rfl

theorem kc_right {s : ByteArray} (h1 : s.size ≤ 100) (h2 : (chk s).1 = 0) : 0 ≤ kc s := by
  have e : ctell s = (((dAll s (rall s).T (rall s).C : Nat) : Int), 0) := if_pos ⟨h1, h2⟩
  unfold kc
  rw [e]
  simp

/-- Texts that are as long, as deep, and of the same terms and claims are right alike. -/
theorem kc_alike {X Y : ByteArray} {x y : List UInt8} {d : Nat} {r1 r2 : List Key → List (Int × Nat) → List Key × List (Int × Nat)} {v1 v2 : List Int → List Bool → List Key → List (Int × Nat) → Bool} (hx : FmOk x d r1 v1) (hy : FmOk y d r2 v2) (ex : X.data.toList = x) (ey : Y.data.toList = y)
    (hr : r1 [] [] = r2 [] []) (hl : X.size = Y.size) (h : 0 ≤ kc X) : 0 ≤ kc Y := by
  obtain ⟨⟨a, b⟩, _⟩ := kc_ok h
  refine kc_right (by omega) ?_
  rw [chk_fm hy ey (by omega), ← hr, ← chk_fm hx ex a]
  exact b

theorem kc_two {X Y : ByteArray} {x y : List UInt8} {d1 d2 : Nat} {r1 r2 : List Key → List (Int × Nat) → List Key × List (Int × Nat)} {v1 v2 : List Int → List Bool → List Key → List (Int × Nat) → Bool} (hx : FmOk x d1 r1 v1) (hy : FmOk y d2 r2 v2) (ex : X.data.toList = x) (ey : Y.data.toList = y)
    (hr : r1 [] [] = r2 [] []) (hv : ∀ cl hl, v1 cl hl [] [] = true → v2 cl hl [] [] = true) (h1 : 0 ≤ kc X) (h2 : 0 ≤ kc Y) : kc X ≤ kc Y := by
  obtain ⟨⟨a1, b1⟩, e1⟩ := kc_ok h1
  obtain ⟨⟨a2, b2⟩, e2⟩ := kc_ok h2
  rw [e1, e2, (ctell_fm hx ex a1 b1).1, (ctell_fm hy ey a2 b2).1, hr]
  have := cN_mono (r2 [] []).1 (r2 [] []).2 (fun cl hl => v1 cl hl [] []) (fun cl hl => v2 cl hl [] []) hv
  simp only
  omega

theorem kc_eq {X Y : ByteArray} {x y : List UInt8} {d1 d2 : Nat} {r1 r2 : List Key → List (Int × Nat) → List Key × List (Int × Nat)} {v1 v2 : List Int → List Bool → List Key → List (Int × Nat) → Bool} (hx : FmOk x d1 r1 v1) (hy : FmOk y d2 r2 v2) (ex : X.data.toList = x) (ey : Y.data.toList = y)
    (hr : r1 [] [] = r2 [] []) (hv : ∀ cl hl, v1 cl hl [] [] = v2 cl hl [] []) (h1 : 0 ≤ kc X) (h2 : 0 ≤ kc Y) : kc X = kc Y := by
  have q1 := kc_two hx hy ex ey hr (fun cl hl h => by rw [← hv]; exact h) h1 h2
  have q2 := kc_two hy hx ey ex hr.symm (fun cl hl h => by rw [hv]; exact h) h2 h1
  omega

/-- P6: what two formulas, joined, have to do with one another. -/
theorem joined_law (p q : ByteArray) (hp : (chk p).1 = 0) (hq : (chk q).1 = 0) (sp : p.size ≤ 100) (sq : q.size ≤ 100) :
    (0 ≤ kc (⟨#[40]⟩ ++ p ++ ⟨#[38]⟩ ++ q ++ ⟨#[41]⟩) → 0 ≤ kc (⟨#[33, 40, 33]⟩ ++ p ++ ⟨#[124, 33]⟩ ++ q ++ ⟨#[41]⟩) → kc (⟨#[40]⟩ ++ p ++ ⟨#[38]⟩ ++ q ++ ⟨#[41]⟩) = kc (⟨#[33, 40, 33]⟩ ++ p ++ ⟨#[124, 33]⟩ ++ q ++ ⟨#[41]⟩)) ∧
    (0 ≤ kc (⟨#[40]⟩ ++ p ++ ⟨#[124]⟩ ++ q ++ ⟨#[41]⟩) → 0 ≤ kc (⟨#[33, 40, 33]⟩ ++ p ++ ⟨#[38, 33]⟩ ++ q ++ ⟨#[41]⟩) → kc (⟨#[40]⟩ ++ p ++ ⟨#[124]⟩ ++ q ++ ⟨#[41]⟩) = kc (⟨#[33, 40, 33]⟩ ++ p ++ ⟨#[38, 33]⟩ ++ q ++ ⟨#[41]⟩)) ∧
    (0 ≤ kc (⟨#[40]⟩ ++ p ++ ⟨#[62]⟩ ++ q ++ ⟨#[41]⟩) → 0 ≤ kc (⟨#[40, 33]⟩ ++ p ++ ⟨#[124]⟩ ++ q ++ ⟨#[41]⟩) → kc (⟨#[40]⟩ ++ p ++ ⟨#[62]⟩ ++ q ++ ⟨#[41]⟩) = kc (⟨#[40, 33]⟩ ++ p ++ ⟨#[124]⟩ ++ q ++ ⟨#[41]⟩)) ∧
    (0 ≤ kc (⟨#[40]⟩ ++ p ++ ⟨#[45]⟩ ++ q ++ ⟨#[41]⟩) → 0 ≤ kc (⟨#[40, 40]⟩ ++ p ++ ⟨#[62]⟩ ++ q ++ ⟨#[41, 38, 40]⟩ ++ q ++ ⟨#[62]⟩ ++ p ++ ⟨#[41, 41]⟩) → kc (⟨#[40]⟩ ++ p ++ ⟨#[45]⟩ ++ q ++ ⟨#[41]⟩) = kc (⟨#[40, 40]⟩ ++ p ++ ⟨#[62]⟩ ++ q ++ ⟨#[41, 38, 40]⟩ ++ q ++ ⟨#[62]⟩ ++ p ++ ⟨#[41, 41]⟩)) ∧
    (0 ≤ kc (⟨#[40]⟩ ++ p ++ ⟨#[38]⟩ ++ q ++ ⟨#[41]⟩) → 0 ≤ kc (⟨#[40]⟩ ++ p ++ ⟨#[124]⟩ ++ q ++ ⟨#[41]⟩) → kc (⟨#[40]⟩ ++ p ++ ⟨#[38]⟩ ++ q ++ ⟨#[41]⟩) ≤ kc (⟨#[40]⟩ ++ p ++ ⟨#[124]⟩ ++ q ++ ⟨#[41]⟩)) := by
  obtain ⟨d1, r1, v1, f⟩ := fm_of p sp hp
  obtain ⟨d2, r2, v2, g⟩ := fm_of q sq hq
  generalize hF : p.data.toList = F at f
  generalize hG : q.data.toList = G at g
  have nf := fm_no f
  have ng := fm_no g
  obtain ⟨s1, s2⟩ := f.stab [] [] (r2 (r1 [] []).1 (r1 [] []).2).1 (r2 (r1 [] []).1 (r1 [] []).2).2 (g.grow _ _).1 (g.grow _ _).2
  obtain ⟨s3, s4⟩ := g.stab (r1 [] []).1 (r1 [] []).2 (r2 (r1 [] []).1 (r1 [] []).2).1 (r2 (r1 [] []).1 (r1 [] []).2).2 (List.prefix_refl _) (List.prefix_refl _)
  refine ⟨?_, ?_, ?_, ?_, ?_⟩
  · refine kc_eq (fm_jn (c := 38) (by decide) f g) (fm_no (fm_jn (c := 124) (by decide) nf ng)) (by simp [hF, hG]) (by simp [hF, hG]) rfl fun cl hl => ?_
    (try simp only)
    cases v1 cl hl [] [] <;> cases v2 cl hl (r1 [] []).1 (r1 [] []).2 <;> rfl
  · refine kc_eq (fm_jn (c := 124) (by decide) f g) (fm_no (fm_jn (c := 38) (by decide) nf ng)) (by simp [hF, hG]) (by simp [hF, hG]) rfl fun cl hl => ?_
    (try simp only)
    cases v1 cl hl [] [] <;> cases v2 cl hl (r1 [] []).1 (r1 [] []).2 <;> rfl
  · refine kc_eq (fm_jn (c := 62) (by decide) f g) (fm_jn (c := 124) (by decide) nf g) (by simp [hF, hG]) (by simp [hF, hG]) rfl fun cl hl => ?_
    (try simp only)
    cases v1 cl hl [] [] <;> cases v2 cl hl (r1 [] []).1 (r1 [] []).2 <;> rfl
  · refine kc_eq (fm_jn (c := 45) (by decide) f g) (fm_jn (c := 38) (by decide) (fm_jn (c := 62) (by decide) f g) (fm_jn (c := 62) (by decide) g f)) (by simp [hF, hG]) (by simp [hF, hG]) ?_ fun cl hl => ?_
    · (try simp only)
      rw [s3]
      (try simp only)
      rw [s1]
    · (try simp only)
      rw [s3]
      (try simp only)
      rw [s4, s2]
      cases v1 cl hl [] [] <;> cases v2 cl hl (r1 [] []).1 (r1 [] []).2 <;> rfl
  · refine kc_two (fm_jn (c := 38) (by decide) f g) (fm_jn (c := 124) (by decide) f g) (by simp [hF, hG]) (by simp [hF, hG]) rfl fun cl hl => ?_
    (try simp only)
    cases v1 cl hl [] [] <;> cases v2 cl hl (r1 [] []).1 (r1 [] []).2 <;> decide

/-- Joined by any sign two formulas are right alike; so are the two with three nots. -/
theorem joined_alike (p q : ByteArray) (hp : (chk p).1 = 0) (hq : (chk q).1 = 0) (sp : p.size ≤ 100) (sq : q.size ≤ 100) :
    (∀ c c' : UInt8, Rdg.isJoint (c.toNat : Int) = true → Rdg.isJoint (c'.toNat : Int) = true → 0 ≤ kc (⟨#[40]⟩ ++ p ++ ⟨#[c]⟩ ++ q ++ ⟨#[41]⟩) → 0 ≤ kc (⟨#[40]⟩ ++ p ++ ⟨#[c']⟩ ++ q ++ ⟨#[41]⟩)) ∧
    (∀ c c' : UInt8, Rdg.isJoint (c.toNat : Int) = true → Rdg.isJoint (c'.toNat : Int) = true → 0 ≤ kc (⟨#[33, 40, 33]⟩ ++ p ++ ⟨#[c, 33]⟩ ++ q ++ ⟨#[41]⟩) → 0 ≤ kc (⟨#[33, 40, 33]⟩ ++ p ++ ⟨#[c', 33]⟩ ++ q ++ ⟨#[41]⟩)) := by
  obtain ⟨d1, r1, v1, f⟩ := fm_of p sp hp
  obtain ⟨d2, r2, v2, g⟩ := fm_of q sq hq
  generalize hF : p.data.toList = F at f
  generalize hG : q.data.toList = G at g
  refine ⟨fun c c' hc hc' h => ?_, fun c c' hc hc' h => ?_⟩
  · exact kc_alike (fm_jn hc f g) (fm_jn hc' f g) (by simp [hF, hG]) (by simp [hF, hG]) rfl (by simp only [ByteArray.size_append]; rfl) h
  · exact kc_alike (fm_no (fm_jn hc (fm_no f) (fm_no g))) (fm_no (fm_jn hc' (fm_no f) (fm_no g))) (by simp [hF, hG]) (by simp [hF, hG]) rfl (by simp only [ByteArray.size_append]; rfl) h

end Go.Proofs.YthcppbmkacbbiaaGreat
