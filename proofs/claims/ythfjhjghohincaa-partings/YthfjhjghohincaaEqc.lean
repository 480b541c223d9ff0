import Derived.Test.YthfjhjghohincaaEqb
namespace Go.Proofs.Ythfjhjghohincaa.Rdg

/-- The text of a claim. -/
def rendC (T : List (List UInt8)) (c : Int × Nat) : List UInt8 := UInt8.ofNat c.1.toNat :: 40 :: (T.getD c.2 [] ++ [41])

def okC (n : Nat) (c : Int × Nat) : Prop := (c.1 = 80 ∨ c.1 = 81) ∧ c.2 < n

/-- What the claims so far are. -/
def InvC (ts : List Key) (cs : List (Int × Nat)) : Prop := ∀ c ∈ cs, okC ts.length c

theorem rendC_inj {ts : List Key} (h : Inv ts) {c c' : Int × Nat} (hc : okC ts.length c) (hc' : okC ts.length c') (e : rendC (texts ts) c = rendC (texts ts) c') : c = c' := by
  obtain ⟨x, m⟩ := c
  obtain ⟨x', m'⟩ := c'
  obtain ⟨h1, h2⟩ := hc
  obtain ⟨h1', h2'⟩ := hc'
  simp only at h1 h2 h1' h2'
  unfold rendC at e
  simp only [List.cons.injEq, true_and] at e
  obtain ⟨e1, e2⟩ := e
  have e3 := List.append_cancel_right e2
  have := nodup_getD h.nd (by rw [texts_length]; exact h2) (by rw [texts_length]; exact h2') e3
  have e4 := congrArg UInt8.toNat e1
  simp at e4
  subst this
  simp
  omega

theorem rendC_more {ts ts1 : List Key} (hp : ts <+: ts1) {c : Int × Nat} (h : okC ts.length c) : rendC (texts ts1) c = rendC (texts ts) c := by
  unfold rendC
  rw [getD_prefix (texts_prefix hp) (by rw [texts_length]; exact h.2)]

theorem ctexts_more {ts ts1 : List Key} (hp : ts <+: ts1) {cs : List (Int × Nat)} (h : InvC ts cs) : cs.map (rendC (texts ts1)) = cs.map (rendC (texts ts)) :=
  List.map_congr_left fun c hc => rendC_more hp (h c hc)

theorem InvC.more {ts ts1 : List Key} (hp : ts <+: ts1) {cs : List (Int × Nat)} (h : InvC ts cs) : InvC ts1 cs := fun c hc => ⟨(h c hc).1, Nat.lt_of_lt_of_le (h c hc).2 hp.length_le⟩

theorem findC {ts : List Key} (h : Inv ts) {cs : List (Int × Nat)} (hcs : InvC ts cs) {c : Int × Nat} (hc : okC ts.length c) : (cs.map (rendC (texts ts))).contains (rendC (texts ts) c) = cs.contains c := by
  rw [Bool.eq_iff_iff]
  simp only [List.contains_eq_mem, decide_eq_true_eq, List.mem_map]
  constructor
  · rintro ⟨c', hm, e⟩
    rw [← rendC_inj h (hcs c' hm) hc e]; exact hm
  · intro hm; exact ⟨c, hm, rfl⟩

theorem putC {ts : List Key} (h : Inv ts) {cs : List (Int × Nat)} (hcs : InvC ts cs) {c : Int × Nat} (hc : okC ts.length c) :
    put (cs.map (rendC (texts ts))) (rendC (texts ts) c) = (put cs c).map (rendC (texts ts)) ∧ InvC ts (put cs c) := by
  unfold put
  rw [findC h hcs hc]
  by_cases hm : cs.contains c = true
  · rw [if_pos hm, if_pos hm]; exact ⟨rfl, hcs⟩
  · rw [if_neg hm, if_neg hm]
    refine ⟨by simp, fun x hx => ?_⟩
    rcases List.mem_append.1 hx with hx | hx
    · exact hcs x hx
    · simp at hx; subst hx; exact hc

/-- The two readings of a formula, side by side. -/
def RelF (d : Nat) (r : RF) (x : St) : Prop :=
  match r with
  | .ok (a1, ts1, cs1) => x = ⟨a1, d, 0, texts ts1, cs1.map (rendC (texts ts1))⟩ ∧ Inv ts1 ∧ InvC ts1 cs1
  | .error (E, p) => Dd x E p

section
variable {l : List UInt8}

theorem same_eq {n a d : Nat} {ts : List Key} {cs : List (Int × Nat)} (ha : a ≤ l.length) (hn : l.length < a + n) (hi : Inv ts) (hcs : InvC ts cs) :
    RelF d (rdEq (pkl l) n a d ts cs) (rTerm l (pkl l) n (rOne (pkl l) [61] (rTerm l (pkl l) n ⟨a, d, 0, texts ts, cs.map (rendC (texts ts))⟩).1).1).1 := by
  unfold rdEq
  have h := same_term (l := l) (C := cs.map (rendC (texts ts))) n a d ts ha hn hi
  cases hR : rdT (pkl l) n a d ts with
  | error Ep =>
    obtain ⟨E, p⟩ := Ep
    rw [hR] at h
    have hd : Dd (rTerm l (pkl l) n ⟨a, d, 0, texts ts, cs.map (rendC (texts ts))⟩).1 E p := h
    rw [hd.one, hd.term]; exact hd
  | ok q =>
    obtain ⟨a1, ts1, m⟩ := q
    rw [hR] at h
    obtain ⟨h1, h2, h3, h4, h5, h6⟩ := h
    rw [h1]
    by_cases h61 : pkl l a1 = 61
    · have hlt := pkl_lt (l := l) (a := a1) (by omega)
      simp only [h61, if_true]
      rw [one_yes (by simpa using h61)]
      have g := same_term (l := l) (C := cs.map (rendC (texts ts))) n (a1 + 1) d ts1 (by omega) (by omega) h2
      cases hR2 : rdT (pkl l) n (a1 + 1) d ts1 with
      | error Ep =>
        obtain ⟨E, p⟩ := Ep
        rw [hR2] at g
        exact g
      | ok q =>
        obtain ⟨a2, ts2, m2⟩ := q
        rw [hR2] at g
        obtain ⟨g1, g2, g3, g4, g5, g6⟩ := g
        simp only
        rw [g1]
        refine ⟨?_, g2, hcs.more (h3.trans g3)⟩
        rw [ctexts_more (h3.trans g3) hcs]
    · simp only [h61, if_false]
      have hd := one_no (l := l) (C := cs.map (rendC (texts ts))) (a := a1) (d := d) (T := texts ts1) (L := [61]) (by simpa using h61)
      rw [hd.term]; exact hd

theorem sees_mk (c : Int) (a d : Nat) (T C : List (List UInt8)) : seesB (pkl l) ⟨a, d, 0, T, C⟩ c = decide (pkl l a = c) := by simp [seesB]

theorem same_formula : ∀ (n a d : Nat) (ts : List Key) (cs : List (Int × Nat)), a ≤ l.length → l.length < a + n → Inv ts → InvC ts cs →
    RelF d (rdF (pkl l) n a d ts cs) (rFormula l (pkl l) n ⟨a, d, 0, texts ts, cs.map (rendC (texts ts))⟩) := by
  intro n
  induction n with
  | zero => intro a d ts cs ha hn; omega
  | succ n ih =>
    intro a d ts cs ha hn hi hcs
    unfold rdF rFormula
    simp only [sees_mk]
    by_cases h33 : pkl l a = 33
    · have hlt := pkl_lt (l := l) (a := a) (by omega)
      rw [if_pos h33, if_pos (show decide (pkl l a = 33) = true by simpa using h33)]
      exact ih (a + 1) d ts cs (by omega) (by omega) hi hcs
    · rw [if_neg h33, if_neg (show ¬ (decide (pkl l a = 33) = true) by simpa using h33)]
      by_cases h40 : pkl l a = 40
      · have hlt := pkl_lt (l := l) (a := a) (by omega)
        rw [if_pos h40, if_neg (show ¬ ((decide (pkl l a = 80) || decide (pkl l a = 81)) = true) by simp; omega), if_pos (show decide (pkl l a = 40) = true by simpa using h40)]
        by_cases h8 : d = 8
        · rw [if_pos h8]
          subst h8
          have hd := open_deep (l := l) (C := cs.map (rendC (texts ts))) (T := texts ts) h40
          rw [hd.formula, hd.one, hd.formula]; exact hd.shut
        · rw [if_neg h8, open_yes h40 h8]
          have h := ih (a + 1) (d + 1) ts cs (by omega) (by omega) hi hcs
          have hok := okF_rdF (pk := pkl l) (N := l.length) (fun a h => pkl_lt h) n (a + 1) (d + 1) ts cs (by omega)
          cases hR : rdF (pkl l) n (a + 1) (d + 1) ts cs with
          | error Ep =>
            obtain ⟨E, p⟩ := Ep
            rw [hR] at h
            have hd : Dd (rFormula l (pkl l) n ⟨a + 1, d + 1, 0, texts ts, cs.map (rendC (texts ts))⟩) E p := h
            rw [hd.one, hd.formula]; exact hd.shut
          | ok q =>
            obtain ⟨a1, ts1, cs1⟩ := q
            rw [hR] at h hok
            obtain ⟨h1, h2, h3⟩ := h
            obtain ⟨o1, o2, _⟩ := hok
            rw [h1]
            by_cases hj : isJoint (pkl l a1) = true
            · have hlt1 := pkl_lt (l := l) (a := a1) (fun e => by rw [e] at hj; simp [isJoint] at hj)
              simp only [hj, if_true]
              have hjj : List.contains [38, 124, 62, 45] (pkl l a1) = true := by simpa [isJoint, or_assoc] using hj
              rw [one_yes hjj]
              have g := ih (a1 + 1) (d + 1) ts1 cs1 (by omega) (by omega) h2 h3
              cases hR2 : rdF (pkl l) n (a1 + 1) (d + 1) ts1 cs1 with
              | error Ep =>
                obtain ⟨E, p⟩ := Ep
                rw [hR2] at g
                exact Dd.shut g
              | ok q =>
                obtain ⟨a2, ts2, cs2⟩ := q
                rw [hR2] at g
                obtain ⟨g1, g2, g3⟩ := g
                simp only
                rw [g1]
                by_cases h41 : pkl l a2 = 41
                · simp only [h41, if_true]
                  rw [shut_yes h41]
                  exact ⟨rfl, g2, g3⟩
                · simp only [h41, if_false]
                  exact shut_no h41
            · simp only [hj]
              have hjj : List.contains [38, 124, 62, 45] (pkl l a1) = false := by simpa [isJoint, or_assoc] using hj
              have hd := one_no (l := l) (C := cs1.map (rendC (texts ts1))) (a := a1) (d := d + 1) (T := texts ts1) hjj
              rw [hd.formula]; exact hd.shut
      · rw [if_neg h40]
        by_cases h8 : pkl l a = 80 ∨ pkl l a = 81
        · have hlt := pkl_lt (l := l) (a := a) (by omega)
          rw [if_pos h8, if_pos (show (decide (pkl l a = 80) || decide (pkl l a = 81)) = true by simpa using h8)]
          have h := same_arg1 (l := l) (C := cs.map (rendC (texts ts))) (n := n + 1) (d := d) (same_term _) (a := a + 1) (by omega) (by omega) hi
          cases hR : arg1 (pkl l) (rdT (pkl l) (n + 1)) (a + 1) d ts with
          | error Ep =>
            obtain ⟨E, p⟩ := Ep
            rw [hR] at h
            have hd : Dd _ E p := h
            show Dd (rKeepC l a _) E p
            rw [hd.keepC]; exact hd
          | ok q =>
            obtain ⟨a1, ts1, m⟩ := q
            rw [hR] at h
            obtain ⟨h1, h2, h3, h4, h5, h6⟩ := h
            rw [h1]
            have hc : okC ts1.length (pkl l a, m) := ⟨h8, h4⟩
            have hcut : cut l a a1 = rendC (texts ts1) (pkl l a, m) := by
              have hg := pkl_get (l := l) (a := a) (c := UInt8.ofNat (pkl l a).toNat) (by simp; omega) (fun e => by have := congrArg UInt8.toNat e; simp at this; omega)
              rw [cut_app l (show a ≤ a + 1 by omega) (show a + 1 ≤ a1 by omega), cut_one hg, h5]
              rfl
            have hp := putC h2 (hcs.more h3) hc
            show RelF d (.ok (a1, ts1, put cs (pkl l a, m))) _
            refine ⟨?_, h2, hp.2⟩
            unfold rKeepC
            rw [if_pos rfl]
            simp only [hcut]
            rw [← ctexts_more h3 hcs, hp.1]
        · rw [if_neg h8, if_neg (show ¬ ((decide (pkl l a = 80) || decide (pkl l a = 81)) = true) by simpa using h8), if_neg (show ¬ (decide (pkl l a = 40) = true) by simpa using h40)]
          exact same_eq ha (by omega) hi hcs
end

end Go.Proofs.Ythfjhjghohincaa.Rdg
