import Derived.Test.YthfjhjghohincaaEqa
import Derived.Test.YthfjhjghohincaaRefC
namespace Go.Proofs.Ythfjhjghohincaa.Rdg

/-- The byte at a place, 0 past the end. -/
def pkl (l : List UInt8) (a : Nat) : Int := match l[a]? with | some b => (b.toNat : Int) | none => 0

theorem pkl_lt {l : List UInt8} {a : Nat} (h : pkl l a ≠ 0) : a < l.length := by
  unfold pkl at h
  by_cases hl : a < l.length
  · exact hl
  · rw [List.getElem?_eq_none (by omega)] at h; exact absurd rfl h

theorem pkl_get {l : List UInt8} {a : Nat} {c : UInt8} (h : pkl l a = (c.toNat : Int)) (hc : c ≠ 0) : l[a]? = some c := by
  have h0 : c.toNat ≠ 0 := fun e => hc (UInt8.toNat_inj.1 (by rw [e]; rfl))
  have hl := pkl_lt (l := l) (a := a) (by omega)
  unfold pkl at h
  rw [List.getElem?_eq_getElem hl] at h ⊢
  simp at h
  have : l[a].toNat = c.toNat := by omega
  rw [UInt8.toNat_inj.1 this]

theorem cut_one {l : List UInt8} {a : Nat} {c : UInt8} (h : l[a]? = some c) : cut l a (a + 1) = [c] := by
  have hl : a < l.length := by
    by_cases hl : a < l.length
    · exact hl
    · rw [List.getElem?_eq_none (by omega)] at h; cases h
  rw [List.getElem?_eq_getElem hl] at h
  unfold cut
  rw [show a + 1 - a = 1 by omega, List.drop_eq_getElem_cons hl, Option.some.inj h]
  rfl

theorem cut_app (l : List UInt8) {x y z : Nat} (h1 : x ≤ y) (h2 : y ≤ z) : cut l x z = cut l x y ++ cut l y z := by
  unfold cut
  rw [show z - x = (y - x) + (z - y) by omega, List.take_add, List.drop_drop, show x + (y - x) = y by omega]

/-- Dead: E at p. -/
def Dd (σ : St) (E : Int) (p : Nat) : Prop := σ.E = E ∧ σ.a = p ∧ E ≠ 0

section
variable {pk : Nat → Int} {l : List UInt8} {E : Int} {p : Nat} {σ : St}

theorem Dd.one (h : Dd σ E p) (L : List Int) : rOne pk L σ = (σ, 0) := by unfold rOne; rw [if_neg (by rw [h.1]; exact h.2.2)]
theorem Dd.sees (h : Dd σ E p) (c : Int) : seesB pk σ c = false := by unfold seesB; rw [decide_eq_false (by rw [h.1]; exact h.2.2)]; rfl
theorem Dd.open (h : Dd σ E p) : Dd (rOpen pk σ) E p := by
  have hd : rDeep pk σ = σ := by unfold rDeep; rw [if_neg (fun e => by rw [h.sees] at e; exact absurd e.1 (by simp))]
  unfold rOpen; rw [hd, h.one]; exact h
theorem Dd.shut (h : Dd σ E p) : Dd (rShut pk σ) E p := by unfold rShut; rw [h.one]; exact h
theorem Dd.term (h : Dd σ E p) (n : Nat) : rTerm l pk n σ = (σ, 0) := by
  cases n with
  | zero => rfl
  | succ n =>
    unfold rTerm
    rw [h.one]
    have e : rIn pk (fun τ => (rTerm l pk n τ).1) 0 σ = σ := by unfold rIn; rw [if_neg (by decide), if_neg (by decide)]
    simp only [e]
    unfold rKeepT; rw [if_neg (by rw [h.1]; exact h.2.2)]
theorem Dd.formula (h : Dd σ E p) (n : Nat) : rFormula l pk n σ = σ := by
  cases n with
  | zero => rfl
  | succ n =>
    unfold rFormula
    rw [if_neg (by rw [h.sees]; simp), if_neg (by rw [h.sees, h.sees]; simp), if_neg (by rw [h.sees]; simp), h.term, h.one, h.term]
theorem Dd.keepT (h : Dd σ E p) (x : Nat) : rKeepT l x σ = (σ, 0) := by unfold rKeepT; rw [if_neg (by rw [h.1]; exact h.2.2)]
theorem Dd.keepC (h : Dd σ E p) (x : Nat) : rKeepC l x σ = σ := by unfold rKeepC; rw [if_neg (by rw [h.1]; exact h.2.2)]
end

/-- The two readings of a term, side by side. -/
def RelT (l : List UInt8) (a d : Nat) (ts : List Key) (C : List (List UInt8)) (r : RT) (x : St × Nat) : Prop :=
  match r with
  | .ok (a1, ts1, m) => x = (⟨a1, d, 0, texts ts1, C⟩, m) ∧ Inv ts1 ∧ ts <+: ts1 ∧ m < ts1.length ∧ (texts ts1).getD m [] = cut l a a1 ∧ a ≤ a1
  | .error (E, p) => Dd x.1 E p

/-- .. of what stands in brackets. -/
def RelA (l : List UInt8) (a d : Nat) (ts : List Key) (C : List (List UInt8)) (r : RT) (x : St) : Prop :=
  match r with
  | .ok (a1, ts1, m) => x = ⟨a1, d, 0, texts ts1, C⟩ ∧ Inv ts1 ∧ ts <+: ts1 ∧ m < ts1.length ∧ cut l a a1 = 40 :: ((texts ts1).getD m [] ++ [41]) ∧ a ≤ a1
  | .error (E, p) => Dd x E p
def RelA2 (l : List UInt8) (a d : Nat) (ts : List Key) (C : List (List UInt8)) (r : RT2) (x : St) : Prop :=
  match r with
  | .ok (a1, ts1, m, m2) => x = ⟨a1, d, 0, texts ts1, C⟩ ∧ Inv ts1 ∧ ts <+: ts1 ∧ m < ts1.length ∧ m2 < ts1.length ∧ cut l a a1 = 40 :: ((texts ts1).getD m [] ++ 44 :: ((texts ts1).getD m2 [] ++ [41])) ∧ a ≤ a1
  | .error (E, p) => Dd x E p

/-- Texts of earlier terms stay. -/
theorem texts_prefix {ts ts1 : List Key} (h : ts <+: ts1) : texts ts <+: texts ts1 := by
  obtain ⟨r, rfl⟩ := h
  suffices h : ∀ (r : List Key) (ts : List Key), texts ts <+: texts (ts ++ r) from h r ts
  intro r
  induction r with
  | nil => intro ts; simp
  | cons k r ih =>
    intro ts
    have h1 := ih (ts ++ [k])
    rw [texts_snoc] at h1
    have e : ts ++ k :: r = ts ++ [k] ++ r := by simp
    rw [e]
    exact (List.prefix_append _ _).trans h1

theorem getD_prefix {T U : List (List UInt8)} (h : T <+: U) {i : Nat} (hi : i < T.length) : U.getD i [] = T.getD i [] := by
  obtain ⟨r, rfl⟩ := h
  simp [List.getD_eq_getElem?_getD, List.getElem?_append_left hi]

section
variable {l : List UInt8} {C : List (List UInt8)}

theorem open_form {a d : Nat} {T : List (List UInt8)} (h : pkl l a ≠ 40) : Dd (rOpen (pkl l) ⟨a, d, 0, T, C⟩) 2 a := by
  have hd : rDeep (pkl l) ⟨a, d, 0, T, C⟩ = ⟨a, d, 0, T, C⟩ := by unfold rDeep; rw [if_neg (fun e => h (sees_live e.1).2)]
  unfold rOpen; rw [hd]
  unfold rOne rUp; rw [if_pos rfl, if_neg (by simpa using h)]
  exact ⟨rfl, rfl, by decide⟩
theorem open_deep {a : Nat} {T : List (List UInt8)} (h : pkl l a = 40) : Dd (rOpen (pkl l) ⟨a, 8, 0, T, C⟩) 3 a := by
  have hd : rDeep (pkl l) ⟨a, 8, 0, T, C⟩ = ⟨a, 8, 3, T, C⟩ := by unfold rDeep; rw [if_pos ⟨by simp [seesB, h], rfl⟩]
  unfold rOpen; rw [hd]
  unfold rOne rUp; rw [if_neg (show ¬ ((3 : Int) = 0) by decide)]
  exact ⟨rfl, rfl, by decide⟩
theorem open_yes {a d : Nat} {T : List (List UInt8)} (h : pkl l a = 40) (h8 : d ≠ 8) : rOpen (pkl l) ⟨a, d, 0, T, C⟩ = ⟨a + 1, d + 1, 0, T, C⟩ := by
  have hd : rDeep (pkl l) ⟨a, d, 0, T, C⟩ = ⟨a, d, 0, T, C⟩ := by unfold rDeep; rw [if_neg (fun e => h8 e.2)]
  unfold rOpen; rw [hd]
  unfold rOne rUp; rw [if_pos rfl, if_pos (by simpa using h)]
theorem one_no {a d : Nat} {T : List (List UInt8)} {L : List Int} (h : L.contains (pkl l a) = false) : Dd (rOne (pkl l) L ⟨a, d, 0, T, C⟩).1 2 a := by
  unfold rOne; rw [if_pos rfl, if_neg (by rw [h]; simp)]
  exact ⟨rfl, rfl, by decide⟩
theorem one_yes {a d : Nat} {T : List (List UInt8)} {L : List Int} (h : L.contains (pkl l a) = true) : rOne (pkl l) L ⟨a, d, 0, T, C⟩ = (⟨a + 1, d, 0, T, C⟩, pkl l a) := by
  unfold rOne; rw [if_pos rfl, if_pos h]
theorem shut_no {a d : Nat} {T : List (List UInt8)} (h : pkl l a ≠ 41) : Dd (rShut (pkl l) ⟨a, d, 0, T, C⟩) 2 a := by
  have := one_no (l := l) (C := C) (a := a) (d := d) (T := T) (L := [41]) (by simpa using h)
  unfold rShut; exact this
theorem shut_yes {a d : Nat} {T : List (List UInt8)} (h : pkl l a = 41) : rShut (pkl l) ⟨a, d + 1, 0, T, C⟩ = ⟨a + 1, d, 0, T, C⟩ := by
  unfold rShut; rw [one_yes (by simpa using h)]; rfl

/-- The claim of the two terms at one fuel. -/
def SameT (l : List UInt8) (C : List (List UInt8)) (n : Nat) : Prop :=
  ∀ (a d : Nat) (ts : List Key), a ≤ l.length → l.length < a + n → Inv ts → RelT l a d ts C (rdT (pkl l) n a d ts) (rTerm l (pkl l) n ⟨a, d, 0, texts ts, C⟩)

theorem same_arg1 {n a d : Nat} {ts : List Key} (hT : SameT l C n) (_ha : a ≤ l.length) (hn : l.length < a + 1 + n) (hi : Inv ts) :
    RelA l a d ts C (arg1 (pkl l) (rdT (pkl l) n) a d ts) (rShut (pkl l) (rTerm l (pkl l) n (rOpen (pkl l) ⟨a, d, 0, texts ts, C⟩)).1) := by
  unfold arg1
  by_cases h40 : pkl l a = 40
  · rw [if_pos h40]
    have hlt := pkl_lt (l := l) (a := a) (by omega)
    by_cases h8 : d = 8
    · rw [if_pos h8]
      subst h8
      have hd := open_deep (l := l) (C := C) (T := texts ts) h40
      rw [hd.term]; exact hd.shut
    · rw [if_neg h8, open_yes h40 h8]
      have h := hT (a + 1) (d + 1) ts (by omega) (by omega) hi
      cases hR : rdT (pkl l) n (a + 1) (d + 1) ts with
      | error Ep =>
        obtain ⟨E, p⟩ := Ep
        rw [hR] at h
        exact Dd.shut h
      | ok q =>
        obtain ⟨a1, ts1, m⟩ := q
        rw [hR] at h
        obtain ⟨h1, h2, h3, h4, h5, h6⟩ := h
        rw [h1]
        by_cases h41 : pkl l a1 = 41
        · simp only [h41, if_true]
          rw [shut_yes h41]
          refine ⟨rfl, h2, h3, h4, ?_, by omega⟩
          have e0 := cut_one (pkl_get (l := l) (a := a) (c := 40) h40 (by decide))
          have e1 := cut_one (pkl_get (l := l) (a := a1) (c := 41) h41 (by decide))
          rw [cut_app l (show a ≤ a + 1 by omega) (show a + 1 ≤ a1 + 1 by omega), cut_app l (show a + 1 ≤ a1 by omega) (show a1 ≤ a1 + 1 by omega), e0, e1, h5]
          simp
        · simp only [h41, if_false]
          exact shut_no h41
  · rw [if_neg h40]
    have hd := open_form (l := l) (C := C) (d := d) (T := texts ts) h40
    rw [hd.term]; exact hd.shut

theorem same_arg2 {n a d : Nat} {ts : List Key} (hT : SameT l C n) (_ha : a ≤ l.length) (hn : l.length < a + 1 + n) (hi : Inv ts) :
    RelA2 l a d ts C (arg2 (pkl l) (rdT (pkl l) n) a d ts) (rShut (pkl l) (rTerm l (pkl l) n (rOne (pkl l) [44] (rTerm l (pkl l) n (rOpen (pkl l) ⟨a, d, 0, texts ts, C⟩)).1).1).1) := by
  unfold arg2
  by_cases h40 : pkl l a = 40
  · rw [if_pos h40]
    have hlt := pkl_lt (l := l) (a := a) (by omega)
    by_cases h8 : d = 8
    · rw [if_pos h8]
      subst h8
      have hd := open_deep (l := l) (C := C) (T := texts ts) h40
      rw [hd.term, hd.one, hd.term]; exact hd.shut
    · rw [if_neg h8, open_yes h40 h8]
      have h := hT (a + 1) (d + 1) ts (by omega) (by omega) hi
      cases hR : rdT (pkl l) n (a + 1) (d + 1) ts with
      | error Ep =>
        obtain ⟨E, p⟩ := Ep
        rw [hR] at h
        have hd : Dd (rTerm l (pkl l) n ⟨a + 1, d + 1, 0, texts ts, C⟩).1 E p := h
        rw [hd.one, hd.term]; exact hd.shut
      | ok q =>
        obtain ⟨a1, ts1, m⟩ := q
        rw [hR] at h
        obtain ⟨h1, h2, h3, h4, h5, h6⟩ := h
        rw [h1]
        by_cases h44 : pkl l a1 = 44
        · have hlt1 := pkl_lt (l := l) (a := a1) (by omega)
          simp only [h44, if_true]
          rw [one_yes (by simpa using h44)]
          have g := hT (a1 + 1) (d + 1) ts1 (by omega) (by omega) h2
          cases hR2 : rdT (pkl l) n (a1 + 1) (d + 1) ts1 with
          | error Ep =>
            obtain ⟨E, p⟩ := Ep
            rw [hR2] at g
            exact Dd.shut g
          | ok q =>
            obtain ⟨a2, ts2, m2⟩ := q
            rw [hR2] at g
            obtain ⟨g1, g2, g3, g4, g5, g6⟩ := g
            simp only
            rw [g1]
            have hlen : ts1.length ≤ ts2.length := g3.length_le
            by_cases h41 : pkl l a2 = 41
            · simp only [h41, if_true]
              rw [shut_yes h41]
              refine ⟨rfl, g2, h3.trans g3, by omega, g4, ?_, by omega⟩
              have e0 := cut_one (pkl_get (l := l) (a := a) (c := 40) h40 (by decide))
              have e1 := cut_one (pkl_get (l := l) (a := a1) (c := 44) h44 (by decide))
              have e2 := cut_one (pkl_get (l := l) (a := a2) (c := 41) h41 (by decide))
              have em : (texts ts2).getD m [] = (texts ts1).getD m [] := getD_prefix (texts_prefix g3) (by rw [texts_length]; exact h4)
              rw [cut_app l (show a ≤ a + 1 by omega) (show a + 1 ≤ a2 + 1 by omega), cut_app l (show a + 1 ≤ a1 by omega) (show a1 ≤ a2 + 1 by omega), cut_app l (show a1 ≤ a1 + 1 by omega) (show a1 + 1 ≤ a2 + 1 by omega),
                cut_app l (show a1 + 1 ≤ a2 by omega) (show a2 ≤ a2 + 1 by omega), e0, e1, e2, em, h5, g5]
              simp
            · simp only [h41, if_false]
              exact shut_no h41
        · simp only [h44, if_false]
          have hd := one_no (l := l) (C := C) (a := a1) (d := d + 1) (T := texts ts1) (L := [44]) (by simpa using h44)
          rw [hd.term]; exact hd.shut
  · rw [if_neg h40]
    have hd := open_form (l := l) (C := C) (d := d) (T := texts ts) h40
    rw [hd.term, hd.one, hd.term]; exact hd.shut

theorem keep_ok {a a1 d : Nat} {ts1 : List Key} {k : Key} (h : Inv ts1) (hk : okKey ts1.length k) (hc : cut l a a1 = rend (texts ts1) k) :
    rKeepT l a ⟨a1, d, 0, texts ts1, C⟩ = (⟨a1, d, 0, texts (put ts1 k), C⟩, ts1.idxOf k) := by
  unfold rKeepT
  rw [if_pos rfl]
  simp only [hc]
  rw [(h.put hk).2, (h.find hk).2]

theorem idx_get {ts : List Key} (h : Inv ts) {k : Key} (hk : okKey ts.length k) : (texts (put ts k)).getD (ts.idxOf k) [] = rend (texts ts) k := by
  have hf := h.find hk
  rw [(h.put hk).2, ← hf.2]
  unfold Rdg.put
  by_cases hc : (texts ts).contains (rend (texts ts) k) = true
  · rw [if_pos hc]
    have hm : rend (texts ts) k ∈ texts ts := by simpa using hc
    have hi := List.idxOf_lt_length_of_mem hm
    rw [List.getD_eq_getElem?_getD, List.getElem?_eq_getElem hi]
    exact List.getElem_idxOf hi
  · rw [if_neg hc]
    have hm : ¬ rend (texts ts) k ∈ texts ts := by simpa using hc
    rw [List.idxOf_eq_length hm]
    simp [List.getD_eq_getElem?_getD]

theorem put_prefix {ts : List Key} (k : Key) : ts <+: put ts k := by
  unfold put; split
  · exact List.prefix_rfl
  · exact List.prefix_append _ _

theorem same_term : ∀ n, SameT l C n := by
  intro n
  induction n with
  | zero => intro a d ts ha hn; omega
  | succ n ih =>
    intro a d ts ha hn hi
    unfold rdT rTerm
    by_cases hnm : isName (pkl l a) = true
    · rw [if_pos hnm]
      have hb : 97 ≤ pkl l a ∧ pkl l a ≤ 101 := by simpa [isName] using hnm
      have hin : letters.contains (pkl l a) = true := by simp [letters]; omega
      rw [one_yes hin]
      have hIn : rIn (pkl l) (fun τ => (rTerm l (pkl l) n τ).1) (pkl l a) ⟨a + 1, d, 0, texts ts, C⟩ = ⟨a + 1, d, 0, texts ts, C⟩ := by unfold rIn; rw [if_neg (by omega), if_neg (by omega)]
      simp only [hIn]
      have hk : okKey ts.length (pkl l a, 0, 0) := Or.inl ⟨hb.1, hb.2, rfl, rfl⟩
      have hc : cut l a (a + 1) = rend (texts ts) (pkl l a, 0, 0) := by
        have hg := pkl_get (l := l) (a := a) (c := UInt8.ofNat (pkl l a).toNat) (by simp; omega) (fun e => by have := congrArg UInt8.toNat e; simp at this; omega)
        rw [cut_one hg]
        unfold rend; rw [if_neg (by simp only; omega), if_neg (by simp only; omega)]
      rw [keep_ok hi hk hc]
      exact ⟨rfl, (hi.put hk).1, put_prefix _, idx_put _ _, by rw [idx_get hi hk, hc], by omega⟩
    · rw [if_neg hnm]
      by_cases hf : pkl l a = 102
      · rw [if_pos hf]
        have hlt := pkl_lt (l := l) (a := a) (by omega)
        have hin : letters.contains (pkl l a) = true := by rw [hf]; decide
        rw [one_yes hin, hf]
        have hIn : rIn (pkl l) (fun τ => (rTerm l (pkl l) n τ).1) 102 ⟨a + 1, d, 0, texts ts, C⟩ = rShut (pkl l) (rTerm l (pkl l) n (rOpen (pkl l) ⟨a + 1, d, 0, texts ts, C⟩)).1 := by unfold rIn; rw [if_pos rfl]
        simp only [hIn]
        have h := same_arg1 (d := d) ih (a := a + 1) (by omega) (by omega) hi
        cases hR : arg1 (pkl l) (rdT (pkl l) n) (a + 1) d ts with
        | error Ep =>
          obtain ⟨E, p⟩ := Ep
          rw [hR] at h
          have hd : Dd _ E p := h
          show Dd (rKeepT l a _).1 E p
          rw [hd.keepT]; exact hd
        | ok q =>
          obtain ⟨a1, ts1, m⟩ := q
          rw [hR] at h
          obtain ⟨h1, h2, h3, h4, h5, h6⟩ := h
          rw [h1]
          have hk : okKey ts1.length (102, m, 0) := Or.inr (Or.inl ⟨rfl, h4, rfl⟩)
          have hc : cut l a a1 = rend (texts ts1) (102, m, 0) := by
            rw [cut_app l (show a ≤ a + 1 by omega) (show a + 1 ≤ a1 by omega), cut_one (pkl_get (l := l) (a := a) (c := 102) hf (by decide)), h5]
            rfl
          rw [keep_ok h2 hk hc]
          exact ⟨rfl, (h2.put hk).1, h3.trans (put_prefix _), idx_put _ _, by rw [idx_get h2 hk, hc], by omega⟩
      · rw [if_neg hf]
        by_cases hg : pkl l a = 103
        · rw [if_pos hg]
          have hlt := pkl_lt (l := l) (a := a) (by omega)
          have hin : letters.contains (pkl l a) = true := by rw [hg]; decide
          rw [one_yes hin, hg]
          have hIn : rIn (pkl l) (fun τ => (rTerm l (pkl l) n τ).1) 103 ⟨a + 1, d, 0, texts ts, C⟩ = rShut (pkl l) (rTerm l (pkl l) n (rOne (pkl l) [44] (rTerm l (pkl l) n (rOpen (pkl l) ⟨a + 1, d, 0, texts ts, C⟩)).1).1).1 := by
            unfold rIn; rw [if_neg (by decide), if_pos rfl]
          simp only [hIn]
          have h := same_arg2 (d := d) ih (a := a + 1) (by omega) (by omega) hi
          cases hR : arg2 (pkl l) (rdT (pkl l) n) (a + 1) d ts with
          | error Ep =>
            obtain ⟨E, p⟩ := Ep
            rw [hR] at h
            have hd : Dd _ E p := h
            show Dd (rKeepT l a _).1 E p
            rw [hd.keepT]; exact hd
          | ok q =>
            obtain ⟨a1, ts1, m, m2⟩ := q
            rw [hR] at h
            obtain ⟨h1, h2, h3, h4, h4', h5, h6⟩ := h
            rw [h1]
            have hk : okKey ts1.length (103, m, m2) := Or.inr (Or.inr ⟨rfl, h4, h4'⟩)
            have hc : cut l a a1 = rend (texts ts1) (103, m, m2) := by
              rw [cut_app l (show a ≤ a + 1 by omega) (show a + 1 ≤ a1 by omega), cut_one (pkl_get (l := l) (a := a) (c := 103) hg (by decide)), h5]
              rfl
            rw [keep_ok h2 hk hc]
            exact ⟨rfl, (h2.put hk).1, h3.trans (put_prefix _), idx_put _ _, by rw [idx_get h2 hk, hc], by omega⟩
        · rw [if_neg hg]
          have hin : letters.contains (pkl l a) = false := by
            have hb : ¬ (97 ≤ pkl l a ∧ pkl l a ≤ 101) := by simpa [isName] using hnm
            simp [letters]; omega
          have hd := one_no (l := l) (C := C) (a := a) (d := d) (T := texts ts) hin
          have h0 : (rOne (pkl l) letters ⟨a, d, 0, texts ts, C⟩).2 = 0 := by unfold rOne; rw [if_pos rfl, if_neg (by rw [hin]; simp)]
          rw [h0]
          have hIn : ∀ σ, rIn (pkl l) (fun τ => (rTerm l (pkl l) n τ).1) 0 σ = σ := fun σ => by unfold rIn; rw [if_neg (by decide), if_neg (by decide)]
          rw [hIn]
          show Dd (rKeepT l a _).1 2 a
          rw [hd.keepT]; exact hd
end

end Go.Proofs.Ythfjhjghohincaa.Rdg
