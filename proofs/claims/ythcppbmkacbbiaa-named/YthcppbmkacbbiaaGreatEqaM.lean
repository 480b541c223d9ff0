import Derived.Test.YthcppbmkacbbiaaGreatRefPM
import Derived.Test.YthcppbmkacbbiaaGreatRefTsM
namespace Go.Proofs.YthcppbmkacbbiaaGreat.Rdg

/-- The text of a term, by its key and the texts of the terms ahead of it. -/
def rend (T : List (List UInt8)) (k : Key) : List UInt8 :=
  if k.1 = 102 then 102 :: 40 :: (T.getD k.2.1 [] ++ [41])
  else if k.1 = 103 then 103 :: 40 :: (T.getD k.2.1 [] ++ 44 :: (T.getD k.2.2 [] ++ [41]))
  else [UInt8.ofNat k.1.toNat]

/-- The texts of the terms, by their keys. -/
def texts (ts : List Key) : List (List UInt8) := ts.foldl (fun T k => T ++ [rend T k]) []

theorem texts_snoc (ts : List Key) (k : Key) : texts (ts ++ [k]) = texts ts ++ [rend (texts ts) k] := by
  unfold texts; rw [List.foldl_append]; rfl

theorem texts_length (ts : List Key) : (texts ts).length = ts.length := by
  suffices h : ∀ (ts : List Key) (T : List (List UInt8)), (ts.foldl (fun T k => T ++ [rend T k]) T).length = T.length + ts.length by
    have := h ts []; simpa [texts] using this
  intro ts
  induction ts with
  | nil => intro T; simp
  | cons k r ih => intro T; simp only [List.foldl_cons, ih]; simp; omega

/-- A key that may stand behind n terms. -/
def okKey (n : Nat) (k : Key) : Prop :=
  (97 ≤ k.1 ∧ k.1 ≤ 101 ∧ k.2.1 = 0 ∧ k.2.2 = 0) ∨ (k.1 = 102 ∧ k.2.1 < n ∧ k.2.2 = 0) ∨ (k.1 = 103 ∧ k.2.1 < n ∧ k.2.2 < n)

theorem okKey.mono {n m : Nat} {k : Key} (h : okKey n k) (hm : n ≤ m) : okKey m k := by
  rcases h with h | ⟨h1, h2, h3⟩ | ⟨h1, h2, h3⟩
  · exact Or.inl h
  · exact Or.inr (Or.inl ⟨h1, by omega, h3⟩)
  · exact Or.inr (Or.inr ⟨h1, by omega, by omega⟩)

/-- With more texts behind the key's text is the same. -/
theorem rend_more {T R : List (List UInt8)} {k : Key} (h : okKey T.length k) : rend (T ++ R) k = rend T k := by
  rcases h with ⟨h1, h2, h3, h4⟩ | ⟨h1, h2, h3⟩ | ⟨h1, h2, h3⟩
  · unfold rend; rw [if_neg (by omega), if_neg (by omega), if_neg (by omega), if_neg (by omega)]
  · unfold rend; rw [if_pos h1, if_pos h1]; simp [List.getD_eq_getElem?_getD, List.getElem?_append_left h2]
  · unfold rend; rw [if_neg (by omega), if_pos h1, if_neg (by omega), if_pos h1]; simp [List.getD_eq_getElem?_getD, List.getElem?_append_left h2, List.getElem?_append_left h3]

/-- Goes past a term: what is left. -/
def skip : Nat → List UInt8 → Option (List UInt8)
  | 0, _ => none
  | _ + 1, [] => none
  | n + 1, c :: r =>
    if 97 ≤ c ∧ c ≤ 101 then some r
    else if c = 102 then
      match r with
      | 40 :: r1 => (match skip n r1 with | some (41 :: r2) => some r2 | _ => none)
      | _ => none
    else if c = 103 then
      match r with
      | 40 :: r1 => (match skip n r1 with | some (44 :: r2) => (match skip n r2 with | some (41 :: r3) => some r3 | _ => none) | _ => none)
      | _ => none
    else none

/-- A term's text: whoever goes past it has what stands behind it. -/
def IsT (t : List UInt8) : Prop := ∃ n, ∀ m, n ≤ m → ∀ r, skip m (t ++ r) = some r

theorem IsT.cancel {t u x y : List UInt8} (ht : IsT t) (hu : IsT u) (h : t ++ x = u ++ y) : t = u ∧ x = y := by
  obtain ⟨n, h1⟩ := ht
  obtain ⟨m, h2⟩ := hu
  have a1 := h1 (n + m) (by omega) x
  have a2 := h2 (n + m) (by omega) y
  rw [h, a2] at a1
  have e : y = x := Option.some.inj a1
  subst e
  exact ⟨List.append_cancel_right h, rfl⟩

theorem isT_name {c : UInt8} (h : 97 ≤ c ∧ c ≤ 101) : IsT [c] := by
  refine ⟨1, fun m hm r => ?_⟩
  obtain ⟨k, rfl⟩ : ∃ k, m = k + 1 := ⟨m - 1, by omega⟩
  simp [skip, h]

theorem isT_f {t : List UInt8} (h : IsT t) : IsT (102 :: 40 :: (t ++ [41])) := by
  obtain ⟨n, h1⟩ := h
  refine ⟨n + 1, fun m hm r => ?_⟩
  obtain ⟨k, rfl⟩ : ∃ k, m = k + 1 := ⟨m - 1, by omega⟩
  have e : (102 :: 40 :: (t ++ [41])) ++ r = 102 :: 40 :: (t ++ (41 :: r)) := by simp
  rw [e]
  unfold skip
  rw [if_neg (by decide), if_pos rfl]
  simp only [h1 k (by omega)]

theorem isT_g {t u : List UInt8} (ht : IsT t) (hu : IsT u) : IsT (103 :: 40 :: (t ++ 44 :: (u ++ [41]))) := by
  obtain ⟨n, h1⟩ := ht
  obtain ⟨n2, h2⟩ := hu
  refine ⟨n + n2 + 1, fun m hm r => ?_⟩
  obtain ⟨k, rfl⟩ : ∃ k, m = k + 1 := ⟨m - 1, by omega⟩
  have e : (103 :: 40 :: (t ++ 44 :: (u ++ [41]))) ++ r = 103 :: 40 :: (t ++ (44 :: (u ++ (41 :: r)))) := by simp
  rw [e]
  unfold skip
  rw [if_neg (by decide), if_neg (by decide), if_pos rfl]
  simp only [h1 k (by omega), h2 k (by omega)]

/-- What the terms so far are: good keys, each once; texts of terms, each once. -/
structure Inv (ts : List Key) : Prop where
  key : ∀ i (h : i < ts.length), okKey i ts[i]
  nd : (texts ts).Nodup
  tm : ∀ t ∈ texts ts, IsT t
  get : ∀ i (h : i < ts.length), (texts ts).getD i [] = rend (texts ts) ts[i]

theorem inv_nil : Inv [] := ⟨fun i h => absurd h (by simp), by simp [texts], by simp [texts], fun i h => absurd h (by simp)⟩

theorem getD_mem {T : List (List UInt8)} {i : Nat} (h : i < T.length) : T.getD i [] ∈ T := by
  rw [List.getD_eq_getElem?_getD, List.getElem?_eq_getElem h]; exact List.getElem_mem h

theorem nodup_inj {α : Type} {T : List α} (hn : T.Nodup) {i j : Nat} (hi : i < T.length) (hj : j < T.length) (h : T[i] = T[j]) : i = j := by
  rcases Nat.lt_trichotomy i j with hlt | he | hlt
  · exact absurd h (List.pairwise_iff_getElem.1 hn i j hi hj hlt)
  · exact he
  · exact absurd h.symm (List.pairwise_iff_getElem.1 hn j i hj hi hlt)

theorem nodup_getD {T : List (List UInt8)} (hn : T.Nodup) {i j : Nat} (hi : i < T.length) (hj : j < T.length) (h : T.getD i [] = T.getD j []) : i = j := by
  rw [List.getD_eq_getElem?_getD, List.getElem?_eq_getElem hi, List.getD_eq_getElem?_getD, List.getElem?_eq_getElem hj] at h
  exact nodup_inj hn hi hj h

theorem isT_rend {T : List (List UInt8)} (hT : ∀ t ∈ T, IsT t) {k : Key} (h : okKey T.length k) : IsT (rend T k) := by
  rcases h with ⟨h1, h2, h3, h4⟩ | ⟨h1, h2, h3⟩ | ⟨h1, h2, h3⟩
  · unfold rend; rw [if_neg (by omega), if_neg (by omega)]
    apply isT_name
    have e : (UInt8.ofNat k.1.toNat).toNat = k.1.toNat := by simp; omega
    constructor
    · rw [UInt8.le_iff_toNat_le, e]; simp; omega
    · rw [UInt8.le_iff_toNat_le, e]; simp; omega
  · unfold rend; rw [if_pos h1]; exact isT_f (hT _ (getD_mem h2))
  · unfold rend; rw [if_neg (by omega), if_pos h1]; exact isT_g (hT _ (getD_mem h2)) (hT _ (getD_mem h3))

/-- Other keys, other texts. -/
theorem rend_inj {T : List (List UInt8)} (hn : T.Nodup) (hT : ∀ t ∈ T, IsT t) {k k' : Key} (h : okKey T.length k) (h' : okKey T.length k') (e : rend T k = rend T k') : k = k' := by
  obtain ⟨c, x, y⟩ := k
  obtain ⟨c', x', y'⟩ := k'
  rcases h with ⟨h1, h2, h3, h4⟩ | ⟨h1, h2, h3⟩ | ⟨h1, h2, h3⟩ <;> rcases h' with ⟨g1, g2, g3, g4⟩ | ⟨g1, g2, g3⟩ | ⟨g1, g2, g3⟩ <;> simp only at h1 h2 h3 g1 g2 g3
  · simp only at h4 g4
    unfold rend at e
    rw [if_neg (by simp only; omega), if_neg (by simp only; omega), if_neg (by simp only; omega), if_neg (by simp only; omega)] at e
    have e1 : UInt8.ofNat c.toNat = UInt8.ofNat c'.toNat := by simpa using e
    have e2 := congrArg UInt8.toNat e1
    simp at e2
    have : c = c' := by omega
    subst this; subst h3; subst h4; subst g3; subst g4; rfl
  · exfalso; unfold rend at e; rw [if_neg (by simp only; omega), if_neg (by simp only; omega), if_pos (by simp only; omega)] at e; simp at e
  · exfalso; unfold rend at e; rw [if_neg (by simp only; omega), if_neg (by simp only; omega), if_neg (by simp only; omega), if_pos (by simp only; omega)] at e; simp at e
  · exfalso; unfold rend at e; rw [if_pos (by simp only; omega), if_neg (by simp only; omega), if_neg (by simp only; omega)] at e; simp at e
  · unfold rend at e; rw [if_pos h1, if_pos g1] at e
    simp only [List.cons.injEq, true_and] at e
    have e2 := List.append_cancel_right e
    have := nodup_getD hn h2 g2 e2
    subst this; subst h1; subst h3; subst g1; subst g3; rfl
  · exfalso; unfold rend at e; rw [if_pos (by simp only; omega), if_neg (by simp only; omega), if_pos (by simp only; omega)] at e; simp at e
  · exfalso; unfold rend at e; rw [if_neg (by simp only; omega), if_pos (by simp only; omega), if_neg (by simp only; omega), if_neg (by simp only; omega)] at e; simp at e
  · exfalso; unfold rend at e; rw [if_neg (by simp only; omega), if_pos (by simp only; omega), if_pos (by simp only; omega)] at e; simp at e
  · unfold rend at e; rw [if_neg (by simp only; omega), if_pos h1, if_neg (by simp only; omega), if_pos g1] at e
    simp only [List.cons.injEq, true_and] at e
    obtain ⟨e2, e3⟩ := IsT.cancel (hT _ (getD_mem h2)) (hT _ (getD_mem g2)) e
    simp only [List.cons.injEq, true_and] at e3
    have e4 := List.append_cancel_right e3
    have := nodup_getD hn h2 g2 e2
    have := nodup_getD hn h3 g3 e4
    subst h1; subst g1; simp; omega

/-- The keys and their texts are found alike. -/
theorem Inv.find {ts : List Key} (h : Inv ts) {k : Key} (hk : okKey ts.length k) : (texts ts).contains (rend (texts ts) k) = ts.contains k ∧ (texts ts).idxOf (rend (texts ts) k) = ts.idxOf k := by
  have hl := texts_length ts
  have hk' : okKey (texts ts).length k := by rw [hl]; exact hk
  have back : ∀ i (hi : i < ts.length), (texts ts)[i]'(by omega) = rend (texts ts) k → ts[i] = k := fun i hi e => by
    have g := h.get i hi
    rw [List.getD_eq_getElem?_getD, List.getElem?_eq_getElem (by omega)] at g
    simp at g
    exact rend_inj h.nd h.tm ((h.key i hi).mono (by omega)) hk' (g.symm.trans e)
  have fwd : ∀ i (hi : i < ts.length), ts[i] = k → (texts ts)[i]'(by omega) = rend (texts ts) k := fun i hi e => by
    have g := h.get i hi
    rw [List.getD_eq_getElem?_getD, List.getElem?_eq_getElem (by omega)] at g
    simp at g
    rw [g, e]
  have hm : rend (texts ts) k ∈ texts ts ↔ k ∈ ts := by
    constructor
    · intro hmem
      obtain ⟨i, hi, e⟩ := List.getElem_of_mem hmem
      rw [← back i (by omega) e]; exact List.getElem_mem _
    · intro hmem
      obtain ⟨i, hi, e⟩ := List.getElem_of_mem hmem
      rw [← fwd i hi e]; exact List.getElem_mem _
  refine ⟨by rw [Bool.eq_iff_iff]; simpa using hm, ?_⟩
  by_cases hmem : k ∈ ts
  · have hi := List.idxOf_lt_length_of_mem hmem
    have e1 := fwd _ hi (List.getElem_idxOf hi)
    have hmem' := hm.2 hmem
    have hj := List.idxOf_lt_length_of_mem hmem'
    have e2 := List.getElem_idxOf hj
    exact nodup_inj h.nd hj (by omega) (e2.trans e1.symm)
  · rw [List.idxOf_eq_length hmem, List.idxOf_eq_length (fun e => hmem (hm.1 e)), hl]

theorem Inv.put {ts : List Key} (h : Inv ts) {k : Key} (hk : okKey ts.length k) : Inv (put ts k) ∧ texts (put ts k) = Rdg.put (texts ts) (rend (texts ts) k) := by
  have hf := h.find hk
  have hl := texts_length ts
  unfold Rdg.put
  rw [hf.1]
  by_cases hc : ts.contains k = true
  · rw [if_pos hc, if_pos hc]; exact ⟨h, rfl⟩
  · rw [if_neg hc, if_neg hc]
    refine ⟨⟨?_, ?_, ?_, ?_⟩, texts_snoc ts k⟩
    · intro i hi
      by_cases hlt : i < ts.length
      · rw [List.getElem_append_left hlt]; exact h.key i hlt
      · have : i = ts.length := by simp at hi; omega
        subst this; simpa using hk
    · rw [texts_snoc]
      refine List.nodup_append.2 ⟨h.nd, by simp, fun a ha b hb => ?_⟩
      simp at hb
      subst hb
      intro e
      subst e
      have hcc : (texts ts).contains (rend (texts ts) k) = true := by simpa using ha
      rw [hf.1] at hcc
      exact hc hcc
    · intro t ht
      rw [texts_snoc] at ht
      rcases List.mem_append.1 ht with ht | ht
      · exact h.tm t ht
      · simp at ht; subst ht; exact isT_rend h.tm (by rw [hl]; exact hk)
    · intro i hi
      rw [texts_snoc]
      by_cases hlt : i < ts.length
      · rw [List.getElem_append_left hlt, rend_more ((h.key i hlt).mono (by omega)), ← h.get i hlt]
        simp [List.getD_eq_getElem?_getD, List.getElem?_append_left (show i < (texts ts).length by omega)]
      · have : i = ts.length := by simp at hi; omega
        subst this
        rw [rend_more (by simpa [hl] using hk)]
        simp [List.getD_eq_getElem?_getD, ← hl]

end Go.Proofs.YthcppbmkacbbiaaGreat.Rdg

namespace Go.Proofs.YthcppbmkacbbiaaGreat.Rdg

/-- The byte at a place, 0 past the end. -/
def pkl (l : List UInt8) (a : Nat) : Int := match l[a]? with | some b => (b.toNat : Int) | none => 0

theorem pkl_lt {l : List UInt8} {a : Nat} (h : pkl l a ≠ 0) : a < l.length := by
  unfold pkl at h
  by_cases hl : a < l.length
  · exact hl
  · rw [List.getElem?_eq_none (by omega)] at h; exact absurd rfl h

theorem pkl_get {l : List UInt8} {a : Nat} {c : UInt8} (h : pkl l a = (c.toNat : Int)) (hc : c ≠ 0) : l[a]? = some c := by
  have h0 : c.toNat ≠ 0 := fun e => hc (UInt8.toNat_inj.1 (by rw [e]; rfl))
  have hl := pkl_lt (l := l) (a := a) (by omega)
  unfold pkl at h
  rw [List.getElem?_eq_getElem hl] at h ⊢
  simp at h
  have : l[a].toNat = c.toNat := by omega
  rw [UInt8.toNat_inj.1 this]

theorem cut_one {l : List UInt8} {a : Nat} {c : UInt8} (h : l[a]? = some c) : cut l a (a + 1) = [c] := by
  have hl : a < l.length := by
    by_cases hl : a < l.length
    · exact hl
    · rw [List.getElem?_eq_none (by omega)] at h; cases h
  rw [List.getElem?_eq_getElem hl] at h
  unfold cut
  rw [show a + 1 - a = 1 by omega, List.drop_eq_getElem_cons hl, Option.some.inj h]
  rfl

theorem cut_app (l : List UInt8) {x y z : Nat} (h1 : x ≤ y) (h2 : y ≤ z) : cut l x z = cut l x y ++ cut l y z := by
  unfold cut
  rw [show z - x = (y - x) + (z - y) by omega, List.take_add, List.drop_drop, show x + (y - x) = y by omega]

/-- Dead: E at p. -/
def Dd (σ : St) (E : Int) (p : Nat) : Prop := σ.E = E ∧ σ.a = p ∧ E ≠ 0

section
variable {pk : Nat → Int} {l : List UInt8} {E : Int} {p : Nat} {σ : St}

theorem Dd.one (h : Dd σ E p) (L : List Int) : rOne pk L σ = (σ, 0) := by unfold rOne; rw [if_neg (by rw [h.1]; exact h.2.2)]
theorem Dd.sees (h : Dd σ E p) (c : Int) : seesB pk σ c = false := by unfold seesB; rw [decide_eq_false (by rw [h.1]; exact h.2.2)]; rfl
theorem Dd.open (h : Dd σ E p) : Dd (rOpen pk σ) E p := by
  have hd : rDeep pk σ = σ := by unfold rDeep; rw [if_neg (fun e => by rw [h.sees] at e; exact absurd e.1 (by simp))]
  unfold rOpen; rw [hd, h.one]; exact h
theorem Dd.shut (h : Dd σ E p) : Dd (rShut pk σ) E p := by unfold rShut; rw [h.one]; exact h
theorem Dd.term (h : Dd σ E p) (n : Nat) : rTerm l pk n σ = (σ, 0) := by
  cases n with
  | zero => rfl
  | succ n =>
    unfold rTerm
    rw [h.one]
    have e : rIn pk (fun τ => (rTerm l pk n τ).1) 0 σ = σ := by unfold rIn; rw [if_neg (by decide), if_neg (by decide)]
    simp only [e]
    unfold rKeepT; rw [if_neg (by rw [h.1]; exact h.2.2)]
theorem Dd.formula (h : Dd σ E p) (n : Nat) : rFormula l pk n σ = σ := by
  cases n with
  | zero => rfl
  | succ n =>
    unfold rFormula
    rw [if_neg (by rw [h.sees]; simp), if_neg (by rw [h.sees, h.sees]; simp), if_neg (by rw [h.sees]; simp), h.term, h.one, h.term]
theorem Dd.keepT (h : Dd σ E p) (x : Nat) : rKeepT l x σ = (σ, 0) := by unfold rKeepT; rw [if_neg (by rw [h.1]; exact h.2.2)]
theorem Dd.keepC (h : Dd σ E p) (x : Nat) : rKeepC l x σ = σ := by unfold rKeepC; rw [if_neg (by rw [h.1]; exact h.2.2)]
end

/-- The two readings of a term, side by side. -/
def RelT (l : List UInt8) (a d : Nat) (ts : List Key) (C : List (List UInt8)) (r : RT) (x : St × Nat) : Prop :=
  match r with
  | .ok (a1, ts1, m) => x = (⟨a1, d, 0, texts ts1, C⟩, m) ∧ Inv ts1 ∧ ts <+: ts1 ∧ m < ts1.length ∧ (texts ts1).getD m [] = cut l a a1 ∧ a ≤ a1
  | .error (E, p) => Dd x.1 E p

/-- .. of what stands in brackets. -/
def RelA (l : List UInt8) (a d : Nat) (ts : List Key) (C : List (List UInt8)) (r : RT) (x : St) : Prop :=
  match r with
  | .ok (a1, ts1, m) => x = ⟨a1, d, 0, texts ts1, C⟩ ∧ Inv ts1 ∧ ts <+: ts1 ∧ m < ts1.length ∧ cut l a a1 = 40 :: ((texts ts1).getD m [] ++ [41]) ∧ a ≤ a1
  | .error (E, p) => Dd x E p
def RelA2 (l : List UInt8) (a d : Nat) (ts : List Key) (C : List (List UInt8)) (r : RT2) (x : St) : Prop :=
  match r with
  | .ok (a1, ts1, m, m2) => x = ⟨a1, d, 0, texts ts1, C⟩ ∧ Inv ts1 ∧ ts <+: ts1 ∧ m < ts1.length ∧ m2 < ts1.length ∧ cut l a a1 = 40 :: ((texts ts1).getD m [] ++ 44 :: ((texts ts1).getD m2 [] ++ [41])) ∧ a ≤ a1
  | .error (E, p) => Dd x E p

/-- Texts of earlier terms stay. -/
theorem texts_prefix {ts ts1 : List Key} (h : ts <+: ts1) : texts ts <+: texts ts1 := by
  obtain ⟨r, rfl⟩ := h
  suffices h : ∀ (r : List Key) (ts : List Key), texts ts <+: texts (ts ++ r) from h r ts
  intro r
  induction r with
  | nil => intro ts; simp
  | cons k r ih =>
    intro ts
    have h1 := ih (ts ++ [k])
    rw [texts_snoc] at h1
    have e : ts ++ k :: r = ts ++ [k] ++ r := by simp
    rw [e]
    exact (List.prefix_append _ _).trans h1

theorem getD_prefix {T U : List (List UInt8)} (h : T <+: U) {i : Nat} (hi : i < T.length) : U.getD i [] = T.getD i [] := by
  obtain ⟨r, rfl⟩ := h
  simp [List.getD_eq_getElem?_getD, List.getElem?_append_left hi]

section
variable {l : List UInt8} {C : List (List UInt8)}

theorem open_form {a d : Nat} {T : List (List UInt8)} (h : pkl l a ≠ 40) : Dd (rOpen (pkl l) ⟨a, d, 0, T, C⟩) 2 a := by
  have hd : rDeep (pkl l) ⟨a, d, 0, T, C⟩ = ⟨a, d, 0, T, C⟩ := by unfold rDeep; rw [if_neg (fun e => h (sees_live e.1).2)]
  unfold rOpen; rw [hd]
  unfold rOne rUp; rw [if_pos rfl, if_neg (by simpa using h)]
  exact ⟨rfl, rfl, by decide⟩
theorem open_deep {a : Nat} {T : List (List UInt8)} (h : pkl l a = 40) : Dd (rOpen (pkl l) ⟨a, 8, 0, T, C⟩) 3 a := by
  have hd : rDeep (pkl l) ⟨a, 8, 0, T, C⟩ = ⟨a, 8, 3, T, C⟩ := by unfold rDeep; rw [if_pos ⟨by simp [seesB, h], rfl⟩]
  unfold rOpen; rw [hd]
  unfold rOne rUp; rw [if_neg (show ¬ ((3 : Int) = 0) by decide)]
  exact ⟨rfl, rfl, by decide⟩
theorem open_yes {a d : Nat} {T : List (List UInt8)} (h : pkl l a = 40) (h8 : d ≠ 8) : rOpen (pkl l) ⟨a, d, 0, T, C⟩ = ⟨a + 1, d + 1, 0, T, C⟩ := by
  have hd : rDeep (pkl l) ⟨a, d, 0, T, C⟩ = ⟨a, d, 0, T, C⟩ := by unfold rDeep; rw [if_neg (fun e => h8 e.2)]
  unfold rOpen; rw [hd]
  unfold rOne rUp; rw [if_pos rfl, if_pos (by simpa using h)]
theorem one_no {a d : Nat} {T : List (List UInt8)} {L : List Int} (h : L.contains (pkl l a) = false) : Dd (rOne (pkl l) L ⟨a, d, 0, T, C⟩).1 2 a := by
  unfold rOne; rw [if_pos rfl, if_neg (by rw [h]; simp)]
  exact ⟨rfl, rfl, by decide⟩
theorem one_yes {a d : Nat} {T : List (List UInt8)} {L : List Int} (h : L.contains (pkl l a) = true) : rOne (pkl l) L ⟨a, d, 0, T, C⟩ = (⟨a + 1, d, 0, T, C⟩, pkl l a) := by
  unfold rOne; rw [if_pos rfl, if_pos h]
theorem shut_no {a d : Nat} {T : List (List UInt8)} (h : pkl l a ≠ 41) : Dd (rShut (pkl l) ⟨a, d, 0, T, C⟩) 2 a := by
  have := one_no (l := l) (C := C) (a := a) (d := d) (T := T) (L := [41]) (by simpa using h)
  unfold rShut; exact this
theorem shut_yes {a d : Nat} {T : List (List UInt8)} (h : pkl l a = 41) : rShut (pkl l) ⟨a, d + 1, 0, T, C⟩ = ⟨a + 1, d, 0, T, C⟩ := by
  unfold rShut; rw [one_yes (by simpa using h)]; rfl

/-- The claim of the two terms at one fuel. -/
def SameT (l : List UInt8) (C : List (List UInt8)) (n : Nat) : Prop :=
  ∀ (a d : Nat) (ts : List Key), a ≤ l.length → l.length < a + n → Inv ts → RelT l a d ts C (rdT (pkl l) n a d ts) (rTerm l (pkl l) n ⟨a, d, 0, texts ts, C⟩)

theorem same_arg1 {n a d : Nat} {ts : List Key} (hT : SameT l C n) (_ha : a ≤ l.length) (hn : l.length < a + 1 + n) (hi : Inv ts) :
    RelA l a d ts C (arg1 (pkl l) (rdT (pkl l) n) a d ts) (rShut (pkl l) (rTerm l (pkl l) n (rOpen (pkl l) ⟨a, d, 0, texts ts, C⟩)).1) := by
  unfold arg1
  by_cases h40 : pkl l a = 40
  · rw [if_pos h40]
    have hlt := pkl_lt (l := l) (a := a) (by omega)
    by_cases h8 : d = 8
    · rw [if_pos h8]
      subst h8
      have hd := open_deep (l := l) (C := C) (T := texts ts) h40
      rw [hd.term]; exact hd.shut
    · rw [if_neg h8, open_yes h40 h8]
      have h := hT (a + 1) (d + 1) ts (by omega) (by omega) hi
      cases hR : rdT (pkl l) n (a + 1) (d + 1) ts with
      | error Ep =>
        obtain ⟨E, p⟩ := Ep
        rw [hR] at h
        exact Dd.shut h
      | ok q =>
        obtain ⟨a1, ts1, m⟩ := q
        rw [hR] at h
        obtain ⟨h1, h2, h3, h4, h5, h6⟩ := h
        rw [h1]
        by_cases h41 : pkl l a1 = 41
        · simp only [h41, if_true]
          rw [shut_yes h41]
          refine ⟨rfl, h2, h3, h4, ?_, by omega⟩
          have e0 := cut_one (pkl_get (l := l) (a := a) (c := 40) h40 (by decide))
          have e1 := cut_one (pkl_get (l := l) (a := a1) (c := 41) h41 (by decide))
          rw [cut_app l (show a ≤ a + 1 by omega) (show a + 1 ≤ a1 + 1 by omega), cut_app l (show a + 1 ≤ a1 by omega) (show a1 ≤ a1 + 1 by omega), e0, e1, h5]
          simp
        · simp only [h41, if_false]
          exact shut_no h41
  · rw [if_neg h40]
    have hd := open_form (l := l) (C := C) (d := d) (T := texts ts) h40
    rw [hd.term]; exact hd.shut

theorem same_arg2 {n a d : Nat} {ts : List Key} (hT : SameT l C n) (_ha : a ≤ l.length) (hn : l.length < a + 1 + n) (hi : Inv ts) :
    RelA2 l a d ts C (arg2 (pkl l) (rdT (pkl l) n) a d ts) (rShut (pkl l) (rTerm l (pkl l) n (rOne (pkl l) [44] (rTerm l (pkl l) n (rOpen (pkl l) ⟨a, d, 0, texts ts, C⟩)).1).1).1) := by
  unfold arg2
  by_cases h40 : pkl l a = 40
  · rw [if_pos h40]
    have hlt := pkl_lt (l := l) (a := a) (by omega)
    by_cases h8 : d = 8
    · rw [if_pos h8]
      subst h8
      have hd := open_deep (l := l) (C := C) (T := texts ts) h40
      rw [hd.term, hd.one, hd.term]; exact hd.shut
    · rw [if_neg h8, open_yes h40 h8]
      have h := hT (a + 1) (d + 1) ts (by omega) (by omega) hi
      cases hR : rdT (pkl l) n (a + 1) (d + 1) ts with
      | error Ep =>
        obtain ⟨E, p⟩ := Ep
        rw [hR] at h
        have hd : Dd (rTerm l (pkl l) n ⟨a + 1, d + 1, 0, texts ts, C⟩).1 E p := h
        rw [hd.one, hd.term]; exact hd.shut
      | ok q =>
        obtain ⟨a1, ts1, m⟩ := q
        rw [hR] at h
        obtain ⟨h1, h2, h3, h4, h5, h6⟩ := h
        rw [h1]
        by_cases h44 : pkl l a1 = 44
        · have hlt1 := pkl_lt (l := l) (a := a1) (by omega)
          simp only [h44, if_true]
          rw [one_yes (by simpa using h44)]
          have g := hT (a1 + 1) (d + 1) ts1 (by omega) (by omega) h2
          cases hR2 : rdT (pkl l) n (a1 + 1) (d + 1) ts1 with
          | error Ep =>
            obtain ⟨E, p⟩ := Ep
            rw [hR2] at g
            exact Dd.shut g
          | ok q =>
            obtain ⟨a2, ts2, m2⟩ := q
            rw [hR2] at g
            obtain ⟨g1, g2, g3, g4, g5, g6⟩ := g
            simp only
            rw [g1]
            have hlen : ts1.length ≤ ts2.length := g3.length_le
            by_cases h41 : pkl l a2 = 41
            · simp only [h41, if_true]
              rw [shut_yes h41]
              refine ⟨rfl, g2, h3.trans g3, by omega, g4, ?_, by omega⟩
              have e0 := cut_one (pkl_get (l := l) (a := a) (c := 40) h40 (by decide))
              have e1 := cut_one (pkl_get (l := l) (a := a1) (c := 44) h44 (by decide))
              have e2 := cut_one (pkl_get (l := l) (a := a2) (c := 41) h41 (by decide))
              have em : (texts ts2).getD m [] = (texts ts1).getD m [] := getD_prefix (texts_prefix g3) (by rw [texts_length]; exact h4)
              rw [cut_app l (show a ≤ a + 1 by omega) (show a + 1 ≤ a2 + 1 by omega), cut_app l (show a + 1 ≤ a1 by omega) (show a1 ≤ a2 + 1 by omega), cut_app l (show a1 ≤ a1 + 1 by omega) (show a1 + 1 ≤ a2 + 1 by omega),
                cut_app l (show a1 + 1 ≤ a2 by omega) (show a2 ≤ a2 + 1 by omega), e0, e1, e2, em, h5, g5]
              simp
            · simp only [h41, if_false]
              exact shut_no h41
        · simp only [h44, if_false]
          have hd := one_no (l := l) (C := C) (a := a1) (d := d + 1) (T := texts ts1) (L := [44]) (by simpa using h44)
          rw [hd.term]; exact hd.shut
  · rw [if_neg h40]
    have hd := open_form (l := l) (C := C) (d := d) (T := texts ts) h40
    rw [hd.term, hd.one, hd.term]; exact hd.shut

theorem keep_ok {a a1 d : Nat} {ts1 : List Key} {k : Key} (h : Inv ts1) (hk : okKey ts1.length k) (hc : cut l a a1 = rend (texts ts1) k) :
    rKeepT l a ⟨a1, d, 0, texts ts1, C⟩ = (⟨a1, d, 0, texts (put ts1 k), C⟩, ts1.idxOf k) := by
  unfold rKeepT
  rw [if_pos rfl]
  simp only [hc]
  rw [(h.put hk).2, (h.find hk).2]

theorem idx_get {ts : List Key} (h : Inv ts) {k : Key} (hk : okKey ts.length k) : (texts (put ts k)).getD (ts.idxOf k) [] = rend (texts ts) k := by
  have hf := h.find hk
  rw [(h.put hk).2, ← hf.2]
  unfold Rdg.put
  by_cases hc : (texts ts).contains (rend (texts ts) k) = true
  · rw [if_pos hc]
    have hm : rend (texts ts) k ∈ texts ts := by simpa using hc
    have hi := List.idxOf_lt_length_of_mem hm
    rw [List.getD_eq_getElem?_getD, List.getElem?_eq_getElem hi]
    exact List.getElem_idxOf hi
  · rw [if_neg hc]
    have hm : ¬ rend (texts ts) k ∈ texts ts := by simpa using hc
    rw [List.idxOf_eq_length hm]
    simp [List.getD_eq_getElem?_getD]

theorem put_prefix {ts : List Key} (k : Key) : ts <+: put ts k := by
  unfold put; split
  · exact List.prefix_rfl
  · exact List.prefix_append _ _

theorem same_term : ∀ n, SameT l C n := by
  intro n
  induction n with
  | zero => intro a d ts ha hn; omega
  | succ n ih =>
    intro a d ts ha hn hi
    unfold rdT rTerm
    by_cases hnm : isName (pkl l a) = true
    · rw [if_pos hnm]
      have hb : 97 ≤ pkl l a ∧ pkl l a ≤ 101 := by simpa [isName] using hnm
      have hin : letters.contains (pkl l a) = true := by simp [letters]; omega
      rw [one_yes hin]
      have hIn : rIn (pkl l) (fun τ => (rTerm l (pkl l) n τ).1) (pkl l a) ⟨a + 1, d, 0, texts ts, C⟩ = ⟨a + 1, d, 0, texts ts, C⟩ := by unfold rIn; rw [if_neg (by omega), if_neg (by omega)]
      simp only [hIn]
      have hk : okKey ts.length (pkl l a, 0, 0) := Or.inl ⟨hb.1, hb.2, rfl, rfl⟩
      have hc : cut l a (a + 1) = rend (texts ts) (pkl l a, 0, 0) := by
        have hg := pkl_get (l := l) (a := a) (c := UInt8.ofNat (pkl l a).toNat) (by simp; omega) (fun e => by have := congrArg UInt8.toNat e; simp at this; omega)
        rw [cut_one hg]
        unfold rend; rw [if_neg (by simp only; omega), if_neg (by simp only; omega)]
      rw [keep_ok hi hk hc]
      exact ⟨rfl, (hi.put hk).1, put_prefix _, idx_put _ _, by rw [idx_get hi hk, hc], by omega⟩
    · rw [if_neg hnm]
      by_cases hf : pkl l a = 102
      · rw [if_pos hf]
        have hlt := pkl_lt (l := l) (a := a) (by omega)
        have hin : letters.contains (pkl l a) = true := by rw [hf]; decide
        rw [one_yes hin, hf]
        have hIn : rIn (pkl l) (fun τ => (rTerm l (pkl l) n τ).1) 102 ⟨a + 1, d, 0, texts ts, C⟩ = rShut (pkl l) (rTerm l (pkl l) n (rOpen (pkl l) ⟨a + 1, d, 0, texts ts, C⟩)).1 := by unfold rIn; rw [if_pos rfl]
        simp only [hIn]
        have h := same_arg1 (d := d) ih (a := a + 1) (by omega) (by omega) hi
        cases hR : arg1 (pkl l) (rdT (pkl l) n) (a + 1) d ts with
        | error Ep =>
          obtain ⟨E, p⟩ := Ep
          rw [hR] at h
          have hd : Dd _ E p := h
          show Dd (rKeepT l a _).1 E p
          rw [hd.keepT]; exact hd
        | ok q =>
          obtain ⟨a1, ts1, m⟩ := q
          rw [hR] at h
          obtain ⟨h1, h2, h3, h4, h5, h6⟩ := h
          rw [h1]
          have hk : okKey ts1.length (102, m, 0) := Or.inr (Or.inl ⟨rfl, h4, rfl⟩)
          have hc : cut l a a1 = rend (texts ts1) (102, m, 0) := by
            rw [cut_app l (show a ≤ a + 1 by omega) (show a + 1 ≤ a1 by omega), cut_one (pkl_get (l := l) (a := a) (c := 102) hf (by decide)), h5]
            rfl
          rw [keep_ok h2 hk hc]
          exact ⟨rfl, (h2.put hk).1, h3.trans (put_prefix _), idx_put _ _, by rw [idx_get h2 hk, hc], by omega⟩
      · rw [if_neg hf]
        by_cases hg : pkl l a = 103
        · rw [if_pos hg]
          have hlt := pkl_lt (l := l) (a := a) (by omega)
          have hin : letters.contains (pkl l a) = true := by rw [hg]; decide
          rw [one_yes hin, hg]
          have hIn : rIn (pkl l) (fun τ => (rTerm l (pkl l) n τ).1) 103 ⟨a + 1, d, 0, texts ts, C⟩ = rShut (pkl l) (rTerm l (pkl l) n (rOne (pkl l) [44] (rTerm l (pkl l) n (rOpen (pkl l) ⟨a + 1, d, 0, texts ts, C⟩)).1).1).1 := by
            unfold rIn; rw [if_neg (by decide), if_pos rfl]
          simp only [hIn]
          have h := same_arg2 (d := d) ih (a := a + 1) (by omega) (by omega) hi
          cases hR : arg2 (pkl l) (rdT (pkl l) n) (a + 1) d ts with
          | error Ep =>
            obtain ⟨E, p⟩ := Ep
            rw [hR] at h
            have hd : Dd _ E p := h
            show Dd (rKeepT l a _).1 E p
            rw [hd.keepT]; exact hd
          | ok q =>
            obtain ⟨a1, ts1, m, m2⟩ := q
            rw [hR] at h
            obtain ⟨h1, h2, h3, h4, h4', h5, h6⟩ := h
            rw [h1]
            have hk : okKey ts1.length (103, m, m2) := Or.inr (Or.inr ⟨rfl, h4, h4'⟩)
            have hc : cut l a a1 = rend (texts ts1) (103, m, m2) := by
              rw [cut_app l (show a ≤ a + 1 by omega) (show a + 1 ≤ a1 by omega), cut_one (pkl_get (l := l) (a := a) (c := 103) hg (by decide)), h5]
              rfl
            rw [keep_ok h2 hk hc]
            exact ⟨rfl, (h2.put hk).1, h3.trans (put_prefix _), idx_put _ _, by rw [idx_get h2 hk, hc], by omega⟩
        · rw [if_neg hg]
          have hin : letters.contains (pkl l a) = false := by
            have hb : ¬ (97 ≤ pkl l a ∧ pkl l a ≤ 101) := by simpa [isName] using hnm
            simp [letters]; omega
          have hd := one_no (l := l) (C := C) (a := a) (d := d) (T := texts ts) hin
          have h0 : (rOne (pkl l) letters ⟨a, d, 0, texts ts, C⟩).2 = 0 := by unfold rOne; rw [if_pos rfl, if_neg (by rw [hin]; simp)]
          rw [h0]
          have hIn : ∀ σ, rIn (pkl l) (fun τ => (rTerm l (pkl l) n τ).1) 0 σ = σ := fun σ => by unfold rIn; rw [if_neg (by decide), if_neg (by decide)]
          rw [hIn]
          show Dd (rKeepT l a _).1 2 a
          rw [hd.keepT]; exact hd
end

end Go.Proofs.YthcppbmkacbbiaaGreat.Rdg

namespace Go.Proofs.YthcppbmkacbbiaaGreat.Rdg

/-- The text of a claim. -/
def rendC (T : List (List UInt8)) (c : Int × Nat) : List UInt8 := UInt8.ofNat c.1.toNat :: 40 :: (T.getD c.2 [] ++ [41])

def okC (n : Nat) (c : Int × Nat) : Prop := (c.1 = 80 ∨ c.1 = 81) ∧ c.2 < n

/-- What the claims so far are. -/
def InvC (ts : List Key) (cs : List (Int × Nat)) : Prop := ∀ c ∈ cs, okC ts.length c

theorem rendC_inj {ts : List Key} (h : Inv ts) {c c' : Int × Nat} (hc : okC ts.length c) (hc' : okC ts.length c') (e : rendC (texts ts) c = rendC (texts ts) c') : c = c' := by
  obtain ⟨x, m⟩ := c
  obtain ⟨x', m'⟩ := c'
  obtain ⟨h1, h2⟩ := hc
  obtain ⟨h1', h2'⟩ := hc'
  simp only at h1 h2 h1' h2'
  unfold rendC at e
  simp only [List.cons.injEq, true_and] at e
  obtain ⟨e1, e2⟩ := e
  have e3 := List.append_cancel_right e2
  have := nodup_getD h.nd (by rw [texts_length]; exact h2) (by rw [texts_length]; exact h2') e3
  have e4 := congrArg UInt8.toNat e1
  simp at e4
  subst this
  simp
  omega

theorem rendC_more {ts ts1 : List Key} (hp : ts <+: ts1) {c : Int × Nat} (h : okC ts.length c) : rendC (texts ts1) c = rendC (texts ts) c := by
  unfold rendC
  rw [getD_prefix (texts_prefix hp) (by rw [texts_length]; exact h.2)]

theorem ctexts_more {ts ts1 : List Key} (hp : ts <+: ts1) {cs : List (Int × Nat)} (h : InvC ts cs) : cs.map (rendC (texts ts1)) = cs.map (rendC (texts ts)) :=
  List.map_congr_left fun c hc => rendC_more hp (h c hc)

theorem InvC.more {ts ts1 : List Key} (hp : ts <+: ts1) {cs : List (Int × Nat)} (h : InvC ts cs) : InvC ts1 cs := fun c hc => ⟨(h c hc).1, Nat.lt_of_lt_of_le (h c hc).2 hp.length_le⟩

theorem findC {ts : List Key} (h : Inv ts) {cs : List (Int × Nat)} (hcs : InvC ts cs) {c : Int × Nat} (hc : okC ts.length c) : (cs.map (rendC (texts ts))).contains (rendC (texts ts) c) = cs.contains c := by
  rw [Bool.eq_iff_iff]
  simp only [List.contains_eq_mem, decide_eq_true_eq, List.mem_map]
  constructor
  · rintro ⟨c', hm, e⟩
    rw [← rendC_inj h (hcs c' hm) hc e]; exact hm
  · intro hm; exact ⟨c, hm, rfl⟩

theorem putC {ts : List Key} (h : Inv ts) {cs : List (Int × Nat)} (hcs : InvC ts cs) {c : Int × Nat} (hc : okC ts.length c) :
    put (cs.map (rendC (texts ts))) (rendC (texts ts) c) = (put cs c).map (rendC (texts ts)) ∧ InvC ts (put cs c) := by
  unfold put
  rw [findC h hcs hc]
  by_cases hm : cs.contains c = true
  · rw [if_pos hm, if_pos hm]; exact ⟨rfl, hcs⟩
  · rw [if_neg hm, if_neg hm]
    refine ⟨by simp, fun x hx => ?_⟩
    rcases List.mem_append.1 hx with hx | hx
    · exact hcs x hx
    · simp at hx; subst hx; exact hc

/-- The two readings of a formula, side by side. -/
def RelF (d : Nat) (r : RF) (x : St) : Prop :=
  match r with
  | .ok (a1, ts1, cs1) => x = ⟨a1, d, 0, texts ts1, cs1.map (rendC (texts ts1))⟩ ∧ Inv ts1 ∧ InvC ts1 cs1
  | .error (E, p) => Dd x E p

section
variable {l : List UInt8}

theorem same_eq {n a d : Nat} {ts : List Key} {cs : List (Int × Nat)} (ha : a ≤ l.length) (hn : l.length < a + n) (hi : Inv ts) (hcs : InvC ts cs) :
    RelF d (rdEq (pkl l) n a d ts cs) (rTerm l (pkl l) n (rOne (pkl l) [61] (rTerm l (pkl l) n ⟨a, d, 0, texts ts, cs.map (rendC (texts ts))⟩).1).1).1 := by
  unfold rdEq
  have h := same_term (l := l) (C := cs.map (rendC (texts ts))) n a d ts ha hn hi
  cases hR : rdT (pkl l) n a d ts with
  | error Ep =>
    obtain ⟨E, p⟩ := Ep
    rw [hR] at h
    have hd : Dd (rTerm l (pkl l) n ⟨a, d, 0, texts ts, cs.map (rendC (texts ts))⟩).1 E p := h
    rw [hd.one, hd.term]; exact hd
  | ok q =>
    obtain ⟨a1, ts1, m⟩ := q
    rw [hR] at h
    obtain ⟨h1, h2, h3, h4, h5, h6⟩ := h
    rw [h1]
    by_cases h61 : pkl l a1 = 61
    · have hlt := pkl_lt (l := l) (a := a1) (by omega)
      simp only [h61, if_true]
      rw [one_yes (by simpa using h61)]
      have g := same_term (l := l) (C := cs.map (rendC (texts ts))) n (a1 + 1) d ts1 (by omega) (by omega) h2
      cases hR2 : rdT (pkl l) n (a1 + 1) d ts1 with
      | error Ep =>
        obtain ⟨E, p⟩ := Ep
        rw [hR2] at g
        exact g
      | ok q =>
        obtain ⟨a2, ts2, m2⟩ := q
        rw [hR2] at g
        obtain ⟨g1, g2, g3, g4, g5, g6⟩ := g
        simp only
        rw [g1]
        refine ⟨?_, g2, hcs.more (h3.trans g3)⟩
        rw [ctexts_more (h3.trans g3) hcs]
    · simp only [h61, if_false]
      have hd := one_no (l := l) (C := cs.map (rendC (texts ts))) (a := a1) (d := d) (T := texts ts1) (L := [61]) (by simpa using h61)
      rw [hd.term]; exact hd

theorem sees_mk (c : Int) (a d : Nat) (T C : List (List UInt8)) : seesB (pkl l) ⟨a, d, 0, T, C⟩ c = decide (pkl l a = c) := by simp [seesB]

theorem same_formula : ∀ (n a d : Nat) (ts : List Key) (cs : List (Int × Nat)), a ≤ l.length → l.length < a + n → Inv ts → InvC ts cs →
    RelF d (rdF (pkl l) n a d ts cs) (rFormula l (pkl l) n ⟨a, d, 0, texts ts, cs.map (rendC (texts ts))⟩) := by
  intro n
  induction n with
  | zero => intro a d ts cs ha hn; omega
  | succ n ih =>
    intro a d ts cs ha hn hi hcs
    unfold rdF rFormula
    simp only [sees_mk]
    by_cases h33 : pkl l a = 33
    · have hlt := pkl_lt (l := l) (a := a) (by omega)
      rw [if_pos h33, if_pos (show decide (pkl l a = 33) = true by simpa using h33)]
      exact ih (a + 1) d ts cs (by omega) (by omega) hi hcs
    · rw [if_neg h33, if_neg (show ¬ (decide (pkl l a = 33) = true) by simpa using h33)]
      by_cases h40 : pkl l a = 40
      · have hlt := pkl_lt (l := l) (a := a) (by omega)
        rw [if_pos h40, if_neg (show ¬ ((decide (pkl l a = 80) || decide (pkl l a = 81)) = true) by simp; omega), if_pos (show decide (pkl l a = 40) = true by simpa using h40)]
        by_cases h8 : d = 8
        · rw [if_pos h8]
          subst h8
          have hd := open_deep (l := l) (C := cs.map (rendC (texts ts))) (T := texts ts) h40
          rw [hd.formula, hd.one, hd.formula]; exact hd.shut
        · rw [if_neg h8, open_yes h40 h8]
          have h := ih (a + 1) (d + 1) ts cs (by omega) (by omega) hi hcs
          have hok := okF_rdF (pk := pkl l) (N := l.length) (fun a h => pkl_lt h) n (a + 1) (d + 1) ts cs (by omega)
          cases hR : rdF (pkl l) n (a + 1) (d + 1) ts cs with
          | error Ep =>
            obtain ⟨E, p⟩ := Ep
            rw [hR] at h
            have hd : Dd (rFormula l (pkl l) n ⟨a + 1, d + 1, 0, texts ts, cs.map (rendC (texts ts))⟩) E p := h
            rw [hd.one, hd.formula]; exact hd.shut
          | ok q =>
            obtain ⟨a1, ts1, cs1⟩ := q
            rw [hR] at h hok
            obtain ⟨h1, h2, h3⟩ := h
            obtain ⟨o1, o2, _⟩ := hok
            rw [h1]
            by_cases hj : isJoint (pkl l a1) = true
            · have hlt1 := pkl_lt (l := l) (a := a1) (fun e => by rw [e] at hj; simp [isJoint] at hj)
              simp only [hj, if_true]
              have hjj : List.contains [38, 124, 62, 45] (pkl l a1) = true := by simpa [isJoint, or_assoc] using hj
              rw [one_yes hjj]
              have g := ih (a1 + 1) (d + 1) ts1 cs1 (by omega) (by omega) h2 h3
              cases hR2 : rdF (pkl l) n (a1 + 1) (d + 1) ts1 cs1 with
              | error Ep =>
                obtain ⟨E, p⟩ := Ep
                rw [hR2] at g
                exact Dd.shut g
              | ok q =>
                obtain ⟨a2, ts2, cs2⟩ := q
                rw [hR2] at g
                obtain ⟨g1, g2, g3⟩ := g
                simp only
                rw [g1]
                by_cases h41 : pkl l a2 = 41
                · simp only [h41, if_true]
                  rw [shut_yes h41]
                  exact ⟨rfl, g2, g3⟩
                · simp only [h41, if_false]
                  exact shut_no h41
            · simp only [hj]
              have hjj : List.contains [38, 124, 62, 45] (pkl l a1) = false := by simpa [isJoint, or_assoc] using hj
              have hd := one_no (l := l) (C := cs1.map (rendC (texts ts1))) (a := a1) (d := d + 1) (T := texts ts1) hjj
              rw [hd.formula]; exact hd.shut
      · rw [if_neg h40]
        by_cases h8 : pkl l a = 80 ∨ pkl l a = 81
        · have hlt := pkl_lt (l := l) (a := a) (by omega)
          rw [if_pos h8, if_pos (show (decide (pkl l a = 80) || decide (pkl l a = 81)) = true by simpa using h8)]
          have h := same_arg1 (l := l) (C := cs.map (rendC (texts ts))) (n := n + 1) (d := d) (same_term _) (a := a + 1) (by omega) (by omega) hi
          cases hR : arg1 (pkl l) (rdT (pkl l) (n + 1)) (a + 1) d ts with
          | error Ep =>
            obtain ⟨E, p⟩ := Ep
            rw [hR] at h
            have hd : Dd _ E p := h
            show Dd (rKeepC l a _) E p
            rw [hd.keepC]; exact hd
          | ok q =>
            obtain ⟨a1, ts1, m⟩ := q
            rw [hR] at h
            obtain ⟨h1, h2, h3, h4, h5, h6⟩ := h
            rw [h1]
            have hc : okC ts1.length (pkl l a, m) := ⟨h8, h4⟩
            have hcut : cut l a a1 = rendC (texts ts1) (pkl l a, m) := by
              have hg := pkl_get (l := l) (a := a) (c := UInt8.ofNat (pkl l a).toNat) (by simp; omega) (fun e => by have := congrArg UInt8.toNat e; simp at this; omega)
              rw [cut_app l (show a ≤ a + 1 by omega) (show a + 1 ≤ a1 by omega), cut_one hg, h5]
              rfl
            have hp := putC h2 (hcs.more h3) hc
            show RelF d (.ok (a1, ts1, put cs (pkl l a, m))) _
            refine ⟨?_, h2, hp.2⟩
            unfold rKeepC
            rw [if_pos rfl]
            simp only [hcut]
            rw [← ctexts_more h3 hcs, hp.1]
        · rw [if_neg h8, if_neg (show ¬ ((decide (pkl l a = 80) || decide (pkl l a = 81)) = true) by simpa using h8), if_neg (show ¬ (decide (pkl l a = 40) = true) by simpa using h40)]
          exact same_eq ha (by omega) hi hcs
end

end Go.Proofs.YthcppbmkacbbiaaGreat.Rdg

namespace Go.Proofs.YthcppbmkacbbiaaGreat.Rdg

/-- The document's terms and claims are pieces of the text, the claims each once. -/
def Gd (l : List UInt8) (σ : St) : Prop := (∀ t ∈ σ.T, t.length ≤ l.length) ∧ (∀ t ∈ σ.C, t.length ≤ l.length) ∧ σ.C.Nodup

theorem cut_le (l : List UInt8) (x y : Nat) : (cut l x y).length ≤ l.length := by unfold cut; simp; omega

theorem put_mem {α : Type} [BEq α] [LawfulBEq α] {L : List α} {k t : α} (h : t ∈ put L k) : t ∈ L ∨ t = k := by
  unfold put at h
  split at h
  · exact Or.inl h
  · rcases List.mem_append.1 h with h | h
    · exact Or.inl h
    · exact Or.inr (by simpa using h)

theorem put_nodup {α : Type} [BEq α] [LawfulBEq α] {L : List α} (k : α) (h : L.Nodup) : (put L k).Nodup := by
  unfold put
  split
  · exact h
  · rename_i hc
    refine List.nodup_append.2 ⟨h, by simp, fun a ha b hb e => ?_⟩
    simp at hb
    subst hb
    subst e
    exact hc (by simpa using ha)

section
variable {l : List UInt8} {pk : Nat → Int}

theorem gd_one {σ : St} (L : List Int) (h : Gd l σ) : Gd l (rOne pk L σ).1 := by
  unfold rOne
  split
  · split
    · exact h
    · exact h
  · exact h
theorem gd_open {σ : St} (h : Gd l σ) : Gd l (rOpen pk σ) := by
  have h1 : Gd l (rDeep pk σ) := by unfold rDeep; split; exact h; exact h
  have h2 := gd_one (pk := pk) [40] h1
  exact h2
theorem gd_shut {σ : St} (h : Gd l σ) : Gd l (rShut pk σ) := gd_one (pk := pk) [41] h
theorem gd_keepT {σ : St} (x : Nat) (h : Gd l σ) : Gd l (rKeepT l x σ).1 := by
  unfold rKeepT
  split
  · refine ⟨fun t ht => ?_, h.2.1, h.2.2⟩
    rcases put_mem ht with ht | ht
    · exact h.1 t ht
    · subst ht; exact cut_le _ _ _
  · exact h
theorem gd_keepC {σ : St} (x : Nat) (h : Gd l σ) : Gd l (rKeepC l x σ) := by
  unfold rKeepC
  split
  · refine ⟨h.1, fun t ht => ?_, put_nodup _ h.2.2⟩
    rcases put_mem ht with ht | ht
    · exact h.2.1 t ht
    · subst ht; exact cut_le _ _ _
  · exact h

theorem gd_term : ∀ (n : Nat) (σ : St), Gd l σ → Gd l (rTerm l pk n σ).1 := by
  intro n
  induction n with
  | zero => intro σ h; exact h
  | succ n ih =>
    intro σ h
    unfold rTerm
    refine gd_keepT _ ?_
    have h1 := gd_one (pk := pk) letters h
    unfold rIn
    split
    · exact gd_shut (ih _ (gd_open h1))
    · split
      · exact gd_shut (ih _ (gd_one _ (ih _ (gd_open h1))))
      · exact h1

theorem gd_formula : ∀ (n : Nat) (σ : St), Gd l σ → Gd l (rFormula l pk n σ) := by
  intro n
  induction n with
  | zero => intro σ h; exact h
  | succ n ih =>
    intro σ h
    unfold rFormula
    split
    · exact ih _ h
    · split
      · exact gd_keepC _ (gd_shut (gd_term _ _ (gd_open (σ := { σ with a := σ.a + 1 }) h)))
      · split
        · exact gd_shut (ih _ (gd_one _ (ih _ (gd_open h))))
        · exact gd_term _ _ (gd_one _ (gd_term _ _ h))
end

theorem Inv.nodup {ts : List Key} (h : Inv ts) : ts.Nodup := by
  refine List.pairwise_iff_getElem.2 fun i j hi hj hlt e => ?_
  have g1 := h.get i hi
  have g2 := h.get j hj
  rw [e, ← g2] at g1
  have := nodup_getD h.nd (by rw [texts_length]; exact hi) (by rw [texts_length]; exact hj) g1
  omega

end Go.Proofs.YthcppbmkacbbiaaGreat.Rdg
