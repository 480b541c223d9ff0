import Derived.Test.YthfjhjghohincaaRefB
namespace Go.Proofs.Ythfjhjghohincaa.Rdg

/-- The text of a term, by its key and the texts of the terms ahead of it. -/
def rend (T : List (List UInt8)) (k : Key) : List UInt8 :=
  if k.1 = 102 then 102 :: 40 :: (T.getD k.2.1 [] ++ [41])
  else if k.1 = 103 then 103 :: 40 :: (T.getD k.2.1 [] ++ 44 :: (T.getD k.2.2 [] ++ [41]))
  else [UInt8.ofNat k.1.toNat]

/-- The texts of the terms, by their keys. -/
def texts (ts : List Key) : List (List UInt8) := ts.foldl (fun T k => T ++ [rend T k]) []

theorem texts_snoc (ts : List Key) (k : Key) : texts (ts ++ [k]) = texts ts ++ [rend (texts ts) k] := by
  unfold texts; rw [List.foldl_append]; rfl

theorem texts_length (ts : List Key) : (texts ts).length = ts.length := by
  suffices h : ∀ (ts : List Key) (T : List (List UInt8)), (ts.foldl (fun T k => T ++ [rend T k]) T).length = T.length + ts.length by
    have := h ts []; simpa [texts] using this
  intro ts
  induction ts with
  | nil => intro T; simp
  | cons k r ih => intro T; simp only [List.foldl_cons, ih]; simp; omega

/-- A key that may stand behind n terms. -/
def okKey (n : Nat) (k : Key) : Prop :=
  (97 ≤ k.1 ∧ k.1 ≤ 101 ∧ k.2.1 = 0 ∧ k.2.2 = 0) ∨ (k.1 = 102 ∧ k.2.1 < n ∧ k.2.2 = 0) ∨ (k.1 = 103 ∧ k.2.1 < n ∧ k.2.2 < n)

theorem okKey.mono {n m : Nat} {k : Key} (h : okKey n k) (hm : n ≤ m) : okKey m k := by
  rcases h with h | ⟨h1, h2, h3⟩ | ⟨h1, h2, h3⟩
  · exact Or.inl h
  · exact Or.inr (Or.inl ⟨h1, by omega, h3⟩)
  · exact Or.inr (Or.inr ⟨h1, by omega, by omega⟩)

/-- With more texts behind the key's text is the same. -/
theorem rend_more {T R : List (List UInt8)} {k : Key} (h : okKey T.length k) : rend (T ++ R) k = rend T k := by
  rcases h with ⟨h1, h2, h3, h4⟩ | ⟨h1, h2, h3⟩ | ⟨h1, h2, h3⟩
  · unfold rend; rw [if_neg (by omega), if_neg (by omega), if_neg (by omega), if_neg (by omega)]
  · unfold rend; rw [if_pos h1, if_pos h1]; simp [List.getD_eq_getElem?_getD, List.getElem?_append_left h2]
  · unfold rend; rw [if_neg (by omega), if_pos h1, if_neg (by omega), if_pos h1]; simp [List.getD_eq_getElem?_getD, List.getElem?_append_left h2, List.getElem?_append_left h3]

/-- Goes past a term: what is left. -/
def skip : Nat → List UInt8 → Option (List UInt8)
  | 0, _ => none
  | _ + 1, [] => none
  | n + 1, c :: r =>
    if 97 ≤ c ∧ c ≤ 101 then some r
    else if c = 102 then
      match r with
      | 40 :: r1 => (match skip n r1 with | some (41 :: r2) => some r2 | _ => none)
      | _ => none
    else if c = 103 then
      match r with
      | 40 :: r1 => (match skip n r1 with | some (44 :: r2) => (match skip n r2 with | some (41 :: r3) => some r3 | _ => none) | _ => none)
      | _ => none
    else none

/-- A term's text: whoever goes past it has what stands behind it. -/
def IsT (t : List UInt8) : Prop := ∃ n, ∀ m, n ≤ m → ∀ r, skip m (t ++ r) = some r

theorem IsT.cancel {t u x y : List UInt8} (ht : IsT t) (hu : IsT u) (h : t ++ x = u ++ y) : t = u ∧ x = y := by
  obtain ⟨n, h1⟩ := ht
  obtain ⟨m, h2⟩ := hu
  have a1 := h1 (n + m) (by omega) x
  have a2 := h2 (n + m) (by omega) y
  rw [h, a2] at a1
  have e : y = x := Option.some.inj a1
  subst e
  exact ⟨List.append_cancel_right h, rfl⟩

theorem isT_name {c : UInt8} (h : 97 ≤ c ∧ c ≤ 101) : IsT [c] := by
  refine ⟨1, fun m hm r => ?_⟩
  obtain ⟨k, rfl⟩ : ∃ k, m = k + 1 := ⟨m - 1, by omega⟩
  simp [skip, h]

theorem isT_f {t : List UInt8} (h : IsT t) : IsT (102 :: 40 :: (t ++ [41])) := by
  obtain ⟨n, h1⟩ := h
  refine ⟨n + 1, fun m hm r => ?_⟩
  obtain ⟨k, rfl⟩ : ∃ k, m = k + 1 := ⟨m - 1, by omega⟩
  have e : (102 :: 40 :: (t ++ [41])) ++ r = 102 :: 40 :: (t ++ (41 :: r)) := by simp
  rw [e]
  unfold skip
  rw [if_neg (by decide), if_pos rfl]
  simp only [h1 k (by omega)]

theorem isT_g {t u : List UInt8} (ht : IsT t) (hu : IsT u) : IsT (103 :: 40 :: (t ++ 44 :: (u ++ [41]))) := by
  obtain ⟨n, h1⟩ := ht
  obtain ⟨n2, h2⟩ := hu
  refine ⟨n + n2 + 1, fun m hm r => ?_⟩
  obtain ⟨k, rfl⟩ : ∃ k, m = k + 1 := ⟨m - 1, by omega⟩
  have e : (103 :: 40 :: (t ++ 44 :: (u ++ [41]))) ++ r = 103 :: 40 :: (t ++ (44 :: (u ++ (41 :: r)))) := by simp
  rw [e]
  unfold skip
  rw [if_neg (by decide), if_neg (by decide), if_pos rfl]
  simp only [h1 k (by omega), h2 k (by omega)]

/-- What the terms so far are: good keys, each once; texts of terms, each once. -/
structure Inv (ts : List Key) : Prop where
  key : ∀ i (h : i < ts.length), okKey i ts[i]
  nd : (texts ts).Nodup
  tm : ∀ t ∈ texts ts, IsT t
  get : ∀ i (h : i < ts.length), (texts ts).getD i [] = rend (texts ts) ts[i]

theorem inv_nil : Inv [] := ⟨fun i h => absurd h (by simp), by simp [texts], by simp [texts], fun i h => absurd h (by simp)⟩

theorem getD_mem {T : List (List UInt8)} {i : Nat} (h : i < T.length) : T.getD i [] ∈ T := by
  rw [List.getD_eq_getElem?_getD, List.getElem?_eq_getElem h]; exact List.getElem_mem h

theorem nodup_inj {α : Type} {T : List α} (hn : T.Nodup) {i j : Nat} (hi : i < T.length) (hj : j < T.length) (h : T[i] = T[j]) : i = j := by
  rcases Nat.lt_trichotomy i j with hlt | he | hlt
  · exact absurd h (List.pairwise_iff_getElem.1 hn i j hi hj hlt)
  · exact he
  · exact absurd h.symm (List.pairwise_iff_getElem.1 hn j i hj hi hlt)

theorem nodup_getD {T : List (List UInt8)} (hn : T.Nodup) {i j : Nat} (hi : i < T.length) (hj : j < T.length) (h : T.getD i [] = T.getD j []) : i = j := by
  rw [List.getD_eq_getElem?_getD, List.getElem?_eq_getElem hi, List.getD_eq_getElem?_getD, List.getElem?_eq_getElem hj] at h
  exact nodup_inj hn hi hj h

theorem isT_rend {T : List (List UInt8)} (hT : ∀ t ∈ T, IsT t) {k : Key} (h : okKey T.length k) : IsT (rend T k) := by
  rcases h with ⟨h1, h2, h3, h4⟩ | ⟨h1, h2, h3⟩ | ⟨h1, h2, h3⟩
  · unfold rend; rw [if_neg (by omega), if_neg (by omega)]
    apply isT_name
    have e : (UInt8.ofNat k.1.toNat).toNat = k.1.toNat := by simp; omega
    constructor
    · rw [UInt8.le_iff_toNat_le, e]; simp; omega
    · rw [UInt8.le_iff_toNat_le, e]; simp; omega
  · unfold rend; rw [if_pos h1]; exact isT_f (hT _ (getD_mem h2))
  · unfold rend; rw [if_neg (by omega), if_pos h1]; exact isT_g (hT _ (getD_mem h2)) (hT _ (getD_mem h3))

/-- Other keys, other texts. -/
theorem rend_inj {T : List (List UInt8)} (hn : T.Nodup) (hT : ∀ t ∈ T, IsT t) {k k' : Key} (h : okKey T.length k) (h' : okKey T.length k') (e : rend T k = rend T k') : k = k' := by
  obtain ⟨c, x, y⟩ := k
  obtain ⟨c', x', y'⟩ := k'
  rcases h with ⟨h1, h2, h3, h4⟩ | ⟨h1, h2, h3⟩ | ⟨h1, h2, h3⟩ <;> rcases h' with ⟨g1, g2, g3, g4⟩ | ⟨g1, g2, g3⟩ | ⟨g1, g2, g3⟩ <;> simp only at h1 h2 h3 g1 g2 g3
  · simp only at h4 g4
    unfold rend at e
    rw [if_neg (by simp only; omega), if_neg (by simp only; omega), if_neg (by simp only; omega), if_neg (by simp only; omega)] at e
    have e1 : UInt8.ofNat c.toNat = UInt8.ofNat c'.toNat := by simpa using e
    have e2 := congrArg UInt8.toNat e1
    simp at e2
    have : c = c' := by omega
    subst this; subst h3; subst h4; subst g3; subst g4; rfl
  · exfalso; unfold rend at e; rw [if_neg (by simp only; omega), if_neg (by simp only; omega), if_pos (by simp only; omega)] at e; simp at e
  · exfalso; unfold rend at e; rw [if_neg (by simp only; omega), if_neg (by simp only; omega), if_neg (by simp only; omega), if_pos (by simp only; omega)] at e; simp at e
  · exfalso; unfold rend at e; rw [if_pos (by simp only; omega), if_neg (by simp only; omega), if_neg (by simp only; omega)] at e; simp at e
  · unfold rend at e; rw [if_pos h1, if_pos g1] at e
    simp only [List.cons.injEq, true_and] at e
    have e2 := List.append_cancel_right e
    have := nodup_getD hn h2 g2 e2
    subst this; subst h1; subst h3; subst g1; subst g3; rfl
  · exfalso; unfold rend at e; rw [if_pos (by simp only; omega), if_neg (by simp only; omega), if_pos (by simp only; omega)] at e; simp at e
  · exfalso; unfold rend at e; rw [if_neg (by simp only; omega), if_pos (by simp only; omega), if_neg (by simp only; omega), if_neg (by simp only; omega)] at e; simp at e
  · exfalso; unfold rend at e; rw [if_neg (by simp only; omega), if_pos (by simp only; omega), if_pos (by simp only; omega)] at e; simp at e
  · unfold rend at e; rw [if_neg (by simp only; omega), if_pos h1, if_neg (by simp only; omega), if_pos g1] at e
    simp only [List.cons.injEq, true_and] at e
    obtain ⟨e2, e3⟩ := IsT.cancel (hT _ (getD_mem h2)) (hT _ (getD_mem g2)) e
    simp only [List.cons.injEq, true_and] at e3
    have e4 := List.append_cancel_right e3
    have := nodup_getD hn h2 g2 e2
    have := nodup_getD hn h3 g3 e4
    subst h1; subst g1; simp; omega

/-- The keys and their texts are found alike. -/
theorem Inv.find {ts : List Key} (h : Inv ts) {k : Key} (hk : okKey ts.length k) : (texts ts).contains (rend (texts ts) k) = ts.contains k ∧ (texts ts).idxOf (rend (texts ts) k) = ts.idxOf k := by
  have hl := texts_length ts
  have hk' : okKey (texts ts).length k := by rw [hl]; exact hk
  have back : ∀ i (hi : i < ts.length), (texts ts)[i]'(by omega) = rend (texts ts) k → ts[i] = k := fun i hi e => by
    have g := h.get i hi
    rw [List.getD_eq_getElem?_getD, List.getElem?_eq_getElem (by omega)] at g
    simp at g
    exact rend_inj h.nd h.tm ((h.key i hi).mono (by omega)) hk' (g.symm.trans e)
  have fwd : ∀ i (hi : i < ts.length), ts[i] = k → (texts ts)[i]'(by omega) = rend (texts ts) k := fun i hi e => by
    have g := h.get i hi
    rw [List.getD_eq_getElem?_getD, List.getElem?_eq_getElem (by omega)] at g
    simp at g
    rw [g, e]
  have hm : rend (texts ts) k ∈ texts ts ↔ k ∈ ts := by
    constructor
    · intro hmem
      obtain ⟨i, hi, e⟩ := List.getElem_of_mem hmem
      rw [← back i (by omega) e]; exact List.getElem_mem _
    · intro hmem
      obtain ⟨i, hi, e⟩ := List.getElem_of_mem hmem
      rw [← fwd i hi e]; exact List.getElem_mem _
  refine ⟨by rw [Bool.eq_iff_iff]; simpa using hm, ?_⟩
  by_cases hmem : k ∈ ts
  · have hi := List.idxOf_lt_length_of_mem hmem
    have e1 := fwd _ hi (List.getElem_idxOf hi)
    have hmem' := hm.2 hmem
    have hj := List.idxOf_lt_length_of_mem hmem'
    have e2 := List.getElem_idxOf hj
    exact nodup_inj h.nd hj (by omega) (e2.trans e1.symm)
  · rw [List.idxOf_eq_length hmem, List.idxOf_eq_length (fun e => hmem (hm.1 e)), hl]

theorem Inv.put {ts : List Key} (h : Inv ts) {k : Key} (hk : okKey ts.length k) : Inv (put ts k) ∧ texts (put ts k) = Rdg.put (texts ts) (rend (texts ts) k) := by
  have hf := h.find hk
  have hl := texts_length ts
  unfold Rdg.put
  rw [hf.1]
  by_cases hc : ts.contains k = true
  · rw [if_pos hc, if_pos hc]; exact ⟨h, rfl⟩
  · rw [if_neg hc, if_neg hc]
    refine ⟨⟨?_, ?_, ?_, ?_⟩, texts_snoc ts k⟩
    · intro i hi
      by_cases hlt : i < ts.length
      · rw [List.getElem_append_left hlt]; exact h.key i hlt
      · have : i = ts.length := by simp at hi; omega
        subst this; simpa using hk
    · rw [texts_snoc]
      refine List.nodup_append.2 ⟨h.nd, by simp, fun a ha b hb => ?_⟩
      simp at hb
      subst hb
      intro e
      subst e
      have hcc : (texts ts).contains (rend (texts ts) k) = true := by simpa using ha
      rw [hf.1] at hcc
      exact hc hcc
    · intro t ht
      rw [texts_snoc] at ht
      rcases List.mem_append.1 ht with ht | ht
      · exact h.tm t ht
      · simp at ht; subst ht; exact isT_rend h.tm (by rw [hl]; exact hk)
    · intro i hi
      rw [texts_snoc]
      by_cases hlt : i < ts.length
      · rw [List.getElem_append_left hlt, rend_more ((h.key i hlt).mono (by omega)), ← h.get i hlt]
        simp [List.getD_eq_getElem?_getD, List.getElem?_append_left (show i < (texts ts).length by omega)]
      · have : i = ts.length := by simp at hi; omega
        subst this
        rw [rend_more (by simpa [hl] using hk)]
        simp [List.getD_eq_getElem?_getD, ← hl]

end Go.Proofs.Ythfjhjghohincaa.Rdg
