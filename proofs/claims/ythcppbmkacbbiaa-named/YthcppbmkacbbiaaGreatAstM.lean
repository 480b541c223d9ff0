import Derived.Test.YthcppbmkacbbiaaGreatTruM
import Derived.Test.YthcppbmkacbbiaaGreatEqCM
namespace Go.Proofs.YthcppbmkacbbiaaGreat.Ast
open Rdg

/-- The bytes of l stand from a on. -/
def At (pk : Nat → Int) (a : Nat) (l : List UInt8) : Prop := ∀ i (h : i < l.length), pk (a + i) = (l[i].toNat : Int)

theorem At.left {pk : Nat → Int} {a : Nat} {l m : List UInt8} (h : At pk a (l ++ m)) : At pk a l := fun i hi => by
  have := h i (by simp; omega)
  rw [List.getElem_append_left hi] at this
  exact this
theorem At.right {pk : Nat → Int} {a : Nat} {l m : List UInt8} (h : At pk a (l ++ m)) : At pk (a + l.length) m := fun i hi => by
  have := h (l.length + i) (by simp; omega)
  rw [List.getElem_append_right (by omega)] at this
  simpa [Nat.add_assoc] using this
theorem At.head {pk : Nat → Int} {a : Nat} {c : UInt8} {m : List UInt8} (h : At pk a (c :: m)) : pk a = (c.toNat : Int) := h 0 (by simp)
theorem At.tail {pk : Nat → Int} {a : Nat} {c : UInt8} {m : List UInt8} (h : At pk a (c :: m)) : At pk (a + 1) m := fun i hi => by
  have := h (i + 1) (by simp; omega)
  simpa [Nat.add_assoc, Nat.add_comm 1] using this
theorem At.nil (pk : Nat → Int) (a : Nat) : At pk a [] := fun i h => by simp at h
theorem At.cons {pk : Nat → Int} {a : Nat} {c : UInt8} {m : List UInt8} (h : pk a = (c.toNat : Int)) (g : At pk (a + 1) m) : At pk a (c :: m) := fun i hi => by
  cases i with
  | zero => exact h
  | succ i =>
    have := g i (by simpa using hi)
    simpa [Nat.add_assoc, Nat.add_comm 1] using this
theorem At.app {pk : Nat → Int} {a : Nat} {l m : List UInt8} (h : At pk a l) (g : At pk (a + l.length) m) : At pk a (l ++ m) := fun i hi => by
  by_cases hl : i < l.length
  · rw [List.getElem_append_left hl]; exact h i hl
  · have := g (i - l.length) (by simp at hi; omega)
    rw [List.getElem_append_right (by omega), ← this]
    congr 1; omega

theorem put_pre {α : Type} [BEq α] [LawfulBEq α] (l : List α) (k : α) : l <+: put l k := by
  unfold Rdg.put; split
  · exact List.prefix_refl _
  · exact List.prefix_append _ _

theorem put_mem {α : Type} [BEq α] [LawfulBEq α] (l : List α) (k : α) : k ∈ put l k := by
  unfold Rdg.put
  by_cases h : k ∈ l
  · rw [if_pos (by simpa using h)]; exact h
  · rw [if_neg (by simpa using h)]; simp

theorem idx_pre {α : Type} [BEq α] [LawfulBEq α] {l m : List α} {k : α} (h : l <+: m) (hk : k ∈ l) : m.idxOf k = l.idxOf k := by
  obtain ⟨r, rfl⟩ := h
  rw [List.idxOf_append, if_pos hk]

theorem put_idx {α : Type} [BEq α] [LawfulBEq α] (l : List α) (k : α) : (put l k).idxOf k = l.idxOf k := by
  by_cases h : k ∈ l
  · exact idx_pre (put_pre l k) h
  · unfold Rdg.put
    rw [if_neg (by simpa using h), List.idxOf_append, if_neg h, List.idxOf_eq_length h]
    simp

/-- What has come stays: it is put in vain, and found where it was. -/
theorem put_again {α : Type} [BEq α] [LawfulBEq α] {l m : List α} {k : α} (h : put l k <+: m) : put m k = m ∧ m.idxOf k = l.idxOf k := by
  have hm : k ∈ m := h.subset (put_mem l k)
  refine ⟨by unfold Rdg.put; rw [if_pos (by simpa using hm)], ?_⟩
  rw [idx_pre h (put_mem l k), put_idx]

/-- A text that reads as a term: how deep, what it does to the terms so far, which it is. -/
structure TmOk (txt : List UInt8) (dep : Nat) (run : List Key → List Key × Nat) : Prop where
  fst : ∃ c r, txt = c :: r ∧ 97 ≤ c.toNat ∧ c.toNat ≤ 103
  reads : ∀ (pk : Nat → Int) (n a d : Nat) (ts : List Key), At pk a txt → txt.length ≤ n → d ≤ 8 →
    (d + dep ≤ 8 → rdT pk n a d ts = .ok (a + txt.length, (run ts).1, (run ts).2)) ∧ (¬ d + dep ≤ 8 → ∃ p, rdT pk n a d ts = .error (3, p))
  stab : ∀ ts ts', (run ts).1 <+: ts' → run ts' = (ts', (run ts).2)
  grow : ∀ ts, ts <+: (run ts).1

theorem tm_nm {c : UInt8} (h1 : 97 ≤ c.toNat) (h2 : c.toNat ≤ 101) : TmOk [c] 0 (fun ts => (put ts ((c.toNat : Int), 0, 0), ts.idxOf ((c.toNat : Int), 0, 0))) where
  fst := ⟨c, [], rfl, h1, by omega⟩
  reads := fun pk n a d ts h hn hd => by
    refine ⟨fun _ => ?_, fun h => absurd hd h⟩
    cases n with
    | zero => simp at hn
    | succ n =>
      have hp := h.head
      unfold rdT
      rw [hp, if_pos (by simp [isName]; omega)]
      rfl
  stab := fun ts ts' h => by
    obtain ⟨e1, e2⟩ := put_again h
    simp only
    rw [e1, e2]
  grow := fun ts => put_pre _ _

theorem tm_f {t : List UInt8} {dep : Nat} {run : List Key → List Key × Nat} (h : TmOk t dep run) : TmOk (102 :: 40 :: (t ++ [41])) (dep + 1) (fun ts => (put (run ts).1 (102, (run ts).2, 0), (run ts).1.idxOf (102, (run ts).2, 0))) where
  fst := ⟨102, _, rfl, by decide, by decide⟩
  reads := fun pk n a d ts hA hn hd => by
    cases n with
    | zero => simp at hn
    | succ n =>
      have hp := hA.head
      have hp1 := hA.tail.head
      have hA2 := hA.tail.tail
      have hp2 := hA2.right.head
      have hr := h.reads pk n (a + 1 + 1) (d + 1) ts hA2.left (by simp at hn; omega)
      have e0 : pk a = 102 := hp
      have e1 : pk (a + 1) = 40 := hp1
      have e2 : pk (a + 1 + 1 + t.length) = 41 := hp2
      unfold rdT
      rw [if_neg (by rw [e0]; decide), if_pos e0]
      unfold arg1
      rw [if_pos e1]
      constructor
      · intro h8
        rw [if_neg (by omega), (hr (by omega)).1 (by omega)]
        simp only [e2, if_true]
        show Except.ok _ = _
        congr 2
        simp; omega
      · intro h8
        by_cases hd8 : d = 8
        · rw [if_pos hd8]; exact ⟨_, rfl⟩
        · rw [if_neg hd8]
          obtain ⟨p, hp⟩ := (hr (by omega)).2 (by omega)
          rw [hp]
          exact ⟨p, rfl⟩
  stab := fun ts ts' hg => by
    have h1 := h.stab ts ts' ((put_pre _ _).trans hg)
    obtain ⟨e1, e2⟩ := put_again hg
    simp only
    rw [h1]
    simp only
    rw [e1, e2]
  grow := fun ts => (h.grow ts).trans (put_pre _ _)

theorem tm_g {t u : List UInt8} {d1 d2 : Nat} {r1 r2 : List Key → List Key × Nat} (h : TmOk t d1 r1) (g : TmOk u d2 r2) :
    TmOk (103 :: 40 :: (t ++ 44 :: (u ++ [41]))) (max d1 d2 + 1) (fun ts => (put (r2 (r1 ts).1).1 (103, (r1 ts).2, (r2 (r1 ts).1).2), (r2 (r1 ts).1).1.idxOf (103, (r1 ts).2, (r2 (r1 ts).1).2))) where
  fst := ⟨103, _, rfl, by decide, by decide⟩
  reads := fun pk n a d ts hA hn hd => by
    cases n with
    | zero => simp at hn
    | succ n =>
      have hA2 := hA.tail.tail
      have hA3 := hA2.right.tail
      have e0 : pk a = 103 := hA.head
      have e1 : pk (a + 1) = 40 := hA.tail.head
      have e2 : pk (a + 1 + 1 + t.length) = 44 := hA2.right.head
      have e3 : pk (a + 1 + 1 + t.length + 1 + u.length) = 41 := hA3.right.head
      have hr := h.reads pk n (a + 1 + 1) (d + 1) ts hA2.left (by simp at hn; omega)
      have gr := g.reads pk n (a + 1 + 1 + t.length + 1) (d + 1) (r1 ts).1 hA3.left (by simp at hn; omega)
      unfold rdT
      rw [if_neg (by rw [e0]; decide), if_neg (by rw [e0]; decide), if_pos e0]
      unfold arg2
      rw [if_pos e1]
      by_cases hd8 : d = 8
      · rw [if_pos hd8]; exact ⟨fun h => by omega, fun _ => ⟨_, rfl⟩⟩
      · rw [if_neg hd8]
        by_cases q1 : d + 1 + d1 ≤ 8
        · rw [(hr (by omega)).1 q1]
          simp only [e2, if_true]
          by_cases q2 : d + 1 + d2 ≤ 8
          · rw [(gr (by omega)).1 q2]
            simp only [e3, if_true]
            refine ⟨fun _ => ?_, fun h => by omega⟩
            show Except.ok _ = _
            congr 2
            simp; omega
          · obtain ⟨p, hp⟩ := (gr (by omega)).2 q2
            rw [hp]
            exact ⟨fun h => by omega, fun _ => ⟨p, rfl⟩⟩
        · obtain ⟨p, hp⟩ := (hr (by omega)).2 q1
          rw [hp]
          exact ⟨fun h => by omega, fun _ => ⟨p, rfl⟩⟩
  stab := fun ts ts' hg => by
    have p2 : (r2 (r1 ts).1).1 <+: ts' := (put_pre _ _).trans hg
    have h1 := h.stab ts ts' ((g.grow _).trans p2)
    have h2 := g.stab (r1 ts).1 ts' p2
    obtain ⟨e1, e2⟩ := put_again hg
    simp only
    rw [h1]
    simp only
    rw [h2]
    simp only
    rw [e1, e2]
  grow := fun ts => ((h.grow ts).trans (g.grow _)).trans (put_pre _ _)

/-- What has been read as a term is one. -/
theorem rdT_tm {pk : Nat → Int} : ∀ (n a d : Nat) (ts : List Key) (a1 : Nat) (ts1 : List Key) (m : Nat), rdT pk n a d ts = .ok (a1, ts1, m) →
    ∃ txt dep run, TmOk txt dep run ∧ At pk a txt ∧ a1 = a + txt.length := by
  intro n
  induction n with
  | zero => intro a d ts a1 ts1 m h; cases h
  | succ n ih =>
    intro a d ts a1 ts1 m h
    unfold rdT at h
    by_cases hn : isName (pk a) = true
    · rw [if_pos hn] at h
      have hn' : 97 ≤ pk a ∧ pk a ≤ 101 := by simpa [isName] using hn
      obtain ⟨c, hc⟩ : ∃ c : UInt8, pk a = (c.toNat : Int) := ⟨UInt8.ofNat (pk a).toNat, by simp; omega⟩
      injection h with h
      injection h with h1 _
      exact ⟨[c], 0, _, tm_nm (by omega) (by omega), (At.nil pk _).cons hc, by simpa using h1.symm⟩
    · rw [if_neg hn] at h
      by_cases h102 : pk a = 102
      · rw [if_pos h102] at h
        unfold arg1 at h
        by_cases h40 : pk (a + 1) = 40
        · rw [if_pos h40] at h
          by_cases h8 : d = 8
          · rw [if_pos h8] at h; cases h
          · rw [if_neg h8] at h
            rcases hr : rdT pk n (a + 1 + 1) (d + 1) ts with e | ⟨b, ts2, k⟩
            · rw [hr] at h; cases h
            · rw [hr] at h
              simp only at h
              by_cases h41 : pk b = 41
              · rw [if_pos h41] at h
                obtain ⟨txt, dep, run, q1, q2, q3⟩ := ih _ _ _ _ _ _ hr
                injection h with h
                injection h with h1 _
                subst q3
                refine ⟨_, _, _, tm_f q1, At.cons h102 (At.cons h40 (q2.app ((At.nil pk _).cons h41))), ?_⟩
                rw [← h1]; simp; omega
              · rw [if_neg h41] at h; cases h
        · rw [if_neg h40] at h; cases h
      · rw [if_neg h102] at h
        by_cases h103 : pk a = 103
        · rw [if_pos h103] at h
          unfold arg2 at h
          by_cases h40 : pk (a + 1) = 40
          · rw [if_pos h40] at h
            by_cases h8 : d = 8
            · rw [if_pos h8] at h; cases h
            · rw [if_neg h8] at h
              rcases hr : rdT pk n (a + 1 + 1) (d + 1) ts with e | ⟨b, ts2, k⟩
              · rw [hr] at h; cases h
              · rw [hr] at h
                simp only at h
                by_cases h44 : pk b = 44
                · rw [if_pos h44] at h
                  rcases hr2 : rdT pk n (b + 1) (d + 1) ts2 with e | ⟨b2, ts3, k2⟩
                  · rw [hr2] at h; cases h
                  · rw [hr2] at h
                    simp only at h
                    by_cases h41 : pk b2 = 41
                    · rw [if_pos h41] at h
                      obtain ⟨txt, dep, run, q1, q2, q3⟩ := ih _ _ _ _ _ _ hr
                      obtain ⟨txt2, dep2, run2, p1, p2, p3⟩ := ih _ _ _ _ _ _ hr2
                      injection h with h
                      injection h with h1 _
                      subst q3
                      subst p3
                      refine ⟨_, _, _, tm_g q1 p1, At.cons h103 (At.cons h40 (q2.app (At.cons h44 (p2.app ((At.nil pk _).cons h41))))), ?_⟩
                      rw [← h1]; simp; omega
                    · rw [if_neg h41] at h; cases h
                · rw [if_neg h44] at h; cases h
          · rw [if_neg h40] at h; cases h
        · rw [if_neg h103] at h; cases h

/-- A text that reads as a formula: how deep, what it does to the terms and claims so far, its truth in a case. -/
structure FmOk (txt : List UInt8) (dep : Nat) (run : List Key → List (Int × Nat) → List Key × List (Int × Nat)) (val : List Int → List Bool → List Key → List (Int × Nat) → Bool) : Prop where
  pos : 0 < txt.length
  reads : ∀ (pk : Nat → Int) (N n a d : Nat) (ts : List Key) (cs : List (Int × Nat)) (ps : List Key), (∀ a, pk a ≠ 0 → a < N) → a ≤ N → At pk a txt → txt.length ≤ n → d ≤ 8 → InvP ts.length cs.length ps →
    (d + dep ≤ 8 → ∃ ps1 m, rdP pk n a d ts cs ps = .ok (a + txt.length, (run ts cs).1, (run ts cs).2, ps1, m) ∧ ∀ cl hl, (pvs cl hl ps1).getD m false = val cl hl ts cs) ∧ (¬ d + dep ≤ 8 → ∃ p, rdP pk n a d ts cs ps = .error (3, p))
  stab : ∀ ts cs ts' cs', (run ts cs).1 <+: ts' → (run ts cs).2 <+: cs' → run ts' cs' = (ts', cs') ∧ ∀ cl hl, val cl hl ts' cs' = val cl hl ts cs
  grow : ∀ ts cs, ts <+: (run ts cs).1 ∧ cs <+: (run ts cs).2

theorem fin_ok {a1 a' : Nat} {ts1 : List Key} {cs1 : List (Int × Nat)} {ps1 : List Key} {q : Key} {val : List Int → List Bool → Bool} (h : InvP ts1.length cs1.length ps1) (hq : okPc ts1.length cs1.length ps1.length q) (ha : a1 = a') (hv : ∀ cl hl, pv1 cl hl (pvs cl hl ps1) q = val cl hl) :
    ∃ ps2 m, finQ (.ok (a1, ts1, cs1, ps1, q)) = .ok (a', ts1, cs1, ps2, m) ∧ ∀ cl hl, (pvs cl hl ps2).getD m false = val cl hl :=
  ⟨put ps1 q, ps1.idxOf q, by subst ha; rfl, fun cl hl => by rw [pvs_put h hq]; exact hv cl hl⟩

theorem fm_eq {t u : List UInt8} {d1 d2 : Nat} {r1 r2 : List Key → List Key × Nat} (h : TmOk t d1 r1) (g : TmOk u d2 r2) :
    FmOk (t ++ 61 :: u) (max d1 d2) (fun ts cs => ((r2 (r1 ts).1).1, cs)) (fun cl _ ts _ => decide (cl.getD (r1 ts).2 0 = cl.getD (r2 (r1 ts).1).2 0)) where
  pos := by rw [List.length_append, List.length_cons]; omega
  reads := fun pk N n a d ts cs ps hpk ha hA hn hd hi => by
    cases n with
    | zero => simp at hn
    | succ n =>
      obtain ⟨c, r, hc, c1, c2⟩ := h.fst
      have e0 : pk a = (c.toNat : Int) := by have := hA.left; rw [hc] at this; exact this.head
      have e1 : pk (a + t.length) = 61 := hA.right.head
      have hr := h.reads pk (n + 1) a d ts hA.left (by simp at hn; omega) hd
      have gr := g.reads pk (n + 1) (a + t.length + 1) d (r1 ts).1 hA.right.tail (by simp at hn; omega) hd
      have hok := okT_rdT hpk (n + 1) a d ts ha
      unfold rdP
      rw [if_neg (by rw [e0]; omega), if_neg (by rw [e0]; omega), if_neg (by rw [e0]; omega)]
      unfold rdE
      by_cases q1 : d + d1 ≤ 8
      · rw [hr.1 q1] at hok ⊢
        obtain ⟨p1, p2, p3, p4, p5⟩ := hok
        simp only [e1, if_true]
        have hlt := hpk (a + t.length) (by rw [e1]; decide)
        have hok2 := okT_rdT hpk (n + 1) (a + t.length + 1) d (r1 ts).1 (by omega)
        by_cases q2 : d + d2 ≤ 8
        · rw [gr.1 q2] at hok2 ⊢
          obtain ⟨k1, k2, k3, k4, k5⟩ := hok2
          exact ⟨fun _ => fin_ok (hi.more (by omega) (Nat.le_refl _)) (Or.inr (Or.inr (Or.inr ⟨rfl, by show (r1 ts).2 < (r2 (r1 ts).1).1.length; omega, k5⟩))) (by simp; omega) (fun cl hl => by simp [pv1]), fun h => by omega⟩
        · obtain ⟨p, hp⟩ := gr.2 q2
          rw [hp]
          exact ⟨fun h => by omega, fun _ => ⟨p, rfl⟩⟩
      · obtain ⟨p, hp⟩ := hr.2 q1
        rw [hp]
        exact ⟨fun h => by omega, fun _ => ⟨p, rfl⟩⟩
  stab := fun ts cs ts' cs' h1 h2 => by
    have s1 := h.stab ts ts' ((g.grow _).trans h1)
    have s2 := g.stab (r1 ts).1 ts' h1
    refine ⟨?_, fun cl hl => ?_⟩
    · (try simp only); rw [s1]; (try simp only); rw [s2]
    · (try simp only); rw [s1]; (try simp only); rw [s2]
  grow := fun ts cs => ⟨(h.grow ts).trans (g.grow _), List.prefix_refl _⟩

theorem fm_cl {c : UInt8} (hc : c.toNat = 80 ∨ c.toNat = 81) {t : List UInt8} {dep : Nat} {r : List Key → List Key × Nat} (h : TmOk t dep r) :
    FmOk (c :: 40 :: (t ++ [41])) (dep + 1) (fun ts cs => ((r ts).1, put cs ((c.toNat : Int), (r ts).2))) (fun _ hl ts cs => hl.getD (cs.idxOf ((c.toNat : Int), (r ts).2)) false) where
  pos := by simp
  reads := fun pk N n a d ts cs ps hpk ha hA hn hd hi => by
    cases n with
    | zero => simp at hn
    | succ n =>
      have hA2 := hA.tail.tail
      have e0 : pk a = (c.toNat : Int) := hA.head
      have e1 : pk (a + 1) = 40 := hA.tail.head
      have e2 : pk (a + 1 + 1 + t.length) = 41 := hA2.right.head
      have hr := h.reads pk (n + 1) (a + 1 + 1) (d + 1) ts hA2.left (by simp at hn; omega)
      have l0 := hpk a (by omega)
      have l1 := hpk (a + 1) (by omega)
      have hok := okT_rdT hpk (n + 1) (a + 1 + 1) (d + 1) ts (by omega)
      unfold rdP
      rw [if_neg (by omega), if_neg (by omega), if_pos (by omega)]
      unfold rdC arg1
      rw [if_pos e1]
      by_cases hd8 : d = 8
      · rw [if_pos hd8]; exact ⟨fun h => by omega, fun _ => ⟨_, rfl⟩⟩
      · rw [if_neg hd8]
        by_cases q1 : d + 1 + dep ≤ 8
        · rw [(hr (by omega)).1 q1] at hok ⊢
          obtain ⟨p1, p2, p3, p4, p5⟩ := hok
          simp only [e2, if_true, e0]
          have q := put_length cs ((c.toNat : Int), (r ts).2)
          refine ⟨fun _ => fin_ok (hi.more p3 q.1) (Or.inr (Or.inr (Or.inl ⟨by show ((c.toNat : Int) = 80 ∨ (c.toNat : Int) = 81); omega, idx_put _ _, rfl⟩))) (by simp; omega) (fun cl hl => ?_), fun h => by omega⟩
          unfold pv1
          rw [if_neg (by show (c.toNat : Int) ≠ 61; omega), if_pos (by show ((c.toNat : Int) = 80 ∨ (c.toNat : Int) = 81); omega)]
        · obtain ⟨p, hp⟩ := (hr (by omega)).2 q1
          rw [hp]
          exact ⟨fun h => by omega, fun _ => ⟨p, rfl⟩⟩
  stab := fun ts cs ts' cs' h1 h2 => by
    have s1 := h.stab ts ts' h1
    obtain ⟨e1, e2⟩ := put_again h2
    refine ⟨?_, fun cl hl => ?_⟩
    · (try simp only); rw [s1]; (try simp only); rw [e1]
    · (try simp only); rw [s1]; (try simp only); rw [e2]
  grow := fun ts cs => ⟨h.grow ts, put_pre _ _⟩

theorem fm_no {t : List UInt8} {dep : Nat} {run : List Key → List (Int × Nat) → List Key × List (Int × Nat)} {val : List Int → List Bool → List Key → List (Int × Nat) → Bool} (h : FmOk t dep run val) :
    FmOk (33 :: t) dep run (fun cl hl ts cs => !(val cl hl ts cs)) where
  pos := by simp
  reads := fun pk N n a d ts cs ps hpk ha hA hn hd hi => by
    cases n with
    | zero => simp at hn
    | succ n =>
      have e0 : pk a = 33 := hA.head
      have l0 := hpk a (by omega)
      have hr := h.reads pk N n (a + 1) d ts cs ps hpk (by omega) hA.tail (by simp at hn; omega) hd hi
      have hf := fine_rdP hpk n (a + 1) d ts cs ps (by omega) hi
      unfold rdP
      rw [if_pos e0]
      refine ⟨fun h8 => ?_, fun h8 => ?_⟩
      · obtain ⟨ps1, m, hp, hv⟩ := hr.1 h8
        rw [hp] at hf ⊢
        obtain ⟨f1, f2, f3, f4, f5⟩ := hf
        refine fin_ok f1 (Or.inl ⟨rfl, f2, rfl⟩) (by simp; omega) (fun cl hl => ?_)
        unfold pv1
        rw [if_neg (by show (33 : Int) ≠ 61; decide), if_neg (by show ¬ ((33 : Int) = 80 ∨ (33 : Int) = 81); decide), if_pos rfl]
        show (!(pvs cl hl ps1).getD m false) = _
        rw [hv]
      · obtain ⟨p, hp⟩ := hr.2 h8
        rw [hp]
        exact ⟨p, rfl⟩
  stab := fun ts cs ts' cs' h1 h2 => by
    obtain ⟨s1, s2⟩ := h.stab ts cs ts' cs' h1 h2
    exact ⟨s1, fun cl hl => by (try simp only); rw [s2]⟩
  grow := h.grow

theorem fm_jn {c : UInt8} (hc : isJoint (c.toNat : Int) = true) {t u : List UInt8} {d1 d2 : Nat} {r1 r2 : List Key → List (Int × Nat) → List Key × List (Int × Nat)} {v1 v2 : List Int → List Bool → List Key → List (Int × Nat) → Bool} (h : FmOk t d1 r1 v1) (g : FmOk u d2 r2 v2) :
    FmOk (40 :: (t ++ c :: (u ++ [41]))) (max d1 d2 + 1) (fun ts cs => r2 (r1 ts cs).1 (r1 ts cs).2) (fun cl hl ts cs => jn (c.toNat : Int) (v1 cl hl ts cs) (v2 cl hl (r1 ts cs).1 (r1 ts cs).2)) where
  pos := by simp
  reads := fun pk N n a d ts cs ps hpk ha hA hn hd hi => by
    cases n with
    | zero => simp at hn
    | succ n =>
      have hA2 := hA.tail
      have hA3 := hA2.right.tail
      have e0 : pk a = 40 := hA.head
      have e1 : pk (a + 1 + t.length) = (c.toNat : Int) := hA2.right.head
      have e2 : pk (a + 1 + t.length + 1 + u.length) = 41 := hA3.right.head
      have l0 := hpk a (by omega)
      have hc0 : (c.toNat : Int) ≠ 0 := fun e => by rw [e] at hc; simp [isJoint] at hc
      have l1 := hpk (a + 1 + t.length) (by rw [e1]; exact hc0)
      have hr := h.reads pk N n (a + 1) (d + 1) ts cs ps hpk (by omega) hA2.left (by simp at hn; omega)
      have hf := fine_rdP hpk n (a + 1) (d + 1) ts cs ps (by omega) hi
      unfold rdP
      rw [if_neg (by omega), if_pos e0]
      unfold rdJ
      by_cases hd8 : d = 8
      · rw [if_pos hd8]; exact ⟨fun h => by omega, fun _ => ⟨_, rfl⟩⟩
      · rw [if_neg hd8]
        by_cases q1 : d + 1 + d1 ≤ 8
        · obtain ⟨ps1, m1, hp, hv⟩ := (hr (by omega) hi).1 q1
          rw [hp] at hf ⊢
          obtain ⟨f1, f2, f3, f4, f5⟩ := hf
          simp only [e1, hc, if_true]
          have gr := g.reads pk N n (a + 1 + t.length + 1) (d + 1) (r1 ts cs).1 (r1 ts cs).2 ps1 hpk (by omega) hA3.left (by simp at hn; omega) (by omega) f1
          have gf := fine_rdP hpk n (a + 1 + t.length + 1) (d + 1) (r1 ts cs).1 (r1 ts cs).2 ps1 (by omega) f1
          by_cases q2 : d + 1 + d2 ≤ 8
          · obtain ⟨ps2, m2, gp, gv⟩ := gr.1 q2
            rw [gp] at gf ⊢
            obtain ⟨g1, g2, g3, g4, g5⟩ := gf
            simp only [e2, if_true]
            have hle := g5.length_le
            refine ⟨fun _ => fin_ok g1 (Or.inr (Or.inl ⟨hc, by show m1 < ps2.length; omega, g2⟩)) (by simp; omega) (fun cl hl => ?_), fun h => by omega⟩
            · have e3 : (pvs cl hl ps2).getD m1 false = (pvs cl hl ps1).getD m1 false := getD_pre (pvs_prefix g5) (by rw [pvs_length]; exact f2)
              have n1 : (c.toNat : Int) ≠ 61 := fun e => by rw [e] at hc; simp [isJoint] at hc
              have n2 : ¬ ((c.toNat : Int) = 80 ∨ (c.toNat : Int) = 81) := fun e => by rcases e with e | e <;> (rw [e] at hc; simp [isJoint] at hc)
              have n3 : (c.toNat : Int) ≠ 33 := fun e => by rw [e] at hc; simp [isJoint] at hc
              unfold pv1
              rw [if_neg n1, if_neg n2, if_neg n3]
              simp only
              rw [e3, hv, gv]
          · obtain ⟨p, hp⟩ := gr.2 q2
            rw [hp]
            exact ⟨fun h => by omega, fun _ => ⟨p, rfl⟩⟩
        · obtain ⟨p, hp⟩ := (hr (by omega) hi).2 q1
          rw [hp]
          exact ⟨fun h => by omega, fun _ => ⟨p, rfl⟩⟩
  stab := fun ts cs ts' cs' h1 h2 => by
    obtain ⟨w1, w2⟩ := g.grow (r1 ts cs).1 (r1 ts cs).2
    obtain ⟨s1, s2⟩ := h.stab ts cs ts' cs' (w1.trans h1) (w2.trans h2)
    obtain ⟨s3, s4⟩ := g.stab (r1 ts cs).1 (r1 ts cs).2 ts' cs' h1 h2
    refine ⟨?_, fun cl hl => ?_⟩
    · (try simp only); rw [s1]; exact s3
    · (try simp only); rw [s2, s1]; (try simp only); rw [s4]
  grow := fun ts cs => ⟨(h.grow ts cs).1.trans (g.grow _ _).1, (h.grow ts cs).2.trans (g.grow _ _).2⟩

/-- What has been read as a formula is one. -/
theorem rdF_fm {pk : Nat → Int} (hb : ∀ a, 0 ≤ pk a ∧ pk a ≤ 255) : ∀ (n a d : Nat) (ts : List Key) (cs : List (Int × Nat)) (a1 : Nat) (ts1 : List Key) (cs1 : List (Int × Nat)), rdF pk n a d ts cs = .ok (a1, ts1, cs1) →
    ∃ txt dep run val, FmOk txt dep run val ∧ At pk a txt ∧ a1 = a + txt.length := by
  have byte : ∀ a, ∃ c : UInt8, pk a = (c.toNat : Int) := fun a => ⟨UInt8.ofNat (pk a).toNat, by have := hb a; simp; omega⟩
  intro n
  induction n with
  | zero => intro a d ts cs a1 ts1 cs1 h; cases h
  | succ n ih =>
    intro a d ts cs a1 ts1 cs1 h
    unfold rdF at h
    by_cases h33 : pk a = 33
    · rw [if_pos h33] at h
      obtain ⟨txt, dep, run, val, q1, q2, q3⟩ := ih _ _ _ _ _ _ _ h
      exact ⟨_, _, _, _, fm_no q1, At.cons h33 q2, by rw [q3]; simp; omega⟩
    · rw [if_neg h33] at h
      by_cases h40 : pk a = 40
      · rw [if_pos h40] at h
        by_cases h8 : d = 8
        · rw [if_pos h8] at h; cases h
        · rw [if_neg h8] at h
          rcases hr : rdF pk n (a + 1) (d + 1) ts cs with e | ⟨b, ts2, cs2⟩
          · rw [hr] at h; cases h
          · rw [hr] at h
            simp only at h
            by_cases hj : isJoint (pk b) = true
            · rw [if_pos hj] at h
              rcases hr2 : rdF pk n (b + 1) (d + 1) ts2 cs2 with e | ⟨b2, ts3, cs3⟩
              · rw [hr2] at h; cases h
              · rw [hr2] at h
                simp only at h
                by_cases h41 : pk b2 = 41
                · rw [if_pos h41] at h
                  obtain ⟨txt, dep, run, val, q1, q2, q3⟩ := ih _ _ _ _ _ _ _ hr
                  obtain ⟨txt2, dep2, run2, val2, p1, p2, p3⟩ := ih _ _ _ _ _ _ _ hr2
                  obtain ⟨c, hc⟩ := byte b
                  injection h with h
                  injection h with h1 _
                  subst q3
                  subst p3
                  rw [hc] at hj
                  refine ⟨_, _, _, _, fm_jn hj q1 p1, At.cons h40 (q2.app (At.cons hc (p2.app ((At.nil pk _).cons h41)))), ?_⟩
                  rw [← h1]; simp; omega
                · rw [if_neg h41] at h; cases h
            · rw [if_neg hj] at h; cases h
      · rw [if_neg h40] at h
        by_cases h8 : pk a = 80 ∨ pk a = 81
        · rw [if_pos h8] at h
          obtain ⟨c, hc⟩ := byte a
          unfold arg1 at h
          by_cases g40 : pk (a + 1) = 40
          · rw [if_pos g40] at h
            by_cases d8 : d = 8
            · rw [if_pos d8] at h; cases h
            · rw [if_neg d8] at h
              rcases hr : rdT pk (n + 1) (a + 1 + 1) (d + 1) ts with e | ⟨b, ts2, k⟩
              · rw [hr] at h; cases h
              · rw [hr] at h
                simp only at h
                by_cases h41 : pk b = 41
                · rw [if_pos h41] at h
                  obtain ⟨txt, dep, run, q1, q2, q3⟩ := rdT_tm _ _ _ _ _ _ _ hr
                  injection h with h
                  injection h with h1 _
                  subst q3
                  refine ⟨_, _, _, _, fm_cl (by omega) q1, At.cons hc (At.cons g40 (q2.app ((At.nil pk _).cons h41))), ?_⟩
                  rw [← h1]; simp; omega
                · rw [if_neg h41] at h; cases h
          · rw [if_neg g40] at h; cases h
        · rw [if_neg h8] at h
          unfold rdEq at h
          rcases hr : rdT pk (n + 1) a d ts with e | ⟨b, ts2, k⟩
          · rw [hr] at h; cases h
          · rw [hr] at h
            simp only at h
            by_cases h61 : pk b = 61
            · rw [if_pos h61] at h
              rcases hr2 : rdT pk (n + 1) (b + 1) d ts2 with e | ⟨b2, ts3, k2⟩
              · rw [hr2] at h; cases h
              · rw [hr2] at h
                obtain ⟨txt, dep, run, q1, q2, q3⟩ := rdT_tm _ _ _ _ _ _ _ hr
                obtain ⟨txt2, dep2, run2, p1, p2, p3⟩ := rdT_tm _ _ _ _ _ _ _ hr2
                injection h with h
                injection h with h1 _
                subst q3
                subst p3
                refine ⟨_, _, _, _, fm_eq q1 p1, q2.app (At.cons h61 p2), ?_⟩
                rw [← h1]; simp; omega
            · rw [if_neg h61] at h; cases h

end Go.Proofs.YthcppbmkacbbiaaGreat.Ast

namespace Go.Proofs.YthcppbmkacbbiaaGreat
open Rdg (Key Inv InvC texts pvs put)
open Nx Ast

/-- The sound cases over some terms and claims in which v holds. -/
def cN (ts : List Key) (cs : List (Int × Nat)) (v : List Int → List Bool → Bool) : Nat :=
  sumTo (rws 0 ts.length) (fun row => (bls cs.length).countP fun hl => snd (texts ts) (ctx ts cs) (clI row) hl && v (clI row) hl) (rws 0 ts.length).length

theorem pk_at (s : ByteArray) : At (pk s) 0 s.data.toList := fun i hi => by
  have hi' : i < s.size := by simpa using hi
  unfold pk
  rw [Nat.zero_add, dif_pos hi']
  simp [ByteArray.getElem_eq_getElem_data]

theorem at_eq {s : ByteArray} {txt : List UInt8} (h : At (pk s) 0 txt) (hl : txt.length = s.size) : s.data.toList = txt := by
  have hls : s.data.toList.length = s.size := by simp
  refine List.ext_getElem (by omega) fun i h1 h2 => ?_
  have e1 := pk_at s i h1
  have e2 := h i h2
  exact UInt8.toNat.inj (by omega)

/-- A text that is right is a formula. -/
theorem fm_of (s : ByteArray) (hs : s.size ≤ 100) (h0 : (chk s).1 = 0) : ∃ dep run val, FmOk s.data.toList dep run val := by
  obtain ⟨ts, cs, ps, h1, _⟩ := right_parts s hs h0
  have h2 := Rdg.less_rdP (pk s) (s.size + 1) 0 0 [] [] []
  rw [h1] at h2
  obtain ⟨txt, dep, run, val, q1, q2, q3⟩ := rdF_fm (pk_bd s) _ _ _ _ _ _ _ _ h2.symm
  rw [at_eq q2 (by omega)]
  exact ⟨dep, run, val, q1⟩

theorem ctell_fm {s : ByteArray} {txt : List UInt8} {dep : Nat} {run : List Key → List (Int × Nat) → List Key × List (Int × Nat)} {val : List Int → List Bool → List Key → List (Int × Nat) → Bool} (h : FmOk txt dep run val) (e : s.data.toList = txt) (hs : s.size ≤ 100) (h0 : (chk s).1 = 0) :
    ctell s = (((cN (run [] []).1 (run [] []).2 (fun cl hl => val cl hl [] []) : Nat) : Int), 0) ∧ Inv (run [] []).1 ∧ InvC (run [] []).1 (run [] []).2 ∧ (run [] []).1.length ≤ 7 ∧ (run [] []).2.length ≤ 4 := by
  obtain ⟨ts, cs, ps, h1, h2, h3, h4, h5, h6, h7, h8, h9, h10, h11, h12⟩ := right_parts s hs h0
  have hl : txt.length = s.size := by rw [← e]; simp
  have hr := h.reads (pk s) s.size (s.size + 1) 0 0 [] [] [] (fun _ q => pk_lt q) (Nat.zero_le _) (by rw [← e]; exact pk_at s) (by omega) (by omega) ⟨List.nodup_nil, fun i hi => by simp at hi⟩
  by_cases hd : 0 + dep ≤ 8
  · obtain ⟨ps1, m, hp, hv⟩ := hr.1 hd
    rw [h1] at hp
    injection hp with hp
    simp only [Prod.mk.injEq] at hp
    obtain ⟨_, e1, e2, e3, e4⟩ := hp
    subst e3
    refine ⟨?_, by rw [← e1]; exact h4, by rw [← e1, ← e2]; exact h5, by rw [← e1]; exact h2, by rw [← e2]; exact h3⟩
    unfold ctell
    rw [if_pos ⟨hs, h0⟩, h6]
    simp only
    unfold dAll cN
    rw [← e1, ← e2, Rdg.texts_length]
    have hg : (dOne s (texts ts) (ctx ts cs)) = fun row => (bls cs.length).countP fun hl => snd (texts ts) (ctx ts cs) (clI row) hl && val (clI row) hl [] [] := by
      funext row
      unfold dOne
      rw [show (ctx ts cs).length = cs.length by simp [ctx]]
      congr 1
      funext hl
      rw [tru_last s (clI row) hl ts cs ps _ h1, ← hv, e4]
    rw [hg]
  · obtain ⟨p, hp⟩ := hr.2 hd
    rw [h1] at hp
    cases hp

/-- What the statements' count tells. -/
def kc (s : ByteArray) : Int := if (ctell s).2 ≠ 0 then -1 else (ctell s).1

theorem kc_ok {s : ByteArray} (h : 0 ≤ kc s) : (s.size ≤ 100 ∧ (chk s).1 = 0) ∧ kc s = (ctell s).1 := by
  unfold kc at h ⊢
  by_cases hc : (ctell s).2 ≠ 0
  · rw [if_pos hc] at h; omega
  · rw [if_neg hc]
    refine ⟨?_, rfl⟩
    refine Classical.byContradiction fun hn => ?_
    unfold ctell at hc
    rw [if_neg hn] at hc
    exact hc (chk_long hn)

theorem sumTo_add {α : Type} (L : List α) (f g h : α → Nat) (e : ∀ x, f x + g x = h x) (k : Nat) : sumTo L f k + sumTo L g k = sumTo L h k := by
  unfold sumTo
  induction (L.take k) with
  | nil => rfl
  | cons x r ih =>
    simp only [List.map_cons, List.sum_cons]
    have := e x
    omega

theorem sumTo_mono {α : Type} (L : List α) (f g : α → Nat) (e : ∀ x, f x ≤ g x) (k : Nat) : sumTo L f k ≤ sumTo L g k := by
  unfold sumTo
  induction (L.take k) with
  | nil => exact Nat.le_refl _
  | cons x r ih =>
    simp only [List.map_cons, List.sum_cons]
    have := e x
    omega

theorem countP_split {α : Type} (L : List α) (p v : α → Bool) : L.countP (fun x => p x && v x) + L.countP (fun x => p x && !v x) = L.countP (fun x => p x && true) := by
  induction L with
  | nil => rfl
  | cons x r ih =>
    simp only [List.countP_cons]
    cases p x <;> cases v x <;> simp at ih ⊢ <;> omega

theorem cN_split (ts : List Key) (cs : List (Int × Nat)) (v : List Int → List Bool → Bool) : cN ts cs v + cN ts cs (fun cl hl => !v cl hl) = cN ts cs (fun _ _ => true) :=
  sumTo_add _ _ _ _ (fun _ => countP_split _ _ _) _

theorem cN_none (ts : List Key) (cs : List (Int × Nat)) : cN ts cs (fun _ _ => false) = 0 := by
  unfold cN sumTo
  induction ((rws 0 ts.length).take (rws 0 ts.length).length) with
  | nil => rfl
  | cons x r ih => simp only [List.map_cons, List.sum_cons, ih]; simp

theorem cN_mono (ts : List Key) (cs : List (Int × Nat)) (v u : List Int → List Bool → Bool) (h : ∀ cl hl, v cl hl = true → u cl hl = true) : cN ts cs v ≤ cN ts cs u :=
  sumTo_mono _ _ _ (fun _ => List.countP_mono_left fun hl _ q => by
    simp only [Bool.and_eq_true] at q ⊢
    exact ⟨q.1, h _ _ q.2⟩) _

theorem bls_all : ∀ (n : Nat) (l : List Bool), l.length = n → l ∈ bls n
  | 0, l, h => by have := List.eq_nil_of_length_eq_zero h; subst this; simp [bls]
  | n + 1, [], h => by simp at h
  | n + 1, b :: l, h => by
    have := bls_all n l (by simpa using h)
    unfold bls
    cases b <;> simp [this]

theorem cN_some {ts : List Key} {cs : List (Int × Nat)} : 0 < cN ts cs (fun _ _ => true) := by
  unfold cN
  have hp := rws_pos ts.length 0
  have h1 : sumTo (rws 0 ts.length) (fun row => (bls cs.length).countP fun hl => snd (texts ts) (ctx ts cs) (clI row) hl && true) 1 ≤ sumTo (rws 0 ts.length) (fun row => (bls cs.length).countP fun hl => snd (texts ts) (ctx ts cs) (clI row) hl && true) (rws 0 ts.length).length := by
    unfold sumTo
    have e : (rws 0 ts.length).take (rws 0 ts.length).length = (rws 0 ts.length).take 1 ++ (rws 0 ts.length).drop 1 := by rw [List.take_append_drop, List.take_length]
    rw [e, List.map_append, List.sum_append]
    omega
  refine Nat.lt_of_lt_of_le ?_ h1
  have e0 : (rws 0 ts.length)[0] = List.replicate ts.length 0 := by have := rws_zero ts.length 0; rw [List.getElem?_eq_getElem hp] at this; exact Option.some.inj this
  rw [sumTo_succ _ _ hp, sumTo_zero, e0, Nat.zero_add]
  refine List.countP_pos_iff.2 ⟨List.replicate cs.length true, bls_all _ _ (by simp), ?_⟩
  rw [Bool.and_true]
  refine snd_good (fun i k hi hk => ?_) (fun i k hi hk => ?_)
  · rw [Rdg.texts_length] at hi hk
    have e : (clI (List.replicate ts.length 0)).getD i 0 = (clI (List.replicate ts.length 0)).getD k 0 := by
      simp [clI, List.getD_eq_getElem?_getD, hi, hk]
    unfold badT
    rw [e]
    simp
  · have hc : (ctx ts cs).length = cs.length := by simp [ctx]
    rw [hc] at hi hk
    have e : (List.replicate cs.length true).getD i false = (List.replicate cs.length true).getD k false := by
      simp [List.getD_eq_getElem?_getD, hi, hk]
    unfold badC
    rw [e]
    simp

/-- P6: the models of a formula and those of its negation. -/
theorem whole_law (F : List UInt8) (h1 : 0 ≤ kc ⟨F.toArray⟩) (h2 : 0 ≤ kc ⟨(33 :: F).toArray⟩) (h3 : 0 ≤ kc ⟨(40 :: (F ++ 124 :: ((33 :: F) ++ [41]))).toArray⟩) (h4 : 0 ≤ kc ⟨(40 :: (F ++ 38 :: ((33 :: F) ++ [41]))).toArray⟩) :
    kc ⟨F.toArray⟩ + kc ⟨(33 :: F).toArray⟩ = kc ⟨(40 :: (F ++ 124 :: ((33 :: F) ++ [41]))).toArray⟩ ∧ kc ⟨(40 :: (F ++ 38 :: ((33 :: F) ++ [41]))).toArray⟩ = 0 ∧ 0 < kc ⟨(40 :: (F ++ 124 :: ((33 :: F) ++ [41]))).toArray⟩ := by
  obtain ⟨⟨a1, b1⟩, e1⟩ := kc_ok h1
  obtain ⟨⟨a2, b2⟩, e2⟩ := kc_ok h2
  obtain ⟨⟨a3, b3⟩, e3⟩ := kc_ok h3
  obtain ⟨⟨a4, b4⟩, e4⟩ := kc_ok h4
  obtain ⟨dep, run, val, hf⟩ := fm_of _ a1 b1
  have hf : FmOk F dep run val := hf
  have hn := fm_no hf
  have hor := fm_jn (c := 124) (by decide) hf hn
  have han := fm_jn (c := 38) (by decide) hf hn
  obtain ⟨s1, s2⟩ := hf.stab [] [] (run [] []).1 (run [] []).2 (List.prefix_refl _) (List.prefix_refl _)
  rw [e1, e2, e3, e4, (ctell_fm hf rfl a1 b1).1, (ctell_fm hn rfl a2 b2).1, (ctell_fm hor rfl a3 b3).1, (ctell_fm han rfl a4 b4).1]
  simp only [s1, s2]
  have v1 : (fun cl hl => Rdg.jn (((124 : UInt8).toNat : Nat) : Int) (val cl hl [] []) (!val cl hl [] [])) = fun _ _ => true := by
    funext cl hl
    cases val cl hl [] [] <;> rfl
  have v2 : (fun cl hl => Rdg.jn (((38 : UInt8).toNat : Nat) : Int) (val cl hl [] []) (!val cl hl [] [])) = fun _ _ => false := by
    funext cl hl
    cases val cl hl [] [] <;> rfl
  rw [v1, v2, cN_none]
  have hs := cN_split (run [] []).1 (run [] []).2 (fun cl hl => val cl hl [] [])
  have hp := cN_some (ts := (run [] []).1) (cs := (run [] []).2)
  omega

end Go.Proofs.YthcppbmkacbbiaaGreat

namespace Go.Proofs.YthcppbmkacbbiaaGreat
open Go.RowKit

set_option maxRecDepth 100000 in
set_option maxHeartbeats 1000000 in
theorem kcount_any (w : World) (s : ByteArray) (hm : s.size ≤ maxLen) : Calls Tryz.prog 17 #[.string s] w fun e w' => e = .returned (.int .i64 (kc s)) ∧ Below w.heap.size w w' := by
  have H := hide (count_any w s hm)
  unfold kc
  generalize ctell s = c at H ⊢
  obtain ⟨x, E⟩ := c
  simp only at H ⊢
  by_cases hE : E ≠ 0
  · have hb : (E != 0) = true := by simpa using hE
    rw [if_pos hE]
    clear hE
    go_enter Tryz.func17, Tryz.ntmps17
    go_wp2_with fail
    refine (unhide H).mono ?_
    rintro e w1 ⟨rfl, b1⟩
    go_wp2_with fail
    go_ret
    exact ⟨rfl, b1⟩
  · have hb : (E != 0) = false := by simpa using hE
    rw [if_neg hE]
    clear hE
    go_enter Tryz.func17, Tryz.ntmps17
    go_wp2_with fail
    refine (unhide H).mono ?_
    rintro e w1 ⟨rfl, b1⟩
    go_wp2_with fail
    go_ret
    exact ⟨rfl, b1⟩

theorem kc_bound (s : ByteArray) : -1 ≤ kc s ∧ kc s ≤ 20000 := by
  by_cases h : 0 ≤ kc s
  · obtain ⟨⟨a, b⟩, e⟩ := kc_ok h
    refine ⟨by omega, ?_⟩
    rw [e]
    unfold ctell
    rw [if_pos ⟨a, b⟩]
    obtain ⟨ts, cs, ps, h1, h2, h3, h4, h5, h6, _⟩ := right_parts s a b
    have q := Nx.sumTo_le (Nx.rws 0 (rall s).T.length) (dOne s (rall s).T (rall s).C) (dOne_le s (rall s).T (rall s).C (by rw [h6]; simpa [ctx] using h3)) (Nx.rws 0 (rall s).T.length).length
    have q2 := Nx.rws_few (n := (rall s).T.length) (by rw [h6]; simpa [Rdg.texts_length] using h2)
    show ((dAll s (rall s).T (rall s).C : Nat) : Int) ≤ 20000
    unfold dAll
    omega
  · unfold kc at h ⊢
    by_cases hc : (ctell s).2 ≠ 0
    · rw [if_pos hc]; omega
    · rw [if_neg hc] at h ⊢
      exfalso
      apply h
      unfold ctell
      split <;> simp

theorem kc_1 : kc ⟨#[40, 97, 61, 98, 124, 98, 61, 99, 41]⟩ = 3 := by kernel_rfl
theorem kc_2 : kc ⟨#[40, 80, 40, 97, 41, 45, 80, 40, 98, 41, 41]⟩ = 4 := by kernel_rfl
theorem kc_3 : kc ⟨#[40, 97, 61, 98, 38, 33, 102, 40, 97, 41, 61, 102, 40, 98, 41, 41]⟩ = 0 := by kernel_rfl

set_option maxRecDepth 100000 in
set_option maxHeartbeats 1000000 in
theorem counted_any (w : World) : Calls Tryz.prog 16 #[] w fun e w' => e = .returned (.bool true) ∧ Below w.heap.size w w' := by
  have H1 := hide (fun w => kcount_any w ⟨#[40, 97, 61, 98, 124, 98, 61, 99, 41]⟩ (by decide))
  have H2 := hide (fun w => kcount_any w ⟨#[40, 80, 40, 97, 41, 45, 80, 40, 98, 41, 41]⟩ (by decide))
  have H3 := hide (fun w => kcount_any w ⟨#[40, 97, 61, 98, 38, 33, 102, 40, 97, 41, 61, 102, 40, 98, 41, 41]⟩ (by decide))
  rw [kc_1] at H1
  rw [kc_2] at H2
  rw [kc_3] at H3
  go_enter Tryz.func16, Tryz.ntmps16
  go_wp2_with fail
  refine (unhide H1 _).mono ?_
  rintro e w1 ⟨rfl, b1⟩
  go_wp2_with fail
  refine (unhide H2 _).mono ?_
  rintro e w2 ⟨rfl, b2⟩
  go_wp2_with fail
  refine (unhide H3 _).mono ?_
  rintro e w3 ⟨rfl, b3⟩
  go_wp2_with fail
  go_ret
  exact ⟨rfl, (b1.trans (b2.mono b1.size)).trans (b3.mono (Nat.le_trans b1.size b2.size))⟩

end Go.Proofs.YthcppbmkacbbiaaGreat
