import Derived.Test.YthcppbmkacbbiaaGreatClsM
import Derived.Test.YthcppbmkacbbiaaGreatRdgM
import Derived.Test.YthcppbmkacbbiaaGreatAlkTM
import Derived.Lib.SliceRun
import Derived.BigFrame
import Derived.RangeFuncBox
import Derived.Test.YthcppbmkacbbiaaGreatRefKM
import Derived.Test.YthcppbmkacbbiaaGreatMadM
import Derived.Test.YthcppbmkacbbiaaGreatTruM
namespace Go.Proofs.YthcppbmkacbbiaaGreat
open Go.RowKit

/-- What blocks ahead of B tell, and no other. -/
def AbB {β : Type} (B : Nat) (J : β → World → Prop) : Prop := ∀ s A C, J s A → B ≤ A.heap.size → Below B A C → J s C

theorem below_put {B l : Nat} {W : World} {o' : Obj} (h : B ≤ l) : Below B W (W.putObj l o') :=
  ⟨rfl, rfl, rfl, by simp [World.putObj], fun k hk => World.putObj_heap_other (by omega)⟩

/-- An iterator that hands on N values, the k-th of which is as X k says, to a yield that never says no: J k holds when k of them have gone. It may write what it made itself. -/
def SeqRel (F : Fence) (n : Nat) (P : Program) (g : Nat) (lb : Array Value) (N : Nat) (X : Nat → Array Value → World → Prop) (Kp : World → World → Prop) (w : World) : Prop :=
  ∀ (l : Nat) (J : Nat → World → Prop) (W : World), Below w.heap.size w W → AbB W.heap.size J →
    (∀ k xs W1, k < N → W.heap.size ≤ W1.heap.size → X k xs W1 → J k W1 → YieldAt F (n - 1) P l xs W1 fun e W' => e = .returned (.bool true) ∧ J (k + 1) W' ∧ Kp W1 W' ∧ W1.heap.size ≤ W'.heap.size) →
    J 0 W →
    CallsIn F n P g (#[.func (.yield l) #[] #[]] ++ lb) W fun e W' => (∃ v, e = .returned v) ∧ J N W' ∧ W.heap.size ≤ W'.heap.size

/-- THE LOOP over such an iterator: what holds (I k) when k rounds are over. -/
theorem wpIn_rangeFunc_rel {F : Fence} {n : Nat} {P : Program} {g : Operand} {ps : Array Tmp} {assign body : Code} {Q : Exit → Act → World → Prop} {a : Act} {w : World}
    (hro : F.round = none) (h1 : 1 ≤ n) {gf : Nat} {lb : Array Value} (hg : a.eval g = .func (.func gf) #[] lb) (hFg : F.fn gf) (eg : ∀ args w, (callFunc gf args).run P w = .ok (.enter gf args) w)
    {N : Nat} {X : Nat → Array Value → World → Prop} {Kp : World → World → Prop} {w0 : World} (hseq : SeqRel F (n - 1) P gf lb N X Kp w0)
    (hKt : ∀ {A B C : World}, Kp A B → Kp B C → Kp A C) (hKb : ∀ (W : World) (l : Nat) (o o' : Obj), w.heap.size ≤ l → W.heap[l]? = some o → o.isCells = false → o.isWalk = false → Kp W (W.putObj l o'))
    (hb0 : Below w0.heap.size w0 w) (hps : ∀ k xs W, X k xs W → xs.size = ps.size)
    (I : Nat → World → Prop) (hI : AbB w.heap.size I) (h0 : I 0 w) (Ax : Nat → Act → World → Prop)
    (hAx : ∀ k a' (W : World) l r r', w.heap.size ≤ l → W.heap[l]? = some (.loop r) → Ax k a' W → Ax k a' (W.putObj l (.loop r')))
    (hassign : ∀ (l k : Nat) (xs : Array Value) (W : World) (K : Act → World → Prop), k < N → w.heap.size ≤ W.heap.size → X k xs W → I k W → (∀ a' W', KeepsFrom w.heap.size W W' → Kp W W' → I k W' → Ax k a' W' → K a' W') →
      assign.wpIn (F.inRound l) (n - 1 - 1) P (Exit.then K (fun _ _ _ => False)) { tmps := (ps.zip xs).foldl (fun t (p, v) => t.setIfInBounds p v) a.tmps, defers := [] } W)
    (hbody : ∀ (l k : Nat) (a' : Act) (W : World), k < N → w.heap.size ≤ l → (∃ r, W.heap[l]? = some (.loop r)) → I k W → Ax k a' W → body.wpIn (F.inRound l) (n - 1 - 1) P (goesOn w.heap.size Kp (I (k + 1)) W) a' W)
    (hdone : ∀ (D : Nat) (W : World), w.heap.size ≤ D → I N W → W.heap[D]? = some (.deferred (some [])) → Q .normal { a with defers := { target := .collected D, args := #[] } :: a.defers } W) :
    (Code.rangeFunc g ps assign body).wpIn F n P Q a w := by
  refine wpIn_rangeFunc ?_
  intro fn hfn
  rw [hro]
  obtain ⟨lp, hlp⟩ : ∃ lp : LoopState → Option Code → Loop, lp = fun st pe => { state := st, pending := pe, fn, tmps := a.tmps, params := ps, assign, body, defers := w.heap.size } := ⟨_, rfl⟩
  obtain ⟨W1, hW1⟩ : ∃ W1, (w.alloc (.deferred (some []))).alloc (.loop (lp .ready none)) = W1 := ⟨_, rfl⟩
  have hsz1 : W1.heap.size = w.heap.size + 2 := by rw [← hW1]; simp
  have loop1 : W1.heap[w.heap.size + 1]? = some (.loop (lp .ready none)) := by
    have h := World.alloc_heap_new (w.alloc (.deferred (some []))) (.loop (lp .ready none))
    rw [World.size_alloc] at h
    rw [← hW1]; exact h
  have defer1 : W1.heap[w.heap.size]? = some (.deferred (some [])) := by
    rw [← hW1]; exact (Below.heap_alloc _ _ _ (by simp)).trans (World.alloc_heap_new w _)
  have hbw : Below w.heap.size w W1 := by rw [← hW1]; exact ((Below.refl _ w).alloc (Nat.le_refl _) _).alloc (by simp) _
  have inv1 : I 0 W1 := hI 0 w W1 h0 (Nat.le_refl _) hbw
  have below1 : Below w0.heap.size w0 W1 := hb0.trans (hbw.mono hb0.size)
  have abide : AbB W1.heap.size (fun k W => I k W ∧ W.heap[w.heap.size + 1]? = some (.loop (lp .ready none)) ∧ W.heap[w.heap.size]? = some (.deferred (some []))) := by
    intro k A C hk hs hb
    exact ⟨hI k A C hk.1 (by omega) (hb.mono (by omega)), (hb.block _ (by omega)).trans hk.2.1, (hb.block _ (by omega)).trans hk.2.2⟩
  refine ⟨w.heap.size + 1, [{ target := .collected w.heap.size, args := #[] }], W1, { target := .fn (.func gf) lb, args := #[.func (.yield (w.heap.size + 1)) #[] #[]] }, W1, gf,
    #[.func (.yield (w.heap.size + 1)) #[] #[]] ++ lb, W1, ?_, ?_, ?_, ?_, fun _ => h1, ?_⟩
  · rw [← hW1, hlp]; exact run_enterLoop_outer _ _ _ _ _
  · simp only [resolve, hg]
    simp [go_sem]
  · intro f' hf'; simp [Target.leads] at hf'; subst hf'; exact hFg
  · simp [invoke, go_sem, eg]
  · refine (hseq (w.heap.size + 1) _ W1 below1 abide ?_ ⟨inv1, loop1, defer1⟩).mono ?_
    · rintro k xs W hk hsW hX ⟨hi, hl, hd⟩
      have hy := run_yield (P := P) (args := xs) hl (by rw [hlp]; exact hps k xs W hX)
      rw [hlp] at hy
      refine ⟨fn, _, assign, body, hy, roundIn_of_wpIn hfn (hassign _ k xs W _ hk (by omega) hX hi ?_)⟩
      intro a' Wa keepA kpA iA ax
      have hl2 := keepA.same _ _ (by omega) hl rfl
      have hd2 := keepA.same _ _ (Nat.le_refl _) hd rfl
      have hlt : w.heap.size + 1 < Wa.heap.size := (Array.getElem?_eq_some_iff.1 hl2).1
      refine ⟨_, run_beginRound hl2 (by rw [hlp]), ?_⟩
      have hl3 : (Wa.putObj (w.heap.size + 1) (.loop { lp .ready none with state := .busy })).heap[w.heap.size + 1]? = some (.loop { lp .ready none with state := .busy }) := World.putObj_heap_same hlt
      have hd3 : (Wa.putObj (w.heap.size + 1) (.loop { lp .ready none with state := .busy })).heap[w.heap.size]? = some (.deferred (some [])) := (World.putObj_heap_other (by omega)).trans hd2
      have kp3 : Kp Wa (Wa.putObj (w.heap.size + 1) (.loop { lp .ready none with state := .busy })) := hKb _ _ _ _ (by omega) hl2 rfl rfl
      refine wpIn_mono (hbody (w.heap.size + 1) k a' _ hk (by omega) ⟨_, hl3⟩ (hI k _ _ iA (by omega) (below_put (by omega))) (hAx k a' _ _ _ _ (by omega) hl2 ax)) ?_
      rintro e a3 W3 hp
      cases e with
      | normal =>
        obtain ⟨keep3, kp4, i3⟩ := hp
        have hl4 := keep3.same _ _ (by omega) hl3 rfl
        have hlt4 := (Array.getElem?_eq_some_iff.1 hl4).1
        have hr := run_endRound (P := P) none hl4
        rw [hlp] at hr
        refine ⟨_, _, hr, rfl, ⟨hI (k + 1) _ _ i3 (by omega) (below_put (by omega)), ?_, ?_⟩, hKt kpA (hKt (hKt kp3 kp4) (hKb _ _ _ _ (by omega) hl4 rfl rfl)), ?_⟩
        · rw [hlp]; exact World.putObj_heap_same hlt4
        · exact (World.putObj_heap_other (by omega)).trans (keep3.same _ _ (Nat.le_refl _) hd3 rfl)
        · have e1 := keepA.size
          have e2 := keep3.size
          simp only [World.putObj, Array.size_setIfInBounds] at e2 ⊢
          omega
      | ret => exact hp.elim
      | exit id => exact hp.elim
      | goto t => exact hp.elim
      | panic ch => exact hp.elim
      | outgrown => exact hp.elim
    · rintro e W2 ⟨⟨v, rfl⟩, ⟨hi, hl, hd⟩, hs2⟩
      have hr := run_endLoop (P := P) hl (by rw [hlp]; simp)
      rw [hlp] at hr
      exact ⟨none, _, hr, hdone _ _ (Nat.le_refl _) (hI N _ _ hi (by omega) (below_put (by omega))) ((World.putObj_heap_other (by omega)).trans hd)⟩

/-- The same within a round of a loop l0. -/
theorem wpIn_rangeFunc_reln {F : Fence} {n : Nat} {P : Program} {g : Operand} {ps : Array Tmp} {assign body : Code} {Q : Exit → Act → World → Prop} {a : Act} {w : World}
    {l0 : Nat} {r0 : Loop} (hro : F.round = some l0) (hl0 : w.heap[l0]? = some (.loop r0)) (h1 : 1 ≤ n) {gf : Nat} {lb : Array Value} (hg : a.eval g = .func (.func gf) #[] lb) (hFg : F.fn gf) (eg : ∀ args w, (callFunc gf args).run P w = .ok (.enter gf args) w)
    {N : Nat} {X : Nat → Array Value → World → Prop} {Kp : World → World → Prop} {w0 : World} (hseq : SeqRel F (n - 1) P gf lb N X Kp w0)
    (hKt : ∀ {A B C : World}, Kp A B → Kp B C → Kp A C) (hKb : ∀ (W : World) (l : Nat) (o o' : Obj), w.heap.size ≤ l → W.heap[l]? = some o → o.isCells = false → o.isWalk = false → Kp W (W.putObj l o'))
    (hb0 : Below w0.heap.size w0 w) (hps : ∀ k xs W, X k xs W → xs.size = ps.size)
    (I : Nat → World → Prop) (hI : AbB w.heap.size I) (h0 : I 0 w) (Ax : Nat → Act → World → Prop)
    (hAx : ∀ k a' (W : World) l r r', w.heap.size ≤ l → W.heap[l]? = some (.loop r) → Ax k a' W → Ax k a' (W.putObj l (.loop r')))
    (hassign : ∀ (l k : Nat) (xs : Array Value) (W : World) (K : Act → World → Prop), k < N → w.heap.size ≤ W.heap.size → X k xs W → I k W → (∀ a' W', KeepsFrom w.heap.size W W' → Kp W W' → I k W' → Ax k a' W' → K a' W') →
      assign.wpIn (F.inRound l) (n - 1 - 1) P (Exit.then K (fun _ _ _ => False)) { tmps := (ps.zip xs).foldl (fun t (p, v) => t.setIfInBounds p v) a.tmps, defers := [] } W)
    (hbody : ∀ (l k : Nat) (a' : Act) (W : World), k < N → w.heap.size ≤ l → (∃ r, W.heap[l]? = some (.loop r)) → I k W → Ax k a' W → body.wpIn (F.inRound l) (n - 1 - 1) P (goesOn w.heap.size Kp (I (k + 1)) W) a' W)
    (hdone : ∀ (W : World), w.heap.size ≤ W.heap.size → I N W → Q .normal a W) :
    (Code.rangeFunc g ps assign body).wpIn F n P Q a w := by
  refine wpIn_rangeFunc ?_
  intro fn hfn
  rw [hro]
  obtain ⟨lp, hlp⟩ : ∃ lp : LoopState → Option Code → Loop, lp = fun st pe => { state := st, pending := pe, fn, tmps := a.tmps, params := ps, assign, body, defers := r0.defers } := ⟨_, rfl⟩
  obtain ⟨W1, hW1⟩ : ∃ W1, w.alloc (.loop (lp .ready none)) = W1 := ⟨_, rfl⟩
  have hsz1 : W1.heap.size = w.heap.size + 1 := by rw [← hW1]; simp
  have loop1 : W1.heap[w.heap.size]? = some (.loop (lp .ready none)) := by rw [← hW1]; exact World.alloc_heap_new w _
  have hbw : Below w.heap.size w W1 := by rw [← hW1]; exact (Below.refl _ w).alloc (Nat.le_refl _) _
  have inv1 : I 0 W1 := hI 0 w W1 h0 (Nat.le_refl _) hbw
  have below1 : Below w0.heap.size w0 W1 := hb0.trans (hbw.mono hb0.size)
  have abide : AbB W1.heap.size (fun k W => I k W ∧ W.heap[w.heap.size]? = some (.loop (lp .ready none))) := by
    intro k A C hk hs hb
    exact ⟨hI k A C hk.1 (by omega) (hb.mono (by omega)), (hb.block _ (by omega)).trans hk.2⟩
  refine ⟨w.heap.size, [], W1, { target := .fn (.func gf) lb, args := #[.func (.yield w.heap.size) #[] #[]] }, W1, gf,
    #[.func (.yield w.heap.size) #[] #[]] ++ lb, W1, ?_, ?_, ?_, ?_, fun _ => h1, ?_⟩
  · rw [← hW1, hlp]; exact run_enterLoop_inner hl0 _ _ _ _ _
  · simp only [resolve, hg]
    simp [go_sem]
  · intro f' hf'; simp [Target.leads] at hf'; subst hf'; exact hFg
  · simp [invoke, go_sem, eg]
  · refine (hseq w.heap.size _ W1 below1 abide ?_ ⟨inv1, loop1⟩).mono ?_
    · rintro k xs W hk hsW hX ⟨hi, hl⟩
      have hy := run_yield (P := P) (args := xs) hl (by rw [hlp]; exact hps k xs W hX)
      rw [hlp] at hy
      refine ⟨fn, _, assign, body, hy, roundIn_of_wpIn hfn (hassign _ k xs W _ hk (by omega) hX hi ?_)⟩
      intro a' Wa keepA kpA iA ax
      have hl2 := keepA.same _ _ (Nat.le_refl _) hl rfl
      have hlt : w.heap.size < Wa.heap.size := (Array.getElem?_eq_some_iff.1 hl2).1
      refine ⟨_, run_beginRound hl2 (by rw [hlp]), ?_⟩
      have hl3 : (Wa.putObj w.heap.size (.loop { lp .ready none with state := .busy })).heap[w.heap.size]? = some (.loop { lp .ready none with state := .busy }) := World.putObj_heap_same hlt
      have kp3 : Kp Wa (Wa.putObj w.heap.size (.loop { lp .ready none with state := .busy })) := hKb _ _ _ _ (Nat.le_refl _) hl2 rfl rfl
      refine wpIn_mono (hbody w.heap.size k a' _ hk (Nat.le_refl _) ⟨_, hl3⟩ (hI k _ _ iA (by omega) (below_put (Nat.le_refl _))) (hAx k a' _ _ _ _ (Nat.le_refl _) hl2 ax)) ?_
      rintro e a3 W3 hp
      cases e with
      | normal =>
        obtain ⟨keep3, kp4, i3⟩ := hp
        have hl4 := keep3.same _ _ (Nat.le_refl _) hl3 rfl
        have hlt4 := (Array.getElem?_eq_some_iff.1 hl4).1
        have hr := run_endRound (P := P) none hl4
        rw [hlp] at hr
        refine ⟨_, _, hr, rfl, ⟨hI (k + 1) _ _ i3 (by omega) (below_put (Nat.le_refl _)), ?_⟩, hKt kpA (hKt (hKt kp3 kp4) (hKb _ _ _ _ (Nat.le_refl _) hl4 rfl rfl)), ?_⟩
        · rw [hlp]; exact World.putObj_heap_same hlt4
        · have e1 := keepA.size
          have e2 := keep3.size
          simp only [World.putObj, Array.size_setIfInBounds] at e2 ⊢
          omega
      | ret => exact hp.elim
      | exit id => exact hp.elim
      | goto t => exact hp.elim
      | panic ch => exact hp.elim
      | outgrown => exact hp.elim
    · rintro e W2 ⟨⟨v, rfl⟩, ⟨hi, hl⟩, hs2⟩
      have hr := run_endLoop (P := P) hl (by rw [hlp]; simp)
      rw [hlp] at hr
      exact ⟨none, _, hr, hdone _ (by simp only [World.putObj, Array.size_setIfInBounds]; omega) (hI N _ _ hi (by omega) (below_put (Nat.le_refl _)))⟩

end Go.Proofs.YthcppbmkacbbiaaGreat

namespace Go.Proofs.YthcppbmkacbbiaaGreat.Nx

/-- How many classes digits use. -/
def cm (m : Nat) (p : List Nat) : Nat := p.foldl (fun m d => max m (d + 1)) m

/-- The next digits behind some, m classes standing ahead of them. -/
def nxt : Nat → List Nat → Option (List Nat)
  | _, [] => none
  | m, d :: l => match nxt (max m (d + 1)) l with
    | some l' => some (d :: l')
    | none => if d < m then some ((d + 1) :: List.replicate l.length 0) else none

theorem nxt_cons (m d : Nat) (l : List Nat) : nxt m (d :: l) = match nxt (max m (d + 1)) l with
    | some l' => some (d :: l')
    | none => if d < m then some ((d + 1) :: List.replicate l.length 0) else none := rfl

/-- All rows of digits. -/
def rws : Nat → Nat → List (List Nat)
  | _, 0 => [[]]
  | m, n + 1 => (List.range' 0 (m + 1)).flatMap fun d => (rws (max m (d + 1)) n).map (d :: ·)

/-- Each one's next is the one behind it, the last one's is t. -/
def Orb {α : Type} (nx : α → Option α) (L : List α) (t : Option α) : Prop := ∀ k (hk : k < L.length), nx L[k] = if k + 1 < L.length then L[k + 1]? else t

theorem orb_append {α : Type} {nx : α → Option α} {L1 L2 : List α} {t : Option α} (h1 : Orb nx L1 L2[0]?) (h2 : Orb nx L2 t) (hne : 0 < L2.length) : Orb nx (L1 ++ L2) t := by
  intro k hk
  rw [List.length_append] at hk
  by_cases h : k < L1.length
  · rw [List.getElem_append_left h, h1 k h]
    by_cases h3 : k + 1 < L1.length
    · rw [if_pos h3, if_pos (by rw [List.length_append]; omega), List.getElem?_append_left h3]
    · rw [if_neg h3, if_pos (by rw [List.length_append]; omega), List.getElem?_append_right (by omega)]
      congr 1; omega
  · rw [List.getElem_append_right (by omega), h2 (k - L1.length) (by omega)]
    by_cases h3 : k + 1 < L1.length + L2.length
    · rw [if_pos (by omega), if_pos (by rw [List.length_append]; omega), List.getElem?_append_right (by omega)]
      congr 1; omega
    · rw [if_neg (by omega), if_neg (by rw [List.length_append]; omega)]

theorem rws_zero : ∀ n m, (rws m n)[0]? = some (List.replicate n 0)
  | 0, m => by simp [rws]
  | n + 1, m => by
    have h := rws_zero n (max m 1)
    have h2 : 0 < (rws (max m 1) n).length := by
      rcases Nat.eq_zero_or_pos (rws (max m 1) n).length with h3 | h3
      · rw [List.eq_nil_of_length_eq_zero h3] at h; cases h
      · exact h3
    unfold rws
    rw [show List.range' 0 (m + 1) = 0 :: List.range' 1 m from rfl, List.flatMap_cons, List.getElem?_append_left (by simpa using h2), List.getElem?_map]
    simp only [Nat.zero_add]
    rw [h]; rfl

theorem rws_pos (n m : Nat) : 0 < (rws m n).length := by
  rcases Nat.eq_zero_or_pos (rws m n).length with h3 | h3
  · have h := rws_zero n m; rw [List.eq_nil_of_length_eq_zero h3] at h; cases h
  · exact h3

theorem rws_len : ∀ (n m : Nat), ∀ r ∈ rws m n, r.length = n
  | 0, m, r, h => by simp [rws] at h; simp [h]
  | n + 1, m, r, h => by
    unfold rws at h
    obtain ⟨d, hd, hr⟩ := List.mem_flatMap.1 h
    obtain ⟨r', hr', rfl⟩ := List.mem_map.1 hr
    simp [rws_len n _ r' hr']

theorem rws_le : ∀ (n m : Nat), ∀ r ∈ rws m n, ∀ x ∈ r, x ≤ m + n
  | 0, m, r, h => by simp [rws] at h; simp [h]
  | n + 1, m, r, h => by
    unfold rws at h
    obtain ⟨d, hd, hr⟩ := List.mem_flatMap.1 h
    obtain ⟨r', hr', rfl⟩ := List.mem_map.1 hr
    have hd' : d < m + 1 := by simpa using hd
    intro x hx
    rcases List.mem_cons.1 hx with rfl | hx
    · omega
    · have := rws_le n _ r' hr' x hx
      omega

theorem rws_orb : ∀ n m, Orb (nxt m) (rws m n) none
  | 0, m => by
    intro k hk
    have h0 : k = 0 := by simp [rws] at hk; omega
    subst h0
    simp [rws, nxt]
  | n + 1, m => by
    have key : ∀ c j, j + c = m → Orb (nxt m) ((List.range' j (c + 1)).flatMap fun d => (rws (max m (d + 1)) n).map (d :: ·)) none := by
      have blk : ∀ d t, (if d < m then some ((d + 1) :: List.replicate n 0) else none) = t → Orb (nxt m) ((rws (max m (d + 1)) n).map (d :: ·)) t := by
        intro d t ht k hk
        have hk' : k < (rws (max m (d + 1)) n).length := by simpa using hk
        have ho := rws_orb n (max m (d + 1)) k hk'
        have hlen := rws_len n _ _ (List.getElem_mem hk')
        rw [List.getElem_map]
        rw [nxt_cons, ho]
        by_cases h3 : k + 1 < (rws (max m (d + 1)) n).length
        · rw [if_pos h3, if_pos (c := k + 1 < ((rws (max m (d + 1)) n).map (d :: ·)).length) (by simpa using h3), List.getElem?_map, List.getElem?_eq_getElem h3]
          rfl
        · rw [if_neg h3, if_neg (c := k + 1 < ((rws (max m (d + 1)) n).map (d :: ·)).length) (by simpa using h3)]
          simp only
          rw [hlen]; exact ht
      intro c
      induction c with
      | zero =>
        intro j hj
        rw [show List.range' j (0 + 1) = [j] from rfl, List.flatMap_cons, List.flatMap_nil, List.append_nil]
        exact blk j none (if_neg (by omega))
      | succ c ih =>
        intro j hj
        rw [show List.range' j (c + 1 + 1) = j :: List.range' (j + 1) (c + 1) from rfl, List.flatMap_cons]
        have e0 : ((List.range' (j + 1) (c + 1)).flatMap fun d => (rws (max m (d + 1)) n).map (d :: ·))[0]? = some ((j + 1) :: List.replicate n 0) := by
          rw [show List.range' (j + 1) (c + 1) = (j + 1) :: List.range' (j + 1 + 1) c from rfl, List.flatMap_cons, List.getElem?_append_left (by simpa using rws_pos n _), List.getElem?_map, rws_zero]
          rfl
        refine orb_append ?_ (ih (j + 1) (by omega)) ?_
        · rw [e0]
          exact blk j _ (if_pos (by omega))
        · rcases Nat.eq_zero_or_pos ((List.range' (j + 1) (c + 1)).flatMap fun d => (rws (max m (d + 1)) n).map (d :: ·)).length with h3 | h3
          · rw [List.eq_nil_of_length_eq_zero h3] at e0; cases e0
          · exact h3
    unfold rws
    exact key m 0 (by omega)

theorem nxt_append : ∀ (p q : List Nat) (m : Nat), nxt m (p ++ q) = match nxt (cm m p) q with
    | some q' => some (p ++ q')
    | none => (nxt m p).map (· ++ List.replicate q.length 0)
  | [], q, m => by
    show nxt m q = match nxt m q with | some q' => some q' | none => _
    cases nxt m q <;> rfl
  | d :: p, q, m => by
    have ih := nxt_append p q (max m (d + 1))
    show nxt m (d :: (p ++ q)) = match nxt (cm (max m (d + 1)) p) q with | some q' => some (d :: p ++ q') | none => _
    rw [nxt_cons m d (p ++ q), nxt_cons m d p, ih]
    cases nxt (cm (max m (d + 1)) p) q with
    | some q' => rfl
    | none =>
      simp only
      cases nxt (max m (d + 1)) p with
      | some p' => rfl
      | none =>
        simp only [Option.map_none]
        by_cases h : d < m
        · rw [if_pos h, if_pos h]
          simp [List.replicate_append_replicate]
        · rw [if_neg h, if_neg h]; rfl

theorem cm_ge (p : List Nat) : ∀ m, m ≤ cm m p := by
  induction p with
  | nil => intro m; exact Nat.le_refl _
  | cons d p ih => intro m; exact Nat.le_trans (Nat.le_max_left _ _) (ih _)

theorem cm_snoc (p : List Nat) (d m : Nat) : cm m (p ++ [d]) = max (cm m p) (d + 1) := by simp [cm]

/-- One step of the search from behind: what stands behind may not grow. -/
theorem nxt_here {l : List Nat} {i : Nat} (hi : i < l.length) (h : nxt (cm 0 (l.take (i + 1))) (l.drop (i + 1)) = none) :
    (l[i] < cm 0 (l.take i) → nxt 0 l = some (l.take i ++ (l[i] + 1) :: List.replicate (l.length - (i + 1)) 0)) ∧ (¬ l[i] < cm 0 (l.take i) → nxt (cm 0 (l.take i)) (l.drop i) = none) := by
  have e1 : l.drop i = l[i] :: l.drop (i + 1) := List.drop_eq_getElem_cons hi
  have e2 : l.take (i + 1) = l.take i ++ [l[i]] := by rw [List.take_add_one, List.getElem?_eq_getElem hi]; rfl
  rw [e2, cm_snoc] at h
  have e3 : nxt (cm 0 (l.take i)) (l.drop i) = if l[i] < cm 0 (l.take i) then some ((l[i] + 1) :: List.replicate (l.length - (i + 1)) 0) else none := by
    rw [e1, nxt_cons, h]; simp only [List.length_drop]
  refine ⟨fun hd => ?_, fun hd => by rw [e3, if_neg hd]⟩
  have := nxt_append (l.take i) (l.drop i) 0
  rw [List.take_append_drop, e3, if_pos hd] at this
  exact this

/-- Nothing grows from the second digit on: there is no next. -/
theorem nxt_over {l : List Nat} (h : nxt (cm 0 (l.take 1)) (l.drop 1) = none) : nxt 0 l = none := by
  cases l with
  | nil => rfl
  | cons d l =>
    have h' : nxt (max 0 (d + 1)) l = none := h
    rw [nxt_cons, h']
    simp

/-- The truths in the document's order. -/
def nb : List Bool → Option (List Bool)
  | [] => none
  | b :: l => match nb l with
    | some l' => some (b :: l')
    | none => if b = false then some (true :: List.replicate l.length false) else none

theorem nb_cons (b : Bool) (l : List Bool) : nb (b :: l) = match nb l with
    | some l' => some (b :: l')
    | none => if b = false then some (true :: List.replicate l.length false) else none := rfl

def bls : Nat → List (List Bool)
  | 0 => [[]]
  | n + 1 => (bls n).map (false :: ·) ++ (bls n).map (true :: ·)

theorem bls_len : ∀ (n : Nat), ∀ r ∈ bls n, r.length = n
  | 0, r, h => by simp [bls] at h; simp [h]
  | n + 1, r, h => by
    unfold bls at h
    rcases List.mem_append.1 h with h | h <;> obtain ⟨r', hr', rfl⟩ := List.mem_map.1 h <;> simp [bls_len n r' hr']

theorem bls_length : ∀ n, (bls n).length = 2 ^ n
  | 0 => rfl
  | n + 1 => by simp [bls, bls_length n]; omega

theorem bls_zero : ∀ n, (bls n)[0]? = some (List.replicate n false)
  | 0 => rfl
  | n + 1 => by
    have h2 : 0 < (bls n).length := by rw [bls_length]; exact Nat.pos_of_ne_zero (by simp)
    unfold bls
    rw [List.getElem?_append_left (by simpa using h2), List.getElem?_map, bls_zero n]
    rfl

theorem bls_orb : ∀ n, Orb nb (bls n) none
  | 0 => by
    intro k hk
    have h0 : k = 0 := by simp [bls] at hk; omega
    subst h0
    simp [bls, nb]
  | n + 1 => by
    have h2 : 0 < (bls n).length := by rw [bls_length]; exact Nat.pos_of_ne_zero (by simp)
    have blk : ∀ (b : Bool) t, (if b = false then some (true :: List.replicate n false) else none) = t → Orb nb ((bls n).map (b :: ·)) t := by
      intro b t ht k hk
      have hk' : k < (bls n).length := by simpa using hk
      have ho := bls_orb n k hk'
      have hlen := bls_len n _ (List.getElem_mem hk')
      rw [List.getElem_map]
      rw [nb_cons, ho]
      by_cases h3 : k + 1 < (bls n).length
      · rw [if_pos h3, if_pos (c := k + 1 < ((bls n).map (b :: ·)).length) (by simpa using h3), List.getElem?_map, List.getElem?_eq_getElem h3]
        rfl
      · rw [if_neg h3, if_neg (c := k + 1 < ((bls n).map (b :: ·)).length) (by simpa using h3)]
        simp only
        rw [hlen]; exact ht
    unfold bls
    refine orb_append ?_ (blk true none (by simp)) (by simpa using h2)
    rw [List.getElem?_map, bls_zero]
    exact blk false _ (by simp)

theorem nb_append : ∀ (p q : List Bool), nb (p ++ q) = match nb q with
    | some q' => some (p ++ q')
    | none => (nb p).map (· ++ List.replicate q.length false)
  | [], q => by
    show nb q = match nb q with | some q' => some q' | none => _
    cases nb q <;> rfl
  | d :: p, q => by
    have ih := nb_append p q
    show nb (d :: (p ++ q)) = match nb q with | some q' => some (d :: p ++ q') | none => _
    rw [nb_cons d (p ++ q), nb_cons d p, ih]
    cases nb q with
    | some q' => rfl
    | none =>
      simp only
      cases nb p with
      | some p' => rfl
      | none =>
        simp only [Option.map_none]
        by_cases h : d = false
        · rw [if_pos h, if_pos h]
          simp [List.replicate_append_replicate]
        · rw [if_neg h, if_neg h]; rfl

theorem nb_here {l : List Bool} {i : Nat} (hi : i < l.length) (h : nb (l.drop (i + 1)) = none) :
    (l[i] = false → nb l = some (l.take i ++ true :: List.replicate (l.length - (i + 1)) false)) ∧ (l[i] = true → nb (l.drop i) = none) := by
  have e1 : l.drop i = l[i] :: l.drop (i + 1) := List.drop_eq_getElem_cons hi
  have e3 : nb (l.drop i) = if l[i] = false then some (true :: List.replicate (l.length - (i + 1)) false) else none := by
    rw [e1, nb_cons, h]; simp only [List.length_drop]
  refine ⟨fun hd => ?_, fun hd => by rw [e3, if_neg (by rw [hd]; simp)]⟩
  have := nb_append (l.take i) (l.drop i)
  rw [List.take_append_drop, e3, if_pos hd] at this
  exact this

/-- The truths in the program's order. -/
def tv (n k : Nat) : List Bool := (List.range n).map fun i => decide (k / 2 ^ i % 2 = 1)

theorem tv_length (n k : Nat) : (tv n k).length = n := by simp [tv]

theorem tv_perm {n : Nat} (h : n ≤ 4) : (bls n).Perm ((List.range (2 ^ n)).map (tv n)) := by
  have h' : n = 0 ∨ n = 1 ∨ n = 2 ∨ n = 3 ∨ n = 4 := by omega
  rcases h' with rfl | rfl | rfl | rfl | rfl <;> decide +kernel

theorem tv_count {n : Nat} (h : n ≤ 4) (g : List Bool → Bool) : (bls n).countP g = (List.range (2 ^ n)).countP (fun k => g (tv n k)) := by
  rw [(tv_perm h).countP_eq, List.countP_map]
  rfl

theorem rws_few {n : Nat} (h : n ≤ 7) : (rws 0 n).length ≤ 1000 := by
  have h' : n = 0 ∨ n = 1 ∨ n = 2 ∨ n = 3 ∨ n = 4 ∨ n = 5 ∨ n = 6 ∨ n = 7 := by omega
  rcases h' with rfl | rfl | rfl | rfl | rfl | rfl | rfl | rfl <;> decide +kernel

/-- The sum along the rows, as far as the first k. -/
def sumTo {α : Type} (L : List α) (g : α → Nat) (k : Nat) : Nat := ((L.take k).map g).sum

theorem sumTo_zero {α : Type} (L : List α) (g : α → Nat) : sumTo L g 0 = 0 := by simp [sumTo]
theorem sumTo_succ {α : Type} (L : List α) (g : α → Nat) {k : Nat} (h : k < L.length) : sumTo L g (k + 1) = sumTo L g k + g L[k] := by
  unfold sumTo
  rw [List.take_add_one, List.getElem?_eq_getElem h, List.map_append, List.sum_append]
  rfl
theorem sumTo_le {α : Type} (L : List α) (g : α → Nat) {c : Nat} (h : ∀ x, g x ≤ c) : ∀ k, sumTo L g k ≤ k * c := by
  intro k
  induction k with
  | zero => simp [sumTo]
  | succ k ih =>
    by_cases hk : k < L.length
    · rw [sumTo_succ L g hk, Nat.succ_mul]
      have := h L[k]
      omega
    · have e : sumTo L g (k + 1) = sumTo L g k := by
        unfold sumTo
        rw [List.take_of_length_le (by omega), List.take_of_length_le (by omega)]
      rw [e, Nat.succ_mul]
      omega

end Go.Proofs.YthcppbmkacbbiaaGreat.Nx

namespace Go.Proofs.YthcppbmkacbbiaaGreat

/-- The least number with a property, as a measure for a loop whose rounds are counted by nothing that it holds. -/
theorem least_is {P : Nat → Prop} (h : ∃ n, P n) : ∃ n, P n ∧ ∀ m, P m → n ≤ m := by
  obtain ⟨n, hn⟩ := h
  induction n using Nat.strongRecOn with
  | ind n ih =>
    by_cases h2 : ∃ m, m < n ∧ P m
    · obtain ⟨m, hm, hp⟩ := h2
      exact ih m hm hp
    · exact ⟨n, hn, fun m hm => Nat.le_of_not_lt fun hl => h2 ⟨m, hl, hm⟩⟩

theorem eps_spec {P : Nat → Prop} (h : ∃ n, P n) : P (Classical.epsilon fun n => P n ∧ ∀ m, P m → n ≤ m) :=
  (Classical.epsilon_spec (least_is h)).1

theorem eps_lt {P : Nat → Prop} {r r' : Nat} (h : P r') (hr : r' < r) : (Classical.epsilon fun n => P n ∧ ∀ m, P m → n ≤ m) < r :=
  Nat.lt_of_le_of_lt ((Classical.epsilon_spec (least_is ⟨r', h⟩)).2 r' h) hr

end Go.Proofs.YthcppbmkacbbiaaGreat

namespace Go.Proofs.YthcppbmkacbbiaaGreat
open Go.RowKit
open Nx

attribute [local go_sem] Oper.semAt_some

theorem cm_take {vs : List Nat} {k : Nat} (h : k < vs.length) (m : Nat) : cm m (vs.take (k + 1)) = max (cm m (vs.take k)) (vs[k] + 1) := by
  rw [List.take_add_one, List.getElem?_eq_getElem h]
  exact cm_snoc _ _ _

theorem cm_le {vs : List Nat} (h : ∀ x ∈ vs, x ≤ 100) : ∀ m, m ≤ 101 → cm m vs ≤ 101 := by
  induction vs with
  | nil => intro m hm; exact hm
  | cons d p ih =>
    intro m hm
    have := h d (by simp)
    exact ih (fun x hx => h x (by simp [hx])) _ (by show max m (d + 1) ≤ 101; omega)

set_option linter.unusedSimpArgs false in
set_option maxRecDepth 100000 in
set_option maxHeartbeats 1000000 in
theorem max_any (w : World) (G cap : Nat) (vs : List Nat) (h0 : 0 < vs.length) (hl : vs.length ≤ 100) (hv : ∀ x ∈ vs, x ≤ 100) (hc : ∀ i (hi : i < vs.length), w.cell? ⟨G, i, none⟩ = some (.int .i64 vs[i])) :
    Calls Tryz.prog 124 #[.slice (some ⟨G, 0, none⟩) vs.length cap] w fun e w' => e = .returned (.int .i64 ((cm 0 vs : Int) - 1)) ∧ w' = w := by
  have hc0 := hc 0 h0
  have hb : ¬ (vs.length : Int) < 1 := by omega
  go_enter Tryz.func124, Tryz.ntmps124
  go_wp2_with fail
  go_loop [3, 4] (fun x i => ∃ k : Nat, 1 ≤ k ∧ k ≤ vs.length ∧ i = .int .i64 k ∧ x = .int .i64 ((cm 0 (vs.take k) : Int) - 1)) (fun _ i => vs.length - (intOf i).toNat)
  case atStart =>
    refine ⟨1, by omega, by omega, rfl, ?_⟩
    rw [cm_take h0]
    simp [cm]
  case round =>
    obtain ⟨k, hk1, hk, rfl, rfl⟩ := hrel
    by_cases hlt : k < vs.length
    · have hck := hc k hlt
      have hx := hv vs[k] (List.getElem_mem _)
      have hm := cm_le (vs := vs.take k) (fun x hx => hv x (List.mem_of_mem_take hx)) 0 (by omega)
      have HT := hide (cm_take hlt 0)
      have hbd : (k : Int) < (vs.length : Int) := by omega
      clear hc hv hc0
      generalize vs[k] = x at hck hx HT
      generalize cm 0 (vs.take k) = m at hm HT
      go_wp2_with fail
      refine ⟨⟨k + 1, by omega, hlt, by go_num, ?_⟩, by simp [intOf]; omega⟩
      rw [unhide HT]
      congr 1
      first | (split <;> omega) | omega
    · have hkk : k = vs.length := by omega
      subst hkk
      have hbd : ¬ (vs.length : Int) < (vs.length : Int) := by omega
      rw [List.take_length]
      obtain ⟨m, hm⟩ : ∃ m, cm 0 vs = m := ⟨_, rfl⟩
      rw [hm]
      have HM := hide hm
      clear hc hc0 hv hm
      go_wp2_with fail
      go_ret
      exact ⟨by rw [unhide HM]; rfl, rfl⟩

/-- A row of digits that lies in a block. -/
def RowD (w : World) (base G : Nat) (row : List Nat) : Prop := w.ownsRow base 3 1 (.slice (some ⟨G, 0, none⟩) row.length row.length) row.length (row.map kvI)

theorem RowD.at {w : World} {base G : Nat} {row : List Nat} (h : RowD w base G row) {i : Nat} (hi : i < row.length) : w.cell? ⟨G, i, none⟩ = some (.int .i64 row[i]) := by
  have := World.ownsRow.cellAt h i (by omega)
  rw [this]
  simp [hi, kvI]

theorem take_set_succ {α : Type} {xs : List α} {k : Nat} (v : α) (h : k < xs.length) : (xs.set k v).take (k + 1) = xs.take k ++ [v] := by
  have l1 : (xs.take k).length = k := by rw [List.length_take]; omega
  rw [List.set_eq_take_append_cons_drop, if_pos h, List.take_append, l1, List.take_of_length_le (by omega), Nat.add_sub_cancel_left]
  rfl

theorem setCells_row {base G cap n : Nat} : ∀ (vs : List Value) (o : Nat) (w : World) (xs : List Value), w.ownsRow base 3 1 (.slice (some ⟨G, 0, none⟩) n cap) n xs → o + vs.length ≤ xs.length →
    (w.setCells G o vs).ownsRow base 3 1 (.slice (some ⟨G, 0, none⟩) n cap) n (xs.take o ++ vs ++ xs.drop (o + vs.length)) ∧ w.grownBy (w.setCells G o vs) (some G)
  | [], o, w, xs, h, _ => by simpa [World.setCells] using ⟨h, (⟨rfl, rfl, rfl, Nat.le_refl _, fun _ _ _ => rfl⟩ : w.grownBy w (some G))⟩
  | v :: vs, o, w, xs, h, hl => by
    obtain ⟨h1, g1⟩ := h.stored o v
    have hl' : o + (vs.length + 1) ≤ xs.length := by simpa using hl
    obtain ⟨h2, g2⟩ := setCells_row vs (o + 1) _ _ h1 (by simp; omega)
    have e : xs.take o ++ (v :: vs) ++ xs.drop (o + (v :: vs).length) = (xs.set o v).take (o + 1) ++ vs ++ (xs.set o v).drop (o + 1 + vs.length) := by
      have e2 := take_set_succ v (show o < xs.length by omega)
      have e3 : (xs.set o v).drop (o + 1 + vs.length) = xs.drop (o + 1 + vs.length) := by rw [List.drop_set_of_lt (by omega)]
      rw [e2, e3, List.length_cons, show o + (vs.length + 1) = o + 1 + vs.length by omega]
      simp
    rw [e]
    exact ⟨h2, g1.trans g2⟩

set_option linter.unusedSimpArgs false in
set_option maxRecDepth 100000 in
set_option maxHeartbeats 1000000 in
theorem nextDigits_any (w : World) (base G : Nat) (row : List Nat) (h0 : 0 < row.length) (hl : row.length ≤ 100) (hv : ∀ x ∈ row, x ≤ 100) (h : RowD w base G row) :
    Calls Tryz.prog 76 #[.slice (some ⟨G, 0, none⟩) row.length row.length] w fun e w' => e = .returned (.bool (nxt 0 row).isSome) ∧ w.grownBy w' (some G) ∧ RowD w' base G ((nxt 0 row).getD row) := by
  have HR := hide h
  have HV := hide hv
  clear h hv
  go_enter Tryz.func76, Tryz.ntmps76
  go_wp2_with fail
  go_loopw [3] (fun i wr => ∃ k : Nat, k < row.length ∧ i = .int .i64 k ∧ w.grownBy wr none ∧ Hid (nxt (cm 0 (row.take (k + 1))) (row.drop (k + 1)) = none)) (fun i _ => (intOf i).toNat)
  case atStart =>
    refine ⟨row.length - 1, by omega, ?_, ⟨rfl, rfl, rfl, Nat.le_refl _, fun _ _ _ => rfl⟩, ?_⟩
    · congr 1; omega
    · have e : row.length - 1 + 1 = row.length := by omega
      rw [e, List.drop_length]
      exact hide rfl
  case round =>
    obtain ⟨k, hk, rfl, hgw, hno⟩ := hrel
    have HRW : Hid (RowD wr base G row) := (unhide HR).kept hgw (Or.inr (by simp [Value.ownBlock]))
    by_cases hk0 : 0 < k
    · have hb0 : (0 : Int) < (k : Int) := by omega
      have hkb : (k : Int) < (row.length : Int) := by omega
      have hck := (unhide HRW).at hk
      have hmx : Hid (Calls Tryz.prog 124 #[.slice (some ⟨G, 0, none⟩) k row.length] wr.drew fun e w' => e = .returned (.int .i64 ((cm 0 (row.take k) : Int) - 1)) ∧ w' = wr.drew) := by
        have hkl : (row.take k).length = k := by rw [List.length_take]; omega
        have := max_any wr.drew G row.length (row.take k) (by omega) (by omega) (fun x hx => unhide HV x (List.mem_of_mem_take hx)) (fun i hi => by
          rw [List.getElem_take]
          exact (unhide HRW).at (by omega))
        rw [hkl] at this
        exact this
      have hst := nxt_here hk (unhide hno)
      have hxk := unhide HV _ (List.getElem_mem hk)
      have hcml := cm_le (vs := row.take k) (fun x hx => unhide HV x (List.mem_of_mem_take hx)) 0 (by omega)
      have HST := hide hst
      clear hst hno
      generalize hd : row[k] = d at hck hxk HST
      generalize hm : cm 0 (row.take k) = m at hmx HST hcml
      have HD := hide hd
      have HM := hide hm
      clear hd hm
      go_wp2_with fail
      have hS0 : wr.drew.cell? ⟨G, k, none⟩ = some (.int .i64 d) := hck
      refine wp_region_held (S := fun W' => W'.cell? ⟨G, k, none⟩ = some (.int .i64 d)) rfl ?_
      simp only [List.size_toArray, List.length_cons, List.length_nil, Nat.reduceAdd, Array.replicate_succ, Array.replicate_zero, List.push_toArray, List.nil_append, List.cons_append]
      refine wpAnyH_take (i := 0) (v := .slice (some ⟨G, 0, none⟩) row.length row.length) rfl (by kernel_rfl) (by kernel_rfl) (by kernel_rfl) (fun _ _ _ h => h) (Or.inl ⟨by rfl, fun w' hS => ?_⟩) hS0 ?_
      · go_simp
      simp only [List.getElem_toArray, List.getElem_cons_zero, List.getElem_cons_succ, Act.put, List.setIfInBounds_toArray, List.set_cons_zero, List.set_cons_succ]
      refine wpAnyH_take (i := 1) (v := .int .i64 k) rfl (by kernel_rfl) (by kernel_rfl) (by kernel_rfl) (fun _ _ _ h => h) (Or.inl ⟨by rfl, fun w' hS => ?_⟩) hS0 ?_
      · go_simp
      simp only [List.getElem_toArray, List.getElem_cons_zero, List.getElem_cons_succ, Act.put, List.setIfInBounds_toArray, List.set_cons_zero, List.set_cons_succ]
      refine wpAnyH_take (i := 2) (v := .pointer (some ⟨G, k, none⟩)) rfl (by kernel_rfl) (by kernel_rfl) (by kernel_rfl) (fun _ _ _ h => h) (Or.inl ⟨by rfl, fun w' hS => ?_⟩) hS0 ?_
      · go_simp
      simp only [List.getElem_toArray, List.getElem_cons_zero, List.getElem_cons_succ, Act.put, List.setIfInBounds_toArray, List.set_cons_zero, List.set_cons_succ]
      refine wpAnyH_take (i := 3) (v := .int .i64 d) rfl (by kernel_rfl) (by kernel_rfl) (by kernel_rfl) (fun _ _ _ h => h) (Or.inl ⟨by rfl, fun w' hS => ?_⟩) hS0 ?_
      · go_simp
      simp only [List.getElem_toArray, List.getElem_cons_zero, List.getElem_cons_succ, Act.put, List.setIfInBounds_toArray, List.set_cons_zero, List.set_cons_succ]
      refine wpAnyH_take (i := 4) (v := .slice (some ⟨G, 0, none⟩) row.length row.length) rfl (by kernel_rfl) (by kernel_rfl) (by kernel_rfl) (fun _ _ _ h => h) (Or.inl ⟨by rfl, fun w' hS => ?_⟩) hS0 ?_
      · go_simp
      simp only [List.getElem_toArray, List.getElem_cons_zero, List.getElem_cons_succ, Act.put, List.setIfInBounds_toArray, List.set_cons_zero, List.set_cons_succ]
      refine wpAnyH_take (i := 5) (v := .int .i64 k) rfl (by kernel_rfl) (by kernel_rfl) (by kernel_rfl) (fun _ _ _ h => h) (Or.inl ⟨by rfl, fun w' hS => ?_⟩) hS0 ?_
      · go_simp
      simp only [List.getElem_toArray, List.getElem_cons_zero, List.getElem_cons_succ, Act.put, List.setIfInBounds_toArray, List.set_cons_zero, List.set_cons_succ]
      refine wpAnyH_take (i := 6) (v := .slice (some ⟨G, 0, none⟩) k row.length) rfl (by kernel_rfl) (by kernel_rfl) (by kernel_rfl) (fun _ _ _ h => h) (Or.inl ⟨by rfl, fun w' hS => ?_⟩) hS0 ?_
      · go_simp
        intro h; omega
      simp only [List.getElem_toArray, List.getElem_cons_zero, List.getElem_cons_succ, Act.put, List.setIfInBounds_toArray, List.set_cons_zero, List.set_cons_succ]
      refine wpAnyH_one (i := 7) (by kernel_rfl) rfl (by rfl) (fun K hK => ?_)
      go_simp
      refine (unhide hmx).mono ?_
      rintro e w2 ⟨rfl, rfl⟩
      refine hK.out _ _ hS0 ?_
      clear hK K
      simp only [List.getElem_toArray, List.getElem_cons_zero, List.getElem_cons_succ, Act.put, List.setIfInBounds_toArray, List.set_cons_zero, List.set_cons_succ]
      have hfz : wr.drew.frozen? ⟨G, k, none⟩ = false := World.ownsRow.frozenAt (unhide HRW) k
      by_cases hdm : d < m
      · have hle : ((d : Int) ≤ (m : Int) - 1) := by omega
        have hnx : nxt 0 row = some (row.take k ++ (d + 1) :: List.replicate (row.length - (k + 1)) 0) := (unhide HST).1 hdm
        have HNX := hide hnx
        have hfin : Hid (∀ W' : World, wr.grownBy W' (some G) → W'.ownsRow base 3 1 (.slice (some ⟨G, 0, none⟩) row.length row.length) row.length ((row.take k ++ (d + 1) :: List.replicate (row.length - (k + 1)) 0).map kvI) → Value.bool true = .bool (nxt 0 row).isSome ∧ w.grownBy W' (some G) ∧ RowD W' base G ((nxt 0 row).getD row)) := by
          intro W' hg' ho'
          rw [unhide HNX]
          refine ⟨rfl, ?_, ?_⟩
          · exact ⟨hg'.os.trans hgw.os, hg'.tape.trans hgw.tape, hg'.output.trans hgw.output, Nat.le_trans hgw.size hg'.size, fun j hj hne => (hg'.block j (Nat.lt_of_lt_of_le hj hgw.size) hne).trans (hgw.block j hj (by simp))⟩
          · have hln : (row.take k ++ (d + 1) :: List.replicate (row.length - (k + 1)) 0).length = row.length := by simp; omega
            unfold RowD
            simp only [Option.getD_some]
            rw [hln]
            exact ho'
        have hst1 := World.ownsRow.stored (unhide HRW) k (.int .i64 ((d : Int) + 1))
        have HS1 := hide hst1
        clear hnx hst1
        by_cases hlast : row.length = k + 1
        · have hcl : ∀ ty W, (Builtin.clear_ #[58] ty #[.slice (some ⟨G, 0, none⟩) 0 0]).run Tryz.prog W = .ok (.tuple #[]) W := fun ty W => by
            simp [Builtin.clear_, run_underlying Tryz.underlying58]
          have hgo := unhide hfin (wr.setCell ⟨G, k, none⟩ (.int .i64 ((d : Int) + 1))).drew ⟨(unhide HS1).2.os, (unhide HS1).2.tape, (unhide HS1).2.output, (unhide HS1).2.size, (unhide HS1).2.block⟩ (by
            have e : (row.take k ++ (d + 1) :: List.replicate (row.length - (k + 1)) 0).map kvI = (row.map kvI).set k (.int .i64 ((d : Int) + 1)) := by
              rw [hlast, Nat.sub_self, List.set_eq_take_append_cons_drop, if_pos (by simp; omega), List.drop_eq_nil_of_le (by simp; omega)]
              simp [kvI]
            rw [e]
            exact (unhide HS1).1)
          have HG := hide hgo
          clear hgo hfin
          refine wpAnyH_one (i := 8) (by kernel_rfl) rfl (by rfl) (fun K hK => ?_)
          go_simp
          refine hK.out _ _ hS0 (wpAnyH_done (by kernel_rfl) ?_ _)
          clear hK K
          go_wp2_with (simp only [hcl])
          exact bodyPost_ret (v := .bool true) (by simp [results, Tryz.results76, go_sem]) rfl ⟨congrArg Ending.returned (unhide HG).1, (unhide HG).2⟩
        · have hle2 : ¬ row.length ≤ k + 1 := by omega
          have hsr := setCells_row (base := base) (G := G) (List.replicate (row.length - (k + 1)) (Value.int .i64 0)) (k + 1) (wr.setCell ⟨G, k, none⟩ (.int .i64 ((d : Int) + 1))).drew _ (unhide HS1).1 (by simp; omega)
          have hcl : ∀ ty, (Builtin.clear_ #[58] ty #[.slice (some ⟨G, k + 1, none⟩) (row.length - (k + 1)) (row.length - (k + 1))]).run Tryz.prog (wr.setCell ⟨G, k, none⟩ (.int .i64 ((d : Int) + 1))).drew = .ok (.tuple #[]) ((wr.setCell ⟨G, k, none⟩ (.int .i64 ((d : Int) + 1))).drew.setCells G (k + 1) (List.replicate (row.length - (k + 1)) (.int .i64 0))) :=
            fun ty => Lib.run_clear_slice _ 58 3 ty (.int .i64 0) Tryz.underlying58 (fun w => by kernel_rfl) rfl rfl G (k + 1) _ _ (by omega) (fun j hj => by
              have := World.ownsRow.cellAt (unhide HS1).1 (k + 1 + j) (by omega)
              show ((wr.setCell ⟨G, k, none⟩ (.int .i64 ((d : Int) + 1))).cell? ⟨G, k + 1 + j, none⟩).isSome = true
              rw [this, List.getElem?_eq_getElem (by simp; omega)]
              rfl) (fun j hj => World.ownsRow.frozenAt (unhide HS1).1 (k + 1 + j))
          have hgo := unhide hfin ((wr.setCell ⟨G, k, none⟩ (.int .i64 ((d : Int) + 1))).drew.setCells G (k + 1) (List.replicate (row.length - (k + 1)) (.int .i64 0))) (by
            have g1 : wr.grownBy (wr.setCell ⟨G, k, none⟩ (.int .i64 ((d : Int) + 1))).drew (some G) := ⟨(unhide HS1).2.os, (unhide HS1).2.tape, (unhide HS1).2.output, (unhide HS1).2.size, (unhide HS1).2.block⟩
            exact g1.trans hsr.2) (by
            have e : (row.take k ++ (d + 1) :: List.replicate (row.length - (k + 1)) 0).map kvI = ((row.map kvI).set k (.int .i64 ((d : Int) + 1))).take (k + 1) ++ List.replicate (row.length - (k + 1)) (.int .i64 0) ++ ((row.map kvI).set k (.int .i64 ((d : Int) + 1))).drop (k + 1 + (List.replicate (row.length - (k + 1)) (Value.int .i64 0)).length) := by
              rw [List.drop_eq_nil_of_le (by simp; omega), List.append_nil, take_set_succ _ (by simpa using hk)]
              simp [kvI, List.map_replicate, List.map_take]
            rw [e]
            exact hsr.1)
          have HG := hide hgo
          clear hgo hfin hsr
          refine wpAnyH_one (i := 8) (by kernel_rfl) rfl (by rfl) (fun K hK => ?_)
          go_simp
          refine hK.out _ _ hS0 (wpAnyH_done (by kernel_rfl) ?_ _)
          clear hK K
          go_wp2_with (simp only [hcl])
          exact bodyPost_ret (v := .bool true) (by simp [results, Tryz.results76, go_sem]) rfl ⟨congrArg Ending.returned (unhide HG).1, (unhide HG).2⟩
      · have hle : ¬ ((d : Int) ≤ (m : Int) - 1) := by omega
        refine wpAnyH_one (i := 8) (by kernel_rfl) rfl (by rfl) (fun K hK => ?_)
        go_simp
        refine hK.out _ _ hS0 (wpAnyH_done (by kernel_rfl) ?_ _)
        clear hK K
        go_wp2_with fail
        refine ⟨⟨k - 1, by omega, by congr 1; omega, ⟨hgw.os, hgw.tape, hgw.output, hgw.size, hgw.block⟩, ?_⟩, by simp [intOf]; omega⟩
        have e : k - 1 + 1 = k := by omega
        rw [e]
        rw [unhide HM]
        exact (unhide HST).2 hdm
    · have hkk : k = 0 := by omega
      subst hkk
      have hnn : nxt 0 row = none := nxt_over (unhide hno)
      have HN := hide hnn
      clear hnn hno
      go_wp2_with fail
      refine bodyPost_ret (v := .bool false) (by simp [results, Tryz.results76, go_sem]) rfl ⟨?_, ⟨hgw.os, hgw.tape, hgw.output, hgw.size, fun j hj _ => hgw.block j hj (by simp)⟩, ?_⟩
      · rw [unhide HN]; rfl
      · rw [unhide HN]; exact unhide HRW

end Go.Proofs.YthcppbmkacbbiaaGreat

namespace Go.Proofs.YthcppbmkacbbiaaGreat
open Go.RowKit Go.Maps Go.WideMaps
open Rdg (Key put)

theorem alikeI_any (v : Option Addr) (n c : Nat) (w : World) : Calls Tryz.prog 125 #[.slice v n c] w fun e w' =>
    e = .returned (.func (.func 170) #[] #[.pointer (some ⟨w.heap.size, 0, none⟩)]) ∧ w' = w.alloc (.cells #[.slice v n c] 58) := by
  go_enter Tryz.func125, Tryz.ntmps125
  go_wp2_with fail
  go_ret
  exact ⟨rfl, rfl⟩

set_option maxRecDepth 100000 in
set_option maxHeartbeats 2000000 in
theorem alikiI_all (n : Nat) (hn : 2 ≤ n) (X G cap m0 : Nat) (keys : List Nat) (w : World) (hm0 : m0 ≤ w.heap.size) (hl : keys.length ≤ 500)
    (hX : w.cell? ⟨X, 0, none⟩ = some (.slice (some ⟨G, 0, none⟩) keys.length cap)) (hG : RowsI w G keys) (hv : ∀ x ∈ keys, ∃ l, keyOf Tryz.prog 3 (kvI x) = some l) :
    SeqAllX Fence.wide n Tryz.prog 170 #[.pointer (some ⟨X, 0, none⟩)] ((prs keys keys.length).map fun p => #[.int .i64 p.1, .int .i64 p.2]) (KA m0 X G) w := by
  intro l J Jx W hW hJ hJx hY h0
  have hXW : W.cell? ⟨X, 0, none⟩ = some (.slice (some ⟨G, 0, none⟩) keys.length cap) := (hW.cell (p := ⟨X, 0, none⟩) (World.block_lt_of_cell? w _ hX)).trans hX
  have hlX : X < W.heap.size := World.block_lt_of_cell? W _ hXW
  have hlG : G < W.heap.size := Nat.lt_of_lt_of_le hG.1 hW.size
  have hGW : RowsI W G keys := hG.below hW hG.1
  have hmm := fun z => run_makeMap_hint (P := Tryz.prog) Tryz.underlying97 .i64 z W
  have hsW := hW.size
  refine callsIn_of_wp Tryz.func170 rfl trivial ?_ rfl
  simp only [Tryz.ntmps170, List.size_toArray, List.length_cons, List.length_nil, Nat.reduceAdd, Nat.reduceSub, Array.replicate_succ, Array.replicate_zero, List.push_toArray, List.append_toArray, List.nil_append, List.cons_append]
  gi_wp2
  obtain ⟨W1, hW1⟩ : ∃ W1, W.alloc (.map #[] 0) = W1 := ⟨_, rfl⟩
  have hg1 : W.grownBy W1 none := by rw [← hW1]; exact World.grownBy_alloc _ _ none
  have hF1 : FMap W1 3 W.heap.size kvI ([] : List Nat) := by rw [← hW1]; exact fmap_made W _ _
  have hs1 : W.heap.size < W1.heap.size := by rw [← hW1]; simp
  have hX1 : W1.heap[X]? = W.heap[X]? := hg1.block X hlX (by simp)
  have hG1 : W1.heap[G]? = W.heap[G]? := hg1.block G hlG (by simp)
  have hJ1 : J 0 W1 := hJ 0 W W1 none h0 hg1 (fun r e => by cases e)
  have hXc1 : W1.cell? ⟨X, 0, none⟩ = some (.slice (some ⟨G, 0, none⟩) keys.length cap) := (World.cell?_of_block hX1).trans hXW
  clear hmm
  rw [hW1]
  clear hW1
  gi_wp2
  gi_loopw [13] (fun i wr => ∃ k : Nat, k ≤ keys.length ∧ i = .int .i64 k ∧ J (prs keys k).length wr ∧ FMap wr 3 W.heap.size kvI (keys.take k) ∧ wr.heap[X]? = W.heap[X]? ∧ wr.heap[G]? = W.heap[G]?) (fun i _ => keys.length - (intOf i).toNat)
  case atStart => exact ⟨0, Nat.zero_le _, rfl, hJ1, hF1, hX1, hG1⟩
  case round =>
    obtain ⟨k, hk, rfl, hJk, hFk, hXk, hGk⟩ := hrel
    by_cases hlt : k < keys.length
    · have hbd : (k : Int) < (keys.length : Int) := by omega
      have hGr := (hGW.same hGk).2 k hlt
      have htk : keys.take (k + 1) = keys.take k ++ [keys[k]] := by rw [List.take_add_one, List.getElem?_eq_getElem hlt]; rfl
      obtain ⟨lt, hlt'⟩ := hv keys[k] (List.getElem_mem hlt)
      have hpr := prs_step hlt
      have hat := prs_at (keys := keys) hlt
      have hlF := hFk.lt
      have hwk := hFk.walk
      obtain ⟨D, nn, h0n, hown, hall⟩ := id hFk
      have hka := hall _ _ hlt'
      have htidy := hown.tidy lawI
      have hnn : nn ≤ 500 := by rw [List.length_take] at h0n; omega
      have HALL := hide hall
      have HF := hide hFk
      have HN := hide h0n
      clear hall hFk h0n
      cases hc : (keys.take k).contains keys[k]
      · rw [hc] at hka hpr
        have hhas : Maps.has D lt = false := hka.1
        have HTK := hide htk
        have HPR := hide hpr
        have HC := hide hc
        have HK := hide hlt'
        have hkey := hlt'
        clear hka htk hpr hc hat hlt'
        generalize keys[k] = key at hGr hkey HTK HPR HC HK
        simp only [kvI] at hkey
        gi_wp2_with (first
          | (gi_at_lookup; refine wpListIn_lookup_own_ok_int _ rfl _ _ 97 rfl 3 3 .i64 lawI Tryz.underlying97 Tryz.underlying3 (zeroE _) W.heap.size nn D rfl hown _ lt rfl hkey ?_; intro c0 hat hwc)
          | (gi_at_mapUpdate; refine wpListIn_mapUpdate_own _ rfl _ _ _ 97 rfl 3 3 lawI Tryz.underlying97 _ W.heap.size nn D rfl hown (by unfold maxLen; omega) _ _ lt rfl rfl hkey _ [] (plainElem_int Tryz.underlying3 (WalkArith.wf_i64 (by omega))) ?_; intro w5 hown5 hgrow5))
        have hlen : (keys.take k).length = k := by rw [List.length_take]; omega
        have hp2 := unhide HPR
        rw [if_neg (by decide)] at hp2
        obtain ⟨o, ho, hw⟩ := hwk
        have hga : wr.grownBy wr none := ⟨rfl, rfl, rfl, Nat.le_refl _, fun _ _ _ => rfl⟩
        have hlXr : X < wr.heap.size := by have h1 := hlX; rw [Array.getElem?_eq_getElem h1] at hXk; exact (Array.getElem?_eq_some_iff.1 hXk).1
        have hlGr : G < wr.heap.size := by have h1 := hlG; rw [Array.getElem?_eq_getElem h1] at hGk; exact (Array.getElem?_eq_some_iff.1 hGk).1
        refine ⟨⟨k + 1, by omega, by go_num, ?_, ?_, ?_, ?_⟩, by simp [intOf]; omega⟩
        · rw [hp2]
          exact hJ _ _ w5 (some W.heap.size) (hJ _ wr _ none hJk hga (fun r e => by cases e)) hgrow5 (fun r e => by cases e; exact ⟨Nat.le_refl _, o, (hga.block _ hlF (by simp)).trans ho, hw⟩)
        · rw [unhide HTK]
          exact fmap_put (fun _ _ => kvI_inj) lawI (unhide HN) (unhide HALL) htidy (unhide HK) (unhide HC) (by rw [hlen]; exact hown5)
        · exact ((hgrow5.block X (Nat.lt_of_lt_of_le hlXr hga.size) (by simp; omega)).trans (hga.block X hlXr (by simp))).trans hXk
        · exact ((hgrow5.block G (Nat.lt_of_lt_of_le hlGr hga.size) (by simp; omega)).trans (hga.block G hlGr (by simp))).trans hGk
      · rw [hc] at hka hpr
        have hhas : Maps.has D lt = true := hka.1
        obtain ⟨hj, hje⟩ := hat hc
        have HAT := hide (hka.2 rfl)
        have HTK := hide htk
        have HPR := hide hpr
        have HC := hide hc
        have hkey := hlt'
        have hyk := hY (prs keys k).length (by simpa using hj)
        rw [show ((prs keys keys.length).map fun p : Nat × Nat => #[Value.int .i64 p.1, Value.int .i64 p.2])[(prs keys k).length]'(by simpa using hj) = #[Value.int .i64 ((keys.take k).idxOf keys[k] : Nat), Value.int .i64 k] by simp [hje]] at hyk
        have hfi : (keys.take k).idxOf keys[k] ≤ 500 := by have := List.idxOf_le_length (l := keys.take k) (a := keys[k]); rw [List.length_take] at this; omega
        clear hka htk hpr hc hat hlt' hje
        generalize (keys.take k).idxOf keys[k] = fi at HAT hyk HPR hfi
        generalize keys[k] = key at hGr hkey HTK HPR HC
        simp only [kvI] at hkey
        have hga : wr.grownBy wr none := ⟨rfl, rfl, rfl, Nat.le_refl _, fun _ _ _ => rfl⟩
        obtain ⟨fn, tmps, assign, body, hy, hR⟩ := hyk wr hJk
        clear hyk
        have hlXr : X < wr.heap.size := by have h1 := hlX; rw [Array.getElem?_eq_getElem h1] at hXk; exact (Array.getElem?_eq_some_iff.1 hXk).1
        have hlGr : G < wr.heap.size := by have h1 := hlG; rw [Array.getElem?_eq_getElem h1] at hGk; exact (Array.getElem?_eq_some_iff.1 hGk).1
        gi_wp2_with (gi_at_lookup; refine wpListIn_lookup_own_ok_int _ rfl _ _ 97 rfl 3 3 .i64 lawI Tryz.underlying97 Tryz.underlying3 (zeroE _) W.heap.size nn D rfl hown _ lt rfl hkey ?_; intro c0 hat hwc; have hc0 : c0 = (fi : Int) := by {have h := hat.symm.trans (unhide HAT); simpa using h}; subst hc0; clear hat hwc)
        refine ⟨fun _ => by omega, hR.mono ?_⟩
        rintro e W3 (⟨rfl, hJ3, hk3⟩ | ⟨rfl, hx3⟩)
        · have hX3 : W3.heap[X]? = W.heap[X]? := hk3.2.1.trans ((hga.block X hlXr (by simp)).trans hXk)
          have hG3 : W3.heap[G]? = W.heap[G]? := hk3.2.2.trans ((hga.block G hlGr (by simp)).trans hGk)
          obtain ⟨o, ho, hw⟩ := hwk
          have hB3 : W3.heap[W.heap.size]? = wr.heap[W.heap.size]? := (hk3.1 _ o (by omega) ((hga.block _ hlF (by simp)).trans ho) (Or.inr hw)).trans ho.symm
          clear hk3 hR hy
          gi_wp2
          go_roundw
          case rel =>
            refine ⟨k + 1, by omega, by go_num, ?_, ?_, hX3, hG3⟩
            · have hp2 : prs keys (k + 1) = prs keys k ++ [(fi, k)] := unhide HPR
              rw [hp2, List.length_append]
              exact hJ3
            · rw [unhide HTK]
              exact ((unhide HF).kept hB3).again (unhide HC)
          case measure => simp [intOf]; omega
        · clear hR hy
          gi_wp2
          (try simp only [Exit.inBlock, Exit.then])
          exact bodyPost_ret (results_none rfl _ _ _) rfl ⟨⟨_, rfl⟩, Or.inr hx3⟩
    · have hkk : k = keys.length := by omega
      have HKK := hide hkk
      clear hkk
      have hbd : ¬ (k : Int) < (keys.length : Int) := by omega
      gi_wp2
      go_end0
      refine ⟨⟨_, rfl⟩, Or.inl ?_⟩
      rw [← unhide HKK]
      exact hJk

end Go.Proofs.YthcppbmkacbbiaaGreat

namespace Go.Proofs.YthcppbmkacbbiaaGreat
open Go.RowKit Go.Maps Go.WideMaps
open Rdg (Key put)

attribute [local go_sem] Oper.semAt_some

/-- Between two rounds of together: the map in block b, held by the variable X. -/
structure TGI (w : World) (b X : Nat) (keys : List Nat) (k : Nat) (W : World) : Prop where
  x : W.cell? ⟨X, 0, none⟩ = some (.map (some b))
  m : CMap W b (fk keys k) keys.length k
  below : Below w.heap.size w W
  sz : w.heap.size + 3 ≤ W.heap.size

set_option linter.unusedSimpArgs false in
set_option maxRecDepth 100000 in
set_option maxHeartbeats 1000000 in
theorem togetherI_any (G cap : Nat) (keys : List Nat) (w : World) (hl : keys.length ≤ 100) (hG : RowsI w G keys) (hv : ∀ x ∈ keys, ∃ l, keyOf Tryz.prog 3 (kvI x) = some l) :
    Calls Tryz.prog 77 #[.slice (some ⟨G, 0, none⟩) keys.length cap] w fun e w' => ∃ b, e = .returned (.map (some b)) ∧ w.heap.size ≤ b ∧ Below w.heap.size w w' ∧ CMap w' b (fi keys) keys.length 100 := by
  refine (callsIn_wide (n := 5)).1 ?_
  have hmm := fun z => run_makeMap_hint (P := Tryz.prog) Tryz.underlying98 .i64 z w
  refine callsIn_of_wp_marks Tryz.func77 rfl trivial ?_ rfl
  simp only [Tryz.ntmps77, List.size_toArray, List.length_cons, List.length_nil, Nat.reduceAdd, Nat.reduceSub, Array.replicate_succ, Array.replicate_zero, List.push_toArray, List.append_toArray, List.nil_append, List.cons_append]
  gi_wp2
  refine ⟨trivial, (callsIn_wide.2 (alikeI_any (some ⟨G, 0, none⟩) keys.length cap _)).mono ?_⟩
  rintro e w2 ⟨rfl, rfl⟩
  gi_wp2
  obtain ⟨w2, hw2⟩ : ∃ w2, ((w.alloc (.map #[] 0)).alloc (.cells #[.map (some w.heap.size)] 98)).alloc (.cells #[.slice (some ⟨G, 0, none⟩) keys.length cap] 58) = w2 := ⟨_, rfl⟩
  have hs2 : w2.heap.size = w.heap.size + 3 := by rw [← hw2]; simp
  have hg2 : w.grownBy w2 none := by rw [← hw2]; exact ((World.grownBy_alloc _ _ none).trans (World.grownBy_alloc _ _ none)).trans (World.grownBy_alloc _ _ none)
  have hb2 : Below w.heap.size w w2 := ⟨hg2.os, hg2.tape, hg2.output, hg2.size, fun j hj => hg2.block j hj (by simp)⟩
  have hx2 : w2.cell? ⟨w.heap.size + 1, 0, none⟩ = some (.map (some w.heap.size)) := by rw [← hw2]; simp [go_sem]
  have hX2 : w2.cell? ⟨w.heap.size + 1 + 1, 0, none⟩ = some (.slice (some ⟨G, 0, none⟩) keys.length cap) := by rw [← hw2]; simp [go_sem]
  have hm2 : CMap w2 w.heap.size (fk keys 0) keys.length 0 := by
    have h0 : CMap (w.alloc (.map #[] 0)) w.heap.size (fk keys 0) keys.length 0 := ⟨.map [], 0, Nat.le_refl _, World.ownsMap_made w _ _ _, fun i hi => by rw [fk_zero]; exact ⟨by simp; rfl, fun h => absurd rfl h⟩⟩
    refine h0.kept ?_
    rw [← hw2, Below.heap_alloc _ _ _ (by simp; omega), Below.heap_alloc _ _ _ (by simp)]
  have hGl := hG.1
  have hseq := (alikiI_all 4 (by omega) (w.heap.size + 1 + 1) G cap w2.heap.size keys w2 (Nat.le_refl _) (by omega) hX2 (hG.below hb2 hGl) hv).all
  rw [hw2]
  have HS2 := hide hs2
  have hs2a : w.heap.size + 3 ≤ w2.heap.size := by omega
  have hs2b : w2.heap.size ≤ w.heap.size + 3 := by omega
  clear hw2 hmm hg2 hX2 hs2
  have hTG : TGI w w.heap.size (w.heap.size + 1) keys 0 w2 := ⟨hx2, hm2, hb2, hs2a⟩
  have hown : OwnFrom w2.heap.size (TGI w w.heap.size (w.heap.size + 1) keys) := by
    intro k W W' row h hg hr
    have hne : ∀ b, b < w2.heap.size → some b ≠ row := fun b hb e => by have := (hr b e.symm).1; omega
    exact ⟨hg.cell h.x (hne _ (by show w.heap.size + 1 < w2.heap.size; omega)), h.m.kept (hg.block _ h.m.lt (hne _ (by omega))), ownFrom_below (β := Unit) (Nat.le_refl _) (by omega) () W W' row h.below hg hr, Nat.le_trans h.sz hg.size⟩
  clear hx2 hm2 hb2
  refine wpIn_rangeFunc_seq rfl (by omega) rfl trivial (fun _ _ => by simp [go_sem]) hseq KA.trans ?_ (Below.refl _ _) ?_ (TGI w w.heap.size (w.heap.size + 1) keys) hown hTG
    (fun k a' W => ∃ hk : k < (prs keys keys.length).length, a' = { tmps := #[.slice (some ⟨G, 0, none⟩) keys.length cap, undef, .map none, .pointer (some ⟨w.heap.size + 1, 0, none⟩), .int .i64 ((prs keys keys.length)[k]).1, .int .i64 ((prs keys keys.length)[k]).2, .slice (some ⟨G, 0, none⟩) keys.length cap, .int .i64 keys.length, .map (some w.heap.size), .slice (some ⟨G, 0, none⟩) keys.length cap,
          .func (.func 170) #[] #[.pointer (some ⟨w.heap.size + 1 + 1, 0, none⟩)], .int .i64 ((prs keys keys.length)[k]).1, .int .i64 ((prs keys keys.length)[k]).2, undef, undef, undef, undef, undef], defers := [] }) ?own ?assign ?body ?done
  · intro W l o o' hlw ho hc hwk
    refine ⟨fun j x hj hx hxc => (World.putObj_heap_other (fun e => ?_)).trans hx, World.putObj_heap_other (by omega), World.putObj_heap_other (by omega)⟩
    subst e
    rw [ho] at hx
    cases hx
    rcases hxc with h | h
    · rw [hc] at h; cases h
    · rw [hwk] at h; cases h
  · intro k hk; simp
  case own =>
    rintro k a' ⟨⟩ W W' row h hg hr
    exact h
  case assign =>
    intro l k hk W K hI hK
    have hk' : k < (prs keys keys.length).length := by simpa using hk
    have e1 : ((prs keys keys.length).map fun p : Nat × Nat => #[Value.int .i64 p.1, Value.int .i64 p.2])[k]'hk = #[.int .i64 ((prs keys keys.length)[k]).1, .int .i64 ((prs keys keys.length)[k]).2] := by simp
    rw [e1]
    have hK2 := hK _ W ((KeepsOthers.refl _).from _) ⟨fun j o hj ho hc => ho, rfl, rfl⟩ hI ⟨hk', rfl⟩
    clear hK
    generalize (prs keys keys.length)[k] = pr at hK2 ⊢
    gi_wp2
    exact hK2
  case body =>
    rintro l k a' W hk hl' hI ⟨hk', rfl⟩
    have hix := hI.x
    have hmem := (prs_mem keys _ (Nat.le_refl _) _).1 (List.getElem_mem hk')
    have hfr := fk_fresh hk'
    have hfs := fk_step hk'
    have hkl : k ≤ 100 := by have := prs_len keys keys.length; omega
    have hj := join_any W w.heap.size keys.length k (fk keys k) ((prs keys keys.length)[k]).1 ((prs keys keys.length)[k]).2 hI.m (by omega) hmem.1 (by omega) (by omega) (by omega) hfr.2 hfr.1
    have hIb := hide hI
    have HFS := hide hfs
    clear hI hfs hfr hmem hTG hown
    generalize (prs keys keys.length)[k] = pr at hj HFS ⊢
    obtain ⟨x, y⟩ := pr
    simp only at hj ⊢
    gi_wp2
    refine ⟨trivial, CallsIn.inRound l (callsIn_wide.2 (hj.mono ?_))⟩
    rintro e w3 ⟨⟨v, rfl⟩, hg, hm⟩
    gi_wp2
    have hI := unhide hIb
    have hs : ∀ j, j < W.heap.size → j ≠ w.heap.size → w3.heap[j]? = W.heap[j]? := fun j hj hne => hg.block j hj (by simpa using hne)
    have hsW := hI.below.size
    have hlX : w.heap.size + 3 ≤ W.heap.size := hI.sz
    refine ⟨⟨hg.size, fun j o hj ho _ => (hs j (Array.getElem?_eq_some_iff.1 ho).1 (by omega)).trans ho⟩, ⟨fun j o hj ho _ => (hs j (Array.getElem?_eq_some_iff.1 ho).1 (by omega)).trans ho, hs _ (by omega) (by omega), hs G (by omega) (by omega)⟩,
      hg.cell hI.x (by simp), hm.congr (fun i _ => (unhide HFS i).symm), hI.below.grown hg hI.below.size (fun j e => by cases e; exact Nat.le_refl _), Nat.le_trans hI.sz hg.size⟩
  case done =>
    intro D W hD hI hdef
    have hx := hI.x
    gi_wp2
    refine ⟨by simp, .inl ⟨_, _, rfl, run_takeDeferred hdef, ?_⟩⟩
    refine ⟨_, results_tmp rfl _ _ _, ?_⟩
    have hI2 := hown.putObj (.deferred none) hI hD hdef rfl
    refine ⟨w.heap.size, rfl, Nat.le_refl _, hI2.below, ?_⟩
    obtain ⟨D', nn, h1, h2, h3⟩ := hI2.m
    have hle := prs_len keys keys.length
    rw [List.length_map] at h1 h3
    refine ⟨D', nn, by omega, h2, fun i hi => ?_⟩
    have h4 := h3 i hi
    rw [fk_all keys hi] at h4
    exact h4

end Go.Proofs.YthcppbmkacbbiaaGreat

namespace Go.Proofs.YthcppbmkacbbiaaGreat
open Go.RowKit Go.Maps Go.WideMaps
open Nx

theorem allClasses_any (n : Nat) (w : World) : Calls Tryz.prog 47 #[.int .i64 n] w fun e w' =>
    e = .returned (.func (.func 75) #[] #[.pointer (some ⟨w.heap.size, 0, none⟩)]) ∧ w' = w.alloc (.cells #[.int .i64 n] 3) := by
  go_enter Tryz.func47, Tryz.ntmps47
  go_wp2_with fail
  go_ret
  exact ⟨rfl, rfl⟩

/-- What is handed on: classes as the k-th row has them. -/
def CX (n k : Nat) (xs : Array Value) (W : World) : Prop := ∃ b row, xs = #[.map (some b)] ∧ (rws 0 n)[k]? = some row ∧ CMap W b (fi row) n 100

theorem RowD.same {w w' : World} {base G : Nat} {row : List Nat} (h : RowD w base G row) (hb : w'.heap[G]? = w.heap[G]?) : RowD w' base G row := by
  refine ⟨h.1, ?_⟩
  rcases h.2 with ⟨h', _⟩ | ⟨g', cap', cur, h', h1, hg, h2⟩
  · simp at h'
  · have h'' := h'
    simp only [Value.slice.injEq, Option.some.injEq, Addr.mk.injEq, and_true, true_and] at h''
    obtain ⟨rfl, rfl⟩ := h''
    exact .inr ⟨_, _, cur, h', h1, hb.trans hg, h2⟩

/-- Between two rounds of allClasses: r rounds are left. -/
def XI (J : Nat → World → Prop) (W : World) (N r : Nat) (v : Value) (wr : World) : Prop :=
  W.heap.size ≤ wr.heap.size ∧ ((∃ k row, r = (rws 0 N).length - k ∧ k < (rws 0 N).length ∧ v = .bool true ∧ J k wr ∧ (rws 0 N)[k]? = some row ∧ RowD wr W.heap.size W.heap.size row) ∨ (r = 0 ∧ v = .bool false ∧ J (rws 0 N).length wr))

set_option maxRecDepth 100000 in
set_option maxHeartbeats 2000000 in
theorem allClasses_all (n : Nat) (hn : 2 ≤ n) (X m0 N : Nat) (w : World) (hm0 : m0 ≤ w.heap.size) (h0 : 0 < N) (h7 : N ≤ 7) (hX : w.cell? ⟨X, 0, none⟩ = some (.int .i64 N)) :
    SeqRel Fence.wide n Tryz.prog 75 #[.pointer (some ⟨X, 0, none⟩)] (rws 0 N).length (CX N) (KA m0 X X) w := by
  intro l J W hW hJ hY h0
  have hXW : W.cell? ⟨X, 0, none⟩ = some (.int .i64 N) := (hW.cell (p := ⟨X, 0, none⟩) (World.block_lt_of_cell? w _ hX)).trans hX
  have hlX : X < W.heap.size := World.block_lt_of_cell? W _ hXW
  obtain ⟨i0, hin, hz0, hz1, hz2⟩ := info_parts infoI
  have hsW := hW.size
  obtain ⟨W1, hmk, hrow, hg1⟩ := run_make_full (P := Tryz.prog) W W.heap.size 58 3 i0 (.int .i64 0) 1 Tryz.underlying58 hin hz0 hz1 .i64 .i64 N (by rw [hz2]; omega) (by unfold maxLen; omega) (Nat.le_refl _)
  refine callsIn_of_wp Tryz.func75 rfl trivial ?_ rfl
  simp only [Tryz.ntmps75, List.size_toArray, List.length_cons, List.length_nil, Nat.reduceAdd, Nat.reduceSub, Array.replicate_succ, Array.replicate_zero, List.push_toArray, List.append_toArray, List.nil_append, List.cons_append]
  gi_wp2
  have hr0 : RowD W1 W.heap.size W.heap.size (List.replicate N 0) := by
    unfold RowD
    rw [List.length_replicate, List.map_replicate]
    have e : (madeCells (Value.int IntKind.i64 0).cells (N * 1)).toList = List.replicate N (kvI 0) := by
      rw [Nat.mul_one]; exact toList_madeCells_one _ _
    rw [← e]
    exact hrow
  have hJ1 : J 0 W1 := hJ 0 W W1 h0 (Nat.le_refl _) ⟨hg1.os, hg1.tape, hg1.output, hg1.size, fun j hj => hg1.block j hj (by simp)⟩
  have hI0 : XI J W N (rws 0 N).length (.bool true) W1 := ⟨hg1.size, Or.inl ⟨0, _, rfl, rws_pos _ _, rfl, hJ1, rws_zero _ _, hr0⟩⟩
  have HJ := hide hJ
  have HY := hide hY
  clear hJ1 hr0 hJ hY h0 hmk hrow
  gi_loopw [4] (fun v wr => ∃ r, XI J W N r v wr) (fun v wr => Classical.epsilon fun r => XI J W N r v wr ∧ ∀ m, XI J W N m v wr → r ≤ m)
  case atStart => exact ⟨_, hI0⟩
  case round =>
    have hsp := eps_spec hrel
    obtain ⟨hsz, ⟨k, row, hr, hk, rfl, hJk, hrk, hrd⟩ | ⟨hr, rfl, hJL⟩⟩ := hsp
    · have hmem : row ∈ rws 0 N := List.mem_of_getElem? hrk
      have hrl : row.length = N := rws_len _ _ row hmem
      have hle : ∀ x ∈ row, x ≤ 7 := fun x hx => by have := rws_le _ _ row hmem x hx; omega
      have horb := rws_orb N 0 k hk
      have hgk : (rws 0 N)[k] = row := by rw [List.getElem?_eq_getElem hk] at hrk; exact Option.some.inj hrk
      rw [hgk] at horb
      have htog := togetherI_any W.heap.size N row wr (by omega) ⟨(hrd.lt W.heap.size rfl).2, fun i hi => hrd.at hi⟩ (fun x hx => ⟨_, keyI (by have := hle x hx; omega)⟩)
      rw [hrl] at htog
      have HRL := hide hrl
      have HRK := hide hrk
      have HO := hide horb
      have HR := hide hr
      have HRD := hide hrd
      have HLE := hide hle
      have hlG := (hrd.lt W.heap.size rfl).2
      clear hrl hrk horb hr hrd hrel hle hmem hgk
      gi_wp2
      refine ⟨trivial, fun _ => by omega, (callsIn_wide.2 htog).mono ?_⟩
      rintro e w2 ⟨b, rfl, hb, hb2, hcm⟩
      have hJ2 : J k w2 := unhide HJ k wr w2 hJk hsz (hb2.mono hsz)
      have hs2 : wr.heap.size ≤ w2.heap.size := hb2.size
      obtain ⟨fn, tmps, assign, body, hy, hR⟩ := unhide HY k #[.map (some b)] w2 hk (by omega) ⟨b, row, rfl, unhide HRK, hcm⟩ hJ2
      clear htog
      gi_wp2
      refine ⟨fun _ => by omega, hR.mono ?_⟩
      rintro e W3 ⟨rfl, hJ3, hk3, hs3⟩
      have hG3 : W3.heap[W.heap.size]? = wr.heap[W.heap.size]? := by
        obtain ⟨o, ho⟩ : ∃ o, wr.heap[W.heap.size]? = some o := ⟨_, Array.getElem?_eq_getElem hlG⟩
        have hc : o.isCells = true := by
          rcases (unhide HRD).2 with ⟨h', _⟩ | ⟨g', cap', cur, h', _, hg, _⟩
          · simp at h'
          · simp only [Value.slice.injEq, Option.some.injEq, Addr.mk.injEq, and_true, true_and] at h'
            obtain ⟨rfl, rfl⟩ := h'
            rw [ho] at hg
            cases hg
            rfl
        rw [ho]
        exact hk3.1 _ o (by omega) ((hb2.block _ hlG).trans ho) (Or.inl hc)
      have hrd3 : RowD W3 W.heap.size W.heap.size row := (unhide HRD).same hG3
      have hnd := nextDigits_any W3 W.heap.size W.heap.size row (by rw [unhide HRL]; omega) (by rw [unhide HRL]; omega) (fun x hx => by have := unhide HLE x hx; omega) hrd3
      rw [unhide HRL] at hnd
      clear hR hy
      gi_wp2
      refine ⟨trivial, fun _ => by omega, (callsIn_wide.2 hnd).mono ?_⟩
      rintro e w4 ⟨rfl, hg4, hrd4⟩
      have hJ4 : J (k + 1) w4 := unhide HJ (k + 1) W3 w4 hJ3 (by omega) ⟨hg4.os, hg4.tape, hg4.output, hg4.size, fun j hj => hg4.block j (by omega) (by simp; omega)⟩
      have hs4 : W3.heap.size ≤ w4.heap.size := hg4.size
      gi_wp2
      have hor := unhide HO
      by_cases hlast : k + 1 < (rws 0 N).length
      · rw [if_pos hlast] at hor
        obtain ⟨row', hrow'⟩ : ∃ row', (rws 0 N)[k + 1]? = some row' := ⟨_, List.getElem?_eq_getElem hlast⟩
        rw [hrow'] at hor
        rw [hor] at hrd4 ⊢
        have hx : XI J W N ((rws 0 N).length - (k + 1)) (.bool (some row').isSome) w4 := ⟨by omega, Or.inl ⟨k + 1, row', rfl, hlast, rfl, hJ4, hrow', hrd4⟩⟩
        exact ⟨⟨_, hx⟩, eps_lt hx (by have := unhide HR; omega)⟩
      · rw [if_neg hlast] at hor
        rw [hor]
        have hx : XI J W N 0 (.bool (none : Option (List Nat)).isSome) w4 := ⟨by omega, Or.inr ⟨rfl, rfl, by rw [show (rws 0 N).length = k + 1 by omega]; exact hJ4⟩⟩
        exact ⟨⟨_, hx⟩, eps_lt hx (by have := unhide HR; omega)⟩
    · gi_wp2
      go_end0
      exact ⟨⟨_, rfl⟩, hJL, hsz⟩

end Go.Proofs.YthcppbmkacbbiaaGreat

namespace Go.Proofs.YthcppbmkacbbiaaGreat
open Go.RowKit Go.Maps Go.WideMaps
open Nx

theorem set_mid {α : Type} (A B : List α) (x y : α) {k : Nat} (h : A.length = k) : (A ++ x :: B).set k y = A ++ y :: B := by subst h; simp

theorem bit_at {k j : Nat} (hk : k < 16) (hj : j < 4) : Go.bits BinOp.and IntKind.i64 ((k : Int) / 2 ^ j) 1 = ((k / 2 ^ j % 2 : Nat) : Int) := by
  have h : ∀ k : Fin 16, ∀ j : Fin 4, Go.bits BinOp.and IntKind.i64 ((k.val : Int) / 2 ^ j.val) 1 = ((k.val / 2 ^ j.val % 2 : Nat) : Int) := by decide +kernel
  exact h ⟨k, hk⟩ ⟨j, hj⟩

theorem allTruths_any (n : Nat) (w : World) : Calls Tryz.prog 49 #[.int .i64 n] w fun e w' =>
    e = .returned (.func (.func 81) #[] #[.pointer (some ⟨w.heap.size, 0, none⟩)]) ∧ w' = w.alloc (.cells #[.int .i64 n] 3) := by
  go_enter Tryz.func49, Tryz.ntmps49
  go_wp2_with fail
  go_ret
  exact ⟨rfl, rfl⟩

/-- What is handed on: the k-th truths. -/
def TX (n k : Nat) (xs : Array Value) (W : World) : Prop := ∃ H, xs = #[.slice (some ⟨H, 0, none⟩) n n] ∧ RowsH W H (tv n k)

set_option maxRecDepth 100000 in
set_option maxHeartbeats 2000000 in
theorem allTruths_all (n : Nat) (hn : 2 ≤ n) (X m0 N : Nat) (w : World) (h4 : N ≤ 4) (hX : w.cell? ⟨X, 0, none⟩ = some (.int .i64 N)) :
    SeqRel Fence.wide n Tryz.prog 81 #[.pointer (some ⟨X, 0, none⟩)] (2 ^ N) (TX N) (KA m0 X X) w := by
  intro l J W hW hJ hY h0
  have hXW : W.cell? ⟨X, 0, none⟩ = some (.int .i64 N) := (hW.cell (p := ⟨X, 0, none⟩) (World.block_lt_of_cell? w _ hX)).trans hX
  have hlX : X < W.heap.size := World.block_lt_of_cell? W _ hXW
  obtain ⟨i0, hin, hz0, hz1, hz2⟩ := info_parts infoL
  have hsW := hW.size
  refine callsIn_of_wp Tryz.func81 rfl trivial ?_ rfl
  simp only [Tryz.ntmps81, List.size_toArray, List.length_cons, List.length_nil, Nat.reduceAdd, Nat.reduceSub, Array.replicate_succ, Array.replicate_zero, List.push_toArray, List.append_toArray, List.nil_append, List.cons_append]
  gi_wp2
  have hp : wrap64 ((2 : Int) ^ N) = ((2 ^ N : Nat) : Int) := by
    have h' : N = 0 ∨ N = 1 ∨ N = 2 ∨ N = 3 ∨ N = 4 := by omega
    rcases h' with rfl | rfl | rfl | rfl | rfl <;> (unfold wrap64; omega)
  rw [hp]
  clear hp
  obtain ⟨M, hM⟩ : ∃ M, 2 ^ N = M := ⟨_, rfl⟩
  rw [hM] at hY ⊢
  have hM16 : M ≤ 16 := by
    have h' : N = 0 ∨ N = 1 ∨ N = 2 ∨ N = 3 ∨ N = 4 := by omega
    rcases h' with rfl | rfl | rfl | rfl | rfl <;> omega
  have HJ := hide hJ
  have HY := hide hY
  have HM := hide hM
  clear hJ hY hM
  gi_loopw [8] (fun i wr => ∃ k : Nat, k ≤ M ∧ i = .int .i64 k ∧ J k wr ∧ wr.heap[X]? = W.heap[X]? ∧ W.heap.size ≤ wr.heap.size) (fun i _ => M - (intOf i).toNat)
  case atStart => exact ⟨0, Nat.zero_le _, rfl, h0, rfl, Nat.le_refl _⟩
  case round =>
    obtain ⟨k, hk, rfl, hJk, hXk, hsz⟩ := hrel
    obtain ⟨w0, rfl⟩ : ∃ w0, w0 = wr := ⟨_, rfl⟩
    by_cases hlt : k < M
    · have hbd : (k : Int) < (M : Int) := by omega
      have hXr : w0.cell? ⟨X, 0, none⟩ = some (.int .i64 N) := (World.cell?_of_block hXk).trans hXW
      obtain ⟨W1, hmk, hrow, hg1⟩ := run_make_full (P := Tryz.prog) w0 w0.heap.size 103 4 i0 (.bool false) 1 Tryz.underlying103 hin hz0 hz1 .i64 .i64 N (by rw [hz2]; omega) (by unfold maxLen; omega) (Nat.le_refl _)
      have e0 : (madeCells (Value.bool false).cells (N * 1)).toList = List.replicate N (.bool false) := by
        rw [Nat.mul_one]; exact toList_madeCells_one _ _
      rw [e0] at hrow
      have HROW := hide hrow
      clear hrow e0
      gi_wp2
      gi_loopw [15] (fun i wr => ∃ j : Nat, j ≤ N ∧ i = .int .i64 j ∧ w0.grownBy wr none ∧ wr.ownsRow w0.heap.size 4 1 (.slice (some ⟨w0.heap.size, 0, none⟩) N N) N (((tv N k).take j ++ List.replicate (N - j) false).map Value.bool)) (fun i _ => N - (intOf i).toNat)
      case atStart => exact ⟨0, Nat.zero_le _, rfl, hg1, by simpa using unhide HROW⟩
      case round =>
        obtain ⟨j, hj, rfl, hg2, hr2⟩ := hrel
        by_cases hlj : j < N
        · have hbj : (j : Int) < (N : Int) := by omega
          have hcj : wr.cell? ⟨w0.heap.size, j, none⟩ = some (.bool false) := by
            have hl1 : ((tv N k).take j).length = j := by rw [List.length_take, tv_length]; omega
            rw [hr2.cellAt j (by omega), List.getElem?_map, List.getElem?_append_right (by omega), hl1, Nat.sub_self, List.getElem?_eq_getElem (by simp; omega)]
            simp
          have hfj : wr.frozen? ⟨w0.heap.size, j, none⟩ = false := hr2.frozenAt j
          obtain ⟨bv, hbv⟩ : ∃ bv, decide (k / 2 ^ j % 2 = 1) = bv := ⟨_, rfl⟩
          have hst := hr2.stored j (.bool bv)
          have hbit : (Go.bits BinOp.and IntKind.i64 ((k : Int) / 2 ^ j) 1 == 1) = bv := by
            rw [bit_at (k := k) (j := j) (by omega) (by omega), ← hbv, Bool.eq_iff_iff]
            simp only [beq_iff_eq, decide_eq_true_eq]
            omega
          have htk : (tv N k).take (j + 1) = (tv N k).take j ++ [bv] := by
            rw [List.take_add_one, List.getElem?_eq_getElem (by rw [tv_length]; exact hlj)]
            simp [tv, hbv]
          have HST := hide hst
          have HTK := hide htk
          clear hst hbv htk
          gi_wp2
          refine ⟨⟨j + 1, hlj, by go_num, ⟨(unhide HST).2.os.trans hg2.os, (unhide HST).2.tape.trans hg2.tape, (unhide HST).2.output.trans hg2.output, Nat.le_trans hg2.size (unhide HST).2.size, fun q hq _ => ((unhide HST).2.block q (Nat.lt_of_lt_of_le hq hg2.size) (by simp; omega)).trans (hg2.block q hq (by simp))⟩, ?_⟩, by simp [intOf]; omega⟩
          have e : ((tv N k).take (j + 1) ++ List.replicate (N - (j + 1)) false).map Value.bool = (((tv N k).take j ++ List.replicate (N - j) false).map Value.bool).set j (.bool bv) := by
            have hl1 : ((tv N k).take j).length = j := by rw [List.length_take, tv_length]; omega
            have hl2 : (((tv N k).take j).map Value.bool).length = j := by rw [List.length_map, hl1]
            have e2 := set_mid (((tv N k).take j).map Value.bool) ((List.replicate (N - (j + 1)) false).map Value.bool) (.bool false) (.bool bv) hl2
            rw [unhide HTK, show N - j = N - (j + 1) + 1 by omega, List.replicate_succ]
            simp only [List.map_append, List.map_cons, List.map_nil]
            rw [e2]
            simp
          rw [e]
          exact (unhide HST).1
        · have hjj : j = N := by omega
          have HJJ := hide hjj
          have hbj : ¬ (j : Int) < (N : Int) := by omega
          have hrh : RowsH wr w0.heap.size (tv N k) := by
            refine ⟨(hr2.lt w0.heap.size rfl).2, fun i hi => ?_⟩
            have hi' : i < N := by rw [tv_length] at hi; exact hi
            rw [hr2.cellAt i (by omega), hjj, List.take_of_length_le (by rw [tv_length]; exact Nat.le_refl _)]
            simp [hi', tv_length]
          have hJr : J k wr := unhide HJ k w0 wr hJk hsz ⟨hg2.os, hg2.tape, hg2.output, hg2.size, fun q hq => hg2.block q (by omega) (by simp)⟩
          have hsr : w0.heap.size ≤ wr.heap.size := hg2.size
          obtain ⟨fn, tmps, assign, body, hy, hR⟩ := unhide HY k #[.slice (some ⟨w0.heap.size, 0, none⟩) N N] wr hlt (by omega) ⟨w0.heap.size, rfl, hrh⟩ hJr
          have hXr2 : wr.heap[X]? = W.heap[X]? := (hg2.block X (by omega) (by simp)).trans hXk
          clear hjj hr2 hrh
          gi_wp2
          refine ⟨fun _ => by omega, hR.mono ?_⟩
          rintro e W3 ⟨rfl, hJ3, hk3, hs3⟩
          clear hR hy
          gi_wp2
          exact ⟨⟨k + 1, hlt, by go_num, hJ3, hk3.2.1.trans hXr2, by omega⟩, by simp [intOf]; omega⟩
    · have hkk : k = M := by omega
      have hbd : ¬ (k : Int) < (M : Int) := by omega
      have HKK := hide hkk
      clear hkk
      gi_wp2
      go_end0
      refine ⟨⟨_, rfl⟩, ?_, hsz⟩
      rw [unhide HM, ← unhide HKK]
      exact hJk

end Go.Proofs.YthcppbmkacbbiaaGreat
