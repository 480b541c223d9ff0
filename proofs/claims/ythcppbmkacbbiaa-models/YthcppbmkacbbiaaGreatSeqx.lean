import Derived.Test.YthcppbmkacbbiaaGreatSeqM
import Derived.RangeFuncNested
import Derived.RangeFuncBound
import Derived.RangeFuncCalls
import Derived.RangeFuncLeaves
namespace Go.Proofs.YthcppbmkacbbiaaGreat
open Go.RowKit

/-- An iterator that hands on the values of xs, one behind the other, till a yield says no: J k holds when k of them have gone, Jx when no was said. -/
def SeqAllX (F : Fence) (n : Nat) (P : Program) (g : Nat) (lb : Array Value) (xs : List (Array Value)) (Kp : World → World → Prop) (w : World) : Prop :=
  ∀ (l : Nat) (J : Nat → World → Prop) (Jx : World → Prop) (W : World), Below w.heap.size w W → AbidesFrom W.heap.size J → AbidesFrom W.heap.size (fun (_ : Unit) V => Jx V) →
    (∀ k (hk : k < xs.length) W1, J k W1 → YieldAt F (n - 1) P l xs[k] W1 fun e W' => (e = .returned (.bool true) ∧ J (k + 1) W' ∧ Kp W1 W') ∨ (e = .returned (.bool false) ∧ Jx W')) →
    J 0 W →
    CallsIn F n P g (#[.func (.yield l) #[] #[]] ++ lb) W fun e W' => (∃ v, e = .returned v) ∧ (J xs.length W' ∨ Jx W')

theorem YieldAt.mono {F : Fence} {n : Nat} {P : Program} {l : Nat} {args : Array Value} {W : World} {Q Q' : Ending → World → Prop} (h : YieldAt F n P l args W Q) (hq : ∀ e w, Q e w → Q' e w) : YieldAt F n P l args W Q' := by
  obtain ⟨fn, tmps, assign, body, hy, hR⟩ := h
  exact ⟨fn, tmps, assign, body, hy, hR.mono hq⟩

theorem SeqAllX.all {F : Fence} {n : Nat} {P : Program} {g : Nat} {lb : Array Value} {xs : List (Array Value)} {Kp : World → World → Prop} {w : World} (h : SeqAllX F n P g lb xs Kp w) : SeqAll F n P g lb xs Kp w := by
  intro l J W hW hJ hY h0
  refine (h l J (fun _ => False) W hW hJ (fun _ _ _ _ hf _ _ => hf) (fun k hk W1 hJk => (hY k hk W1 hJk).mono fun e W' he => Or.inl he) h0).mono ?_
  rintro e W' ⟨h1, h2 | h2⟩
  · exact ⟨h1, h2⟩
  · exact h2.elim

/-- How a body ends that may return. -/
def goesOnX (B : Nat) (Kp : World → World → Prop) (I Ix : World → Prop) (W : World) : Exit → Act → World → Prop
  | .normal, _, W' => KeepsFrom B W W' ∧ Kp W W' ∧ I W'
  | .ret, _, W' => KeepsFrom B W W' ∧ Ix W'
  | _, _, _ => False

/-- THE LOOP over such an iterator: what holds (I k) when k rounds are over. -/
theorem wpIn_rangeFunc_seqx {F : Fence} {n : Nat} {P : Program} {g : Operand} {ps : Array Tmp} {assign body : Code} {Q : Exit → Act → World → Prop} {a : Act} {w : World}
    (hro : F.round = none) (h1 : 1 ≤ n) {gf : Nat} {lb : Array Value} (hg : a.eval g = .func (.func gf) #[] lb) (hFg : F.fn gf) (eg : ∀ args w, (callFunc gf args).run P w = .ok (.enter gf args) w)
    {xs : List (Array Value)} {Kp : World → World → Prop} {w0 : World} (hseq : SeqAllX F (n - 1) P gf lb xs Kp w0)
    (hKt : ∀ {A B C : World}, Kp A B → Kp B C → Kp A C) (hKb : ∀ (W : World) (l : Nat) (o o' : Obj), w.heap.size ≤ l → W.heap[l]? = some o → o.isCells = false → o.isWalk = false → Kp W (W.putObj l o'))
    (hb0 : Below w0.heap.size w0 w) (hps : ∀ k (hk : k < xs.length), xs[k].size = ps.size)
    (I : Nat → World → Prop) (Ix : World → Prop) (hI : OwnFrom w.heap.size I) (hIx : OwnFrom w.heap.size (fun (_ : Unit) W => Ix W)) (h0 : I 0 w) (Ax : Nat → Act → World → Prop) (hAx : ∀ k a', OwnFrom w.heap.size (fun (_ : Unit) W => Ax k a' W))
    (hassign : ∀ (l k : Nat) (hk : k < xs.length) (W : World) (K : Act → World → Prop), I k W → (∀ a' W', KeepsFrom w.heap.size W W' → Kp W W' → I k W' → Ax k a' W' → K a' W') →
      assign.wpIn (F.inRound l) (n - 1 - 1) P (Exit.then K (fun _ _ _ => False)) { tmps := (ps.zip xs[k]).foldl (fun t (p, v) => t.setIfInBounds p v) a.tmps, defers := [] } W)
    (hbody : ∀ (l k : Nat) (a' : Act) (W : World), k < xs.length → w.heap.size ≤ l → I k W → Ax k a' W → body.wpIn (F.inRound l) (n - 1 - 1) P (goesOnX w.heap.size Kp (I (k + 1)) Ix W) a' W)
    (hdone : ∀ (D : Nat) (W : World), w.heap.size ≤ D → I xs.length W → W.heap[D]? = some (.deferred (some [])) → Q .normal { a with defers := { target := .collected D, args := #[] } :: a.defers } W)
    (hstop : ∀ (D : Nat) (W : World), w.heap.size ≤ D → Ix W → W.heap[D]? = some (.deferred (some [])) → Code.ret.wpIn F n P Q { a with defers := { target := .collected D, args := #[] } :: a.defers } W) :
    (Code.rangeFunc g ps assign body).wpIn F n P Q a w := by
  refine wpIn_rangeFunc ?_
  intro fn hfn
  rw [hro]
  obtain ⟨lp, hlp⟩ : ∃ lp : LoopState → Option Code → Loop, lp = fun st pe => { state := st, pending := pe, fn, tmps := a.tmps, params := ps, assign, body, defers := w.heap.size } := ⟨_, rfl⟩
  obtain ⟨W1, hW1⟩ : ∃ W1, (w.alloc (.deferred (some []))).alloc (.loop (lp .ready none)) = W1 := ⟨_, rfl⟩
  have hsz1 : W1.heap.size = w.heap.size + 2 := by rw [← hW1]; simp
  have loop1 : W1.heap[w.heap.size + 1]? = some (.loop (lp .ready none)) := by
    have h := World.alloc_heap_new (w.alloc (.deferred (some []))) (.loop (lp .ready none))
    rw [World.size_alloc] at h
    rw [← hW1]; exact h
  have defer1 : W1.heap[w.heap.size]? = some (.deferred (some [])) := by
    rw [← hW1]; exact (Below.heap_alloc _ _ _ (by simp)).trans (World.alloc_heap_new w _)
  have inv1 : I 0 W1 := by rw [← hW1]; exact hI.alloc _ (hI.alloc _ h0)
  have below1 : Below w0.heap.size w0 W1 := by
    rw [← hW1]; exact hb0.trans ((((Below.refl _ w).alloc (Nat.le_refl _) _).alloc (by simp) _).mono hb0.size)
  have abide : AbidesFrom W1.heap.size (fun k W => I k W ∧ W.heap[w.heap.size + 1]? = some (.loop (lp .ready none)) ∧ W.heap[w.heap.size]? = some (.deferred (some []))) := by
    intro k A B row hk hgr hr
    refine ⟨hI k A B row hk.1 hgr (fun r e => ?_), (grownBy_keeps hgr (fun r e => (hr r e).2) hk.2.1 rfl).trans hk.2.1, (grownBy_keeps hgr (fun r e => (hr r e).2) hk.2.2 rfl).trans hk.2.2⟩
    obtain ⟨h2, o, ho, hw⟩ := hr r e
    exact ⟨by omega, o, ho, Obj.not_cells_of_walk hw⟩
  have abidex : AbidesFrom W1.heap.size (fun (_ : Unit) W => Ix W ∧ W.heap[w.heap.size + 1]? = some (.loop (lp .done (some .ret))) ∧ W.heap[w.heap.size]? = some (.deferred (some []))) := by
    intro k A B row hk hgr hr
    refine ⟨hIx () A B row hk.1 hgr (fun r e => ?_), (grownBy_keeps hgr (fun r e => (hr r e).2) hk.2.1 rfl).trans hk.2.1, (grownBy_keeps hgr (fun r e => (hr r e).2) hk.2.2 rfl).trans hk.2.2⟩
    obtain ⟨h2, o, ho, hw⟩ := hr r e
    exact ⟨by omega, o, ho, Obj.not_cells_of_walk hw⟩
  refine ⟨w.heap.size + 1, [{ target := .collected w.heap.size, args := #[] }], W1, { target := .fn (.func gf) lb, args := #[.func (.yield (w.heap.size + 1)) #[] #[]] }, W1, gf,
    #[.func (.yield (w.heap.size + 1)) #[] #[]] ++ lb, W1, ?_, ?_, ?_, ?_, fun _ => h1, ?_⟩
  · rw [← hW1, hlp]; exact run_enterLoop_outer _ _ _ _ _
  · simp only [resolve, hg]
    simp [go_sem]
  · intro f' hf'; simp [Target.leads] at hf'; subst hf'; exact hFg
  · simp [invoke, go_sem, eg]
  · refine (hseq (w.heap.size + 1) _ _ W1 below1 abide abidex ?_ ⟨inv1, loop1, defer1⟩).mono ?_
    · rintro k hk W ⟨hi, hl, hd⟩
      have hy := run_yield (P := P) (args := xs[k]) hl (by rw [hlp]; exact hps k hk)
      rw [hlp] at hy
      refine ⟨fn, _, assign, body, hy, roundIn_of_wpIn hfn (hassign _ k hk W _ hi ?_)⟩
      intro a' Wa keepA kpA iA ax
      have hl2 := keepA.same _ _ (by omega) hl rfl
      have hd2 := keepA.same _ _ (Nat.le_refl _) hd rfl
      have hlt : w.heap.size + 1 < Wa.heap.size := (Array.getElem?_eq_some_iff.1 hl2).1
      refine ⟨_, run_beginRound hl2 (by rw [hlp]), ?_⟩
      have hl3 : (Wa.putObj (w.heap.size + 1) (.loop { lp .ready none with state := .busy })).heap[w.heap.size + 1]? = some (.loop { lp .ready none with state := .busy }) := World.putObj_heap_same hlt
      have hd3 : (Wa.putObj (w.heap.size + 1) (.loop { lp .ready none with state := .busy })).heap[w.heap.size]? = some (.deferred (some [])) := (World.putObj_heap_other (by omega)).trans hd2
      have kp3 : Kp Wa (Wa.putObj (w.heap.size + 1) (.loop { lp .ready none with state := .busy })) := hKb _ _ _ _ (by omega) hl2 rfl rfl
      refine wpIn_mono (hbody (w.heap.size + 1) k a' _ hk (by omega) (hI.putObj _ iA (by omega) hl2 rfl) ((hAx k a').putObj (s := ()) _ ax (by omega) hl2 rfl)) ?_
      rintro e a3 W3 hp
      cases e with
      | normal =>
        obtain ⟨keep3, kp4, i3⟩ := hp
        have hl4 := keep3.same _ _ (by omega) hl3 rfl
        have hr := run_endRound (P := P) none hl4
        rw [hlp] at hr
        refine ⟨_, _, hr, Or.inl ⟨rfl, ⟨hI.putObj _ i3 (by omega) hl4 rfl, ?_, ?_⟩, hKt kpA (hKt (hKt kp3 kp4) (hKb _ _ _ _ (by omega) hl4 rfl rfl))⟩⟩
        · rw [hlp]; exact World.putObj_heap_same (Array.getElem?_eq_some_iff.1 hl4).1
        · exact (World.putObj_heap_other (by omega)).trans (keep3.same _ _ (Nat.le_refl _) hd3 rfl)
      | ret =>
        obtain ⟨keep3, i3⟩ := hp
        have hl4 := keep3.same _ _ (by omega) hl3 rfl
        have hr := run_endRound (P := P) (some .ret) hl4
        rw [hlp] at hr
        refine ⟨_, _, hr, Or.inr ⟨rfl, hIx.putObj (s := ()) _ i3 (by omega) hl4 rfl, ?_, ?_⟩⟩
        · rw [hlp]; exact World.putObj_heap_same (Array.getElem?_eq_some_iff.1 hl4).1
        · exact (World.putObj_heap_other (by omega)).trans (keep3.same _ _ (Nat.le_refl _) hd3 rfl)
      | exit id => exact hp.elim
      | goto t => exact hp.elim
      | panic ch => exact hp.elim
      | outgrown => exact hp.elim
    · rintro e W2 ⟨⟨v, rfl⟩, ⟨hi, hl, hd⟩ | ⟨hi, hl, hd⟩⟩
      · have hr := run_endLoop (P := P) hl (by rw [hlp]; simp)
        rw [hlp] at hr
        exact ⟨none, _, hr, hdone _ _ (Nat.le_refl _) (hI.putObj _ hi (by omega) hl rfl) ((World.putObj_heap_other (by omega)).trans hd)⟩
      · have hr := run_endLoop (P := P) hl (by rw [hlp]; simp)
        rw [hlp] at hr
        exact ⟨some .ret, _, hr, hstop _ _ (Nat.le_refl _) (hIx.putObj (s := ()) _ hi (by omega) hl rfl) ((World.putObj_heap_other (by omega)).trans hd)⟩

end Go.Proofs.YthcppbmkacbbiaaGreat
