import Derived.Test.YthcppbmkacbbiaaGreatKeysM
import Derived.LoopN
import Derived.Test.YthcppbmkacbbiaaGreatSeqM
import Derived.RangeFuncNested
import Derived.RangeFuncBound
import Derived.RangeFuncCalls
import Derived.RangeFuncLeaves
import Derived.Test.YthcppbmkacbbiaaGreatLstGM
import Derived.OrdersHeld
import Derived.Deep.RegionHeldLaw
import Derived.OrdersIn
import Derived.Laws.OwnMore
namespace Go.Proofs.YthcppbmkacbbiaaGreat
open Go.RowKit Go.Maps Go.WideMaps

theorem keyI {i : Nat} (h : i ≤ 1000) : keyOf Tryz.prog 3 (.int .i64 i) = some (.int .i64 i) := by
  have hw : (Lit.int .i64 i).wf = true := WalkArith.wf_i64 (by omega)
  simp [keyOf, mapKey, Tryz.underlying3, hw]

theorem lawI : Keyed Tryz.prog 3 := int_keyed Tryz.underlying3

/-- Block b holds classes: each number below n leads to the one that stands for it, if that is another. -/
def CMap (w : World) (b : Nat) (f : Nat → Nat) (n c : Nat) : Prop :=
  ∃ (D : DataW Unit) (nn : Nat), nn ≤ c ∧ w.ownsMap Tryz.prog 3 (plainElem Tryz.prog 3) b nn D ∧
    ∀ i, i < n → Maps.has D (.int .i64 i) = decide (f i ≠ i) ∧ (f i ≠ i → D.atKey (.int .i64 i) (.lit (.int .i64 0)) = .lit (.int .i64 (f i)))

theorem CMap.lt {w : World} {b n c : Nat} {f : Nat → Nat} (h : CMap w b f n c) : b < w.heap.size := by
  obtain ⟨D, nn, _, h1, _⟩ := h; exact h1.lt

theorem CMap.kept {w w' : World} {b n c : Nat} {f : Nat → Nat} (h : CMap w b f n c) (hb : w'.heap[b]? = w.heap[b]?) : CMap w' b f n c := by
  obtain ⟨D, nn, h0, ⟨es, clock, h1, h2⟩, h3⟩ := h
  exact ⟨D, nn, h0, ⟨es, clock, hb.trans h1, h2⟩, h3⟩

theorem CMap.congr {w : World} {b n c : Nat} {f g : Nat → Nat} (h : CMap w b f n c) (e : ∀ i, i < n → f i = g i) : CMap w b g n c := by
  obtain ⟨D, nn, h0, h1, h2⟩ := h
  exact ⟨D, nn, h0, h1, fun i hi => by rw [← e i hi]; exact h2 i hi⟩

set_option maxHeartbeats 1000000 in
theorem of_any (w : World) (b n c : Nat) (f : Nat → Nat) (i : Nat) (hM : CMap w b f n c) (hi : i < n) (hn : n ≤ 1000) (hle : f i ≤ i) (hff : f (f i) = f i) :
    Calls Tryz.prog 82 #[.map (some b), .int .i64 i] w fun e w' => e = .returned (.int .i64 (f i)) ∧ w' = w := by
  obtain ⟨D, nn, h0, hown, hall⟩ := hM
  by_cases e : f i = i
  · have hk := hall i hi
    have hhas : Maps.has D (.int .i64 i) = false := by rw [hk.1]; simp [e]
    have hkey : keyOf Tryz.prog 3 (.int .i64 i) = some (.int .i64 i) := keyI (by omega)
    have E := hide e
    clear hall hk e hff hle
    go_enter Tryz.func82, Tryz.ntmps82
    go_wp2_with fail
    refine wp_loop_rounds 1 ?_
    rw [rounds_succ]
    go_wp2_with (at_lookup; refine wpList_lookup_own_ok_int _ rfl _ _ 98 rfl 3 3 .i64 lawI Tryz.underlying98 Tryz.underlying3 (zeroE _) b nn D rfl hown _ (.int .i64 i) rfl hkey ?_; intro c0 hat hwc)
    go_ret
    exact ⟨ret_int (by rw [unhide E]), rfl⟩
  · have hk := hall i hi
    have hk2 := hall (f i) (by omega)
    have hhas : Maps.has D (.int .i64 i) = true := by rw [hk.1]; simp [e]
    have hhas2 : Maps.has D (.int .i64 (f i)) = false := by rw [hk2.1]; simp [hff]
    have hkey : keyOf Tryz.prog 3 (.int .i64 i) = some (.int .i64 i) := keyI (by omega)
    have hkey2 : keyOf Tryz.prog 3 (.int .i64 (f i)) = some (.int .i64 (f i)) := keyI (by omega)
    have HAT := hide (hk.2 e)
    clear hall hk hk2 e hff hle
    generalize f i = j at hhas2 hkey2 HAT
    go_enter Tryz.func82, Tryz.ntmps82
    go_wp2_with fail
    refine wp_loop_rounds 2 ?_
    rw [rounds_succ]
    go_wp2_with (at_lookup; refine wpList_lookup_own_ok_int _ rfl _ _ 98 rfl 3 3 .i64 lawI Tryz.underlying98 Tryz.underlying3 (zeroE _) b nn D rfl hown _ (.int .i64 i) rfl hkey ?_; intro c0 hat hwc; have hc0 : c0 = (j : Int) := by {have h := hat.symm.trans (unhide HAT); simpa using h}; subst hc0; clear hat hwc)
    rw [rounds_succ]
    go_wp2_with (at_lookup; refine wpList_lookup_own_ok_int _ rfl _ _ 98 rfl 3 3 .i64 lawI Tryz.underlying98 Tryz.underlying3 (zeroE _) b nn D rfl hown _ (.int .i64 j) rfl hkey2 ?_; intro c0 hat hwc)
    go_ret
    exact ⟨rfl, rfl⟩

set_option maxHeartbeats 1000000 in
theorem same_any (w : World) (b n c : Nat) (f : Nat → Nat) (i j : Nat) (hM : CMap w b f n c) (hi : i < n) (hj : j < n) (hn : n ≤ 1000) (hle : ∀ i, i < n → f i ≤ i ∧ f (f i) = f i) :
    Calls Tryz.prog 80 #[.map (some b), .int .i64 i, .int .i64 j] w fun e w' => e = .returned (.bool (decide (f i = f j))) ∧ w' = w := by
  have h1 := of_any w b n c f i hM hi hn (hle i hi).1 (hle i hi).2
  have h2 := of_any w b n c f j hM hj hn (hle j hj).1 (hle j hj).2
  generalize f i = x at h1 ⊢
  generalize f j = y at h2 ⊢
  go_enter Tryz.func80, Tryz.ntmps80
  go_wp2_with fail
  refine h1.mono ?_
  rintro e w1 ⟨rfl, rfl⟩
  go_wp2_with fail
  refine h2.mono ?_
  rintro e w2 ⟨rfl, rfl⟩
  go_wp2_with fail
  go_ret
  refine ⟨?_, rfl⟩
  by_cases e : x = y
  · subst e; simp
  · have : (x : Int) ≠ y := by omega
    simp [e, this]

set_option maxHeartbeats 1000000 in
/-- Two numbers that stand for themselves are joined. -/
theorem join_any (w : World) (b n c : Nat) (f : Nat → Nat) (i j : Nat) (hM : CMap w b f n c) (hi : i < n) (hj : j < n) (hn : n ≤ 500) (hc : c ≤ 500) (hne : i ≠ j) (fi : f i = i) (fj : f j = j) :
    Calls Tryz.prog 126 #[.map (some b), .int .i64 i, .int .i64 j] w fun e w' => (∃ v, e = .returned v) ∧ w.grownBy w' (some b) ∧ CMap w' b (fun k => if k = j then i else f k) n (c + 1) := by
  have h1 := of_any w b n c f i hM hi (by omega) (by omega) (by rw [fi, fi])
  have h2 := of_any w b n c f j hM hj (by omega) (by omega) (by rw [fj, fj])
  rw [fi] at h1
  rw [fj] at h2
  obtain ⟨D, nn, h0, hown, hall⟩ := hM
  have htidy := hown.tidy lawI
  have hb : ((i : Int) != (j : Int)) = true := by simp; omega
  have hkey : keyOf Tryz.prog 3 (.int .i64 j) = some (.int .i64 j) := keyI (by omega)
  have HALL := hide hall
  clear hall fi fj
  go_enter Tryz.func126, Tryz.ntmps126
  go_wp2_with fail
  refine h1.mono ?_
  rintro e w1 ⟨rfl, rfl⟩
  go_wp2_with fail
  refine h2.mono ?_
  rintro e w2 ⟨rfl, rfl⟩
  go_wp2_with (at_mapUpdate; refine wpList_mapUpdate_own _ rfl _ _ _ 98 rfl 3 3 lawI Tryz.underlying98 _ b nn D rfl hown (by unfold maxLen; omega) _ _ (.int .i64 j) rfl rfl hkey _ [] (plainElem_int Tryz.underlying3 (WalkArith.wf_i64 (by omega))) ?_; intro w1 hown1 hgrow1)
  go_end0
  refine ⟨⟨_, rfl⟩, hgrow1, _, nn + 1, by omega, hown1, fun k hk => ?_⟩
  by_cases e : k = j
  · subst e
    simp only [if_true]
    rw [has_put_same htidy.isMap (lawI.key hkey), atKey_put_same htidy.isMap (lawI.key hkey)]
    simp [hne]
  · have e1 : (fun q => if q = j then i else f q) k = f k := if_neg e
    simp only [e1]
    rw [has_put_other (by simp; omega), atKey_put_other (by simp; omega)]
    exact unhide HALL k hk

end Go.Proofs.YthcppbmkacbbiaaGreat

namespace Go.Proofs.YthcppbmkacbbiaaGreat
open Go.RowKit

/-- An iterator that hands on the values of xs, one behind the other, till a yield says no: J k holds when k of them have gone, Jx when no was said. -/
def SeqAllX (F : Fence) (n : Nat) (P : Program) (g : Nat) (lb : Array Value) (xs : List (Array Value)) (Kp : World → World → Prop) (w : World) : Prop :=
  ∀ (l : Nat) (J : Nat → World → Prop) (Jx : World → Prop) (W : World), Below w.heap.size w W → AbidesFrom W.heap.size J → AbidesFrom W.heap.size (fun (_ : Unit) V => Jx V) →
    (∀ k (hk : k < xs.length) W1, J k W1 → YieldAt F (n - 1) P l xs[k] W1 fun e W' => (e = .returned (.bool true) ∧ J (k + 1) W' ∧ Kp W1 W') ∨ (e = .returned (.bool false) ∧ Jx W')) →
    J 0 W →
    CallsIn F n P g (#[.func (.yield l) #[] #[]] ++ lb) W fun e W' => (∃ v, e = .returned v) ∧ (J xs.length W' ∨ Jx W')

theorem YieldAt.mono {F : Fence} {n : Nat} {P : Program} {l : Nat} {args : Array Value} {W : World} {Q Q' : Ending → World → Prop} (h : YieldAt F n P l args W Q) (hq : ∀ e w, Q e w → Q' e w) : YieldAt F n P l args W Q' := by
  obtain ⟨fn, tmps, assign, body, hy, hR⟩ := h
  exact ⟨fn, tmps, assign, body, hy, hR.mono hq⟩

theorem SeqAllX.all {F : Fence} {n : Nat} {P : Program} {g : Nat} {lb : Array Value} {xs : List (Array Value)} {Kp : World → World → Prop} {w : World} (h : SeqAllX F n P g lb xs Kp w) : SeqAll F n P g lb xs Kp w := by
  intro l J W hW hJ hY h0
  refine (h l J (fun _ => False) W hW hJ (fun _ _ _ _ hf _ _ => hf) (fun k hk W1 hJk => (hY k hk W1 hJk).mono fun e W' he => Or.inl he) h0).mono ?_
  rintro e W' ⟨h1, h2 | h2⟩
  · exact ⟨h1, h2⟩
  · exact h2.elim

/-- How a body ends that may return. -/
def goesOnX (B : Nat) (Kp : World → World → Prop) (I Ix : World → Prop) (W : World) : Exit → Act → World → Prop
  | .normal, _, W' => KeepsFrom B W W' ∧ Kp W W' ∧ I W'
  | .ret, _, W' => KeepsFrom B W W' ∧ Ix W'
  | _, _, _ => False

/-- THE LOOP over such an iterator: what holds (I k) when k rounds are over. -/
theorem wpIn_rangeFunc_seqx {F : Fence} {n : Nat} {P : Program} {g : Operand} {ps : Array Tmp} {assign body : Code} {Q : Exit → Act → World → Prop} {a : Act} {w : World}
    (hro : F.round = none) (h1 : 1 ≤ n) {gf : Nat} {lb : Array Value} (hg : a.eval g = .func (.func gf) #[] lb) (hFg : F.fn gf) (eg : ∀ args w, (callFunc gf args).run P w = .ok (.enter gf args) w)
    {xs : List (Array Value)} {Kp : World → World → Prop} {w0 : World} (hseq : SeqAllX F (n - 1) P gf lb xs Kp w0)
    (hKt : ∀ {A B C : World}, Kp A B → Kp B C → Kp A C) (hKb : ∀ (W : World) (l : Nat) (o o' : Obj), w.heap.size ≤ l → W.heap[l]? = some o → o.isCells = false → o.isWalk = false → Kp W (W.putObj l o'))
    (hb0 : Below w0.heap.size w0 w) (hps : ∀ k (hk : k < xs.length), xs[k].size = ps.size)
    (I : Nat → World → Prop) (Ix : World → Prop) (hI : OwnFrom w.heap.size I) (hIx : OwnFrom w.heap.size (fun (_ : Unit) W => Ix W)) (h0 : I 0 w) (Ax : Nat → Act → World → Prop) (hAx : ∀ k a', OwnFrom w.heap.size (fun (_ : Unit) W => Ax k a' W))
    (hassign : ∀ (l k : Nat) (hk : k < xs.length) (W : World) (K : Act → World → Prop), I k W → (∀ a' W', KeepsFrom w.heap.size W W' → Kp W W' → I k W' → Ax k a' W' → K a' W') →
      assign.wpIn (F.inRound l) (n - 1 - 1) P (Exit.then K (fun _ _ _ => False)) { tmps := (ps.zip xs[k]).foldl (fun t (p, v) => t.setIfInBounds p v) a.tmps, defers := [] } W)
    (hbody : ∀ (l k : Nat) (a' : Act) (W : World), k < xs.length → w.heap.size ≤ l → I k W → Ax k a' W → body.wpIn (F.inRound l) (n - 1 - 1) P (goesOnX w.heap.size Kp (I (k + 1)) Ix W) a' W)
    (hdone : ∀ (D : Nat) (W : World), w.heap.size ≤ D → I xs.length W → W.heap[D]? = some (.deferred (some [])) → Q .normal { a with defers := { target := .collected D, args := #[] } :: a.defers } W)
    (hstop : ∀ (D : Nat) (W : World), w.heap.size ≤ D → Ix W → W.heap[D]? = some (.deferred (some [])) → Code.ret.wpIn F n P Q { a with defers := { target := .collected D, args := #[] } :: a.defers } W) :
    (Code.rangeFunc g ps assign body).wpIn F n P Q a w := by
  refine wpIn_rangeFunc ?_
  intro fn hfn
  rw [hro]
  obtain ⟨lp, hlp⟩ : ∃ lp : LoopState → Option Code → Loop, lp = fun st pe => { state := st, pending := pe, fn, tmps := a.tmps, params := ps, assign, body, defers := w.heap.size } := ⟨_, rfl⟩
  obtain ⟨W1, hW1⟩ : ∃ W1, (w.alloc (.deferred (some []))).alloc (.loop (lp .ready none)) = W1 := ⟨_, rfl⟩
  have hsz1 : W1.heap.size = w.heap.size + 2 := by rw [← hW1]; simp
  have loop1 : W1.heap[w.heap.size + 1]? = some (.loop (lp .ready none)) := by
    have h := World.alloc_heap_new (w.alloc (.deferred (some []))) (.loop (lp .ready none))
    rw [World.size_alloc] at h
    rw [← hW1]; exact h
  have defer1 : W1.heap[w.heap.size]? = some (.deferred (some [])) := by
    rw [← hW1]; exact (Below.heap_alloc _ _ _ (by simp)).trans (World.alloc_heap_new w _)
  have inv1 : I 0 W1 := by rw [← hW1]; exact hI.alloc _ (hI.alloc _ h0)
  have below1 : Below w0.heap.size w0 W1 := by
    rw [← hW1]; exact hb0.trans ((((Below.refl _ w).alloc (Nat.le_refl _) _).alloc (by simp) _).mono hb0.size)
  have abide : AbidesFrom W1.heap.size (fun k W => I k W ∧ W.heap[w.heap.size + 1]? = some (.loop (lp .ready none)) ∧ W.heap[w.heap.size]? = some (.deferred (some []))) := by
    intro k A B row hk hgr hr
    refine ⟨hI k A B row hk.1 hgr (fun r e => ?_), (grownBy_keeps hgr (fun r e => (hr r e).2) hk.2.1 rfl).trans hk.2.1, (grownBy_keeps hgr (fun r e => (hr r e).2) hk.2.2 rfl).trans hk.2.2⟩
    obtain ⟨h2, o, ho, hw⟩ := hr r e
    exact ⟨by omega, o, ho, Obj.not_cells_of_walk hw⟩
  have abidex : AbidesFrom W1.heap.size (fun (_ : Unit) W => Ix W ∧ W.heap[w.heap.size + 1]? = some (.loop (lp .done (some .ret))) ∧ W.heap[w.heap.size]? = some (.deferred (some []))) := by
    intro k A B row hk hgr hr
    refine ⟨hIx () A B row hk.1 hgr (fun r e => ?_), (grownBy_keeps hgr (fun r e => (hr r e).2) hk.2.1 rfl).trans hk.2.1, (grownBy_keeps hgr (fun r e => (hr r e).2) hk.2.2 rfl).trans hk.2.2⟩
    obtain ⟨h2, o, ho, hw⟩ := hr r e
    exact ⟨by omega, o, ho, Obj.not_cells_of_walk hw⟩
  refine ⟨w.heap.size + 1, [{ target := .collected w.heap.size, args := #[] }], W1, { target := .fn (.func gf) lb, args := #[.func (.yield (w.heap.size + 1)) #[] #[]] }, W1, gf,
    #[.func (.yield (w.heap.size + 1)) #[] #[]] ++ lb, W1, ?_, ?_, ?_, ?_, fun _ => h1, ?_⟩
  · rw [← hW1, hlp]; exact run_enterLoop_outer _ _ _ _ _
  · simp only [resolve, hg]
    simp [go_sem]
  · intro f' hf'; simp [Target.leads] at hf'; subst hf'; exact hFg
  · simp [invoke, go_sem, eg]
  · refine (hseq (w.heap.size + 1) _ _ W1 below1 abide abidex ?_ ⟨inv1, loop1, defer1⟩).mono ?_
    · rintro k hk W ⟨hi, hl, hd⟩
      have hy := run_yield (P := P) (args := xs[k]) hl (by rw [hlp]; exact hps k hk)
      rw [hlp] at hy
      refine ⟨fn, _, assign, body, hy, roundIn_of_wpIn hfn (hassign _ k hk W _ hi ?_)⟩
      intro a' Wa keepA kpA iA ax
      have hl2 := keepA.same _ _ (by omega) hl rfl
      have hd2 := keepA.same _ _ (Nat.le_refl _) hd rfl
      have hlt : w.heap.size + 1 < Wa.heap.size := (Array.getElem?_eq_some_iff.1 hl2).1
      refine ⟨_, run_beginRound hl2 (by rw [hlp]), ?_⟩
      have hl3 : (Wa.putObj (w.heap.size + 1) (.loop { lp .ready none with state := .busy })).heap[w.heap.size + 1]? = some (.loop { lp .ready none with state := .busy }) := World.putObj_heap_same hlt
      have hd3 : (Wa.putObj (w.heap.size + 1) (.loop { lp .ready none with state := .busy })).heap[w.heap.size]? = some (.deferred (some [])) := (World.putObj_heap_other (by omega)).trans hd2
      have kp3 : Kp Wa (Wa.putObj (w.heap.size + 1) (.loop { lp .ready none with state := .busy })) := hKb _ _ _ _ (by omega) hl2 rfl rfl
      refine wpIn_mono (hbody (w.heap.size + 1) k a' _ hk (by omega) (hI.putObj _ iA (by omega) hl2 rfl) ((hAx k a').putObj (s := ()) _ ax (by omega) hl2 rfl)) ?_
      rintro e a3 W3 hp
      cases e with
      | normal =>
        obtain ⟨keep3, kp4, i3⟩ := hp
        have hl4 := keep3.same _ _ (by omega) hl3 rfl
        have hr := run_endRound (P := P) none hl4
        rw [hlp] at hr
        refine ⟨_, _, hr, Or.inl ⟨rfl, ⟨hI.putObj _ i3 (by omega) hl4 rfl, ?_, ?_⟩, hKt kpA (hKt (hKt kp3 kp4) (hKb _ _ _ _ (by omega) hl4 rfl rfl))⟩⟩
        · rw [hlp]; exact World.putObj_heap_same (Array.getElem?_eq_some_iff.1 hl4).1
        · exact (World.putObj_heap_other (by omega)).trans (keep3.same _ _ (Nat.le_refl _) hd3 rfl)
      | ret =>
        obtain ⟨keep3, i3⟩ := hp
        have hl4 := keep3.same _ _ (by omega) hl3 rfl
        have hr := run_endRound (P := P) (some .ret) hl4
        rw [hlp] at hr
        refine ⟨_, _, hr, Or.inr ⟨rfl, hIx.putObj (s := ()) _ i3 (by omega) hl4 rfl, ?_, ?_⟩⟩
        · rw [hlp]; exact World.putObj_heap_same (Array.getElem?_eq_some_iff.1 hl4).1
        · exact (World.putObj_heap_other (by omega)).trans (keep3.same _ _ (Nat.le_refl _) hd3 rfl)
      | exit id => exact hp.elim
      | goto t => exact hp.elim
      | panic ch => exact hp.elim
      | outgrown => exact hp.elim
    · rintro e W2 ⟨⟨v, rfl⟩, ⟨hi, hl, hd⟩ | ⟨hi, hl, hd⟩⟩
      · have hr := run_endLoop (P := P) hl (by rw [hlp]; simp)
        rw [hlp] at hr
        exact ⟨none, _, hr, hdone _ _ (Nat.le_refl _) (hI.putObj _ hi (by omega) hl rfl) ((World.putObj_heap_other (by omega)).trans hd)⟩
      · have hr := run_endLoop (P := P) hl (by rw [hlp]; simp)
        rw [hlp] at hr
        exact ⟨some .ret, _, hr, hstop _ _ (Nat.le_refl _) (hIx.putObj (s := ()) _ hi (by omega) hl rfl) ((World.putObj_heap_other (by omega)).trans hd)⟩

end Go.Proofs.YthcppbmkacbbiaaGreat

namespace Go.Proofs.YthcppbmkacbbiaaGreat
open Go.RowKit Go.Maps Go.WideMaps

section
variable {α : Type} [BEq α]

/-- Of the first k places those whose key stands further left too, each behind the place where the key stands first. -/
def prs (keys : List α) : Nat → List (Nat × Nat)
  | 0 => []
  | k + 1 => match keys[k]? with
    | some x => if (keys.take k).contains x then prs keys k ++ [((keys.take k).idxOf x, k)] else prs keys k
    | none => prs keys k

theorem prs_step {keys : List α} {k : Nat} (hk : k < keys.length) : prs keys (k + 1) = if (keys.take k).contains keys[k] then prs keys k ++ [((keys.take k).idxOf keys[k], k)] else prs keys k := by
  rw [prs, List.getElem?_eq_getElem hk]

theorem prs_prefix {keys : List α} {k m : Nat} (h : k ≤ m) : prs keys k <+: prs keys m := by
  induction m with
  | zero => have : k = 0 := by omega
            subst this; exact List.prefix_refl _
  | succ m ih =>
    by_cases e : k = m + 1
    · subst e; exact List.prefix_refl _
    · have h1 := ih (by omega)
      refine h1.trans ?_
      rw [prs]
      split
      · split
        · exact List.prefix_append _ _
        · exact List.prefix_refl _
      · exact List.prefix_refl _

/-- The pair that comes at place k. -/
theorem prs_at {keys : List α} {k : Nat} (hk : k < keys.length) (hc : (keys.take k).contains keys[k] = true) :
    ∃ h : (prs keys k).length < (prs keys keys.length).length, (prs keys keys.length)[(prs keys k).length] = ((keys.take k).idxOf keys[k], k) := by
  have hp := prs_prefix (keys := keys) (k := k + 1) (m := keys.length) hk
  rw [prs_step hk, if_pos hc] at hp
  obtain ⟨r, hr⟩ := hp
  refine ⟨by rw [← hr]; simp, ?_⟩
  rw [List.getElem_of_eq hr.symm]
  simp

/-- Block b holds where each of the keys of l stands first. -/
def FMap (w : World) (k b : Nat) (kv : α → Value) (l : List α) : Prop :=
  ∃ (D : DataW Unit) (nn : Nat), nn ≤ l.length ∧ w.ownsMap Tryz.prog k (plainElem Tryz.prog 3) b nn D ∧
    ∀ x lt, keyOf Tryz.prog k (kv x) = some lt → Maps.has D lt = l.contains x ∧ (l.contains x = true → D.atKey lt (.lit (.int .i64 0)) = .lit (.int .i64 (l.idxOf x)))

theorem FMap.kept {w w' : World} {k b : Nat} {kv : α → Value} {l : List α} (h : FMap w k b kv l) (hb : w'.heap[b]? = w.heap[b]?) : FMap w' k b kv l := by
  obtain ⟨D, nn, h0, ⟨es, clock, h1, h2⟩, h3⟩ := h
  exact ⟨D, nn, h0, ⟨es, clock, hb.trans h1, h2⟩, h3⟩

theorem FMap.lt {w : World} {k b : Nat} {kv : α → Value} {l : List α} (h : FMap w k b kv l) : b < w.heap.size := by
  obtain ⟨D, nn, _, h1, _⟩ := h; exact h1.lt

theorem FMap.walk {w : World} {k b : Nat} {kv : α → Value} {l : List α} (h : FMap w k b kv l) : ∃ o : Obj, w.heap[b]? = some o ∧ o.isWalk = true := by
  obtain ⟨D, nn, _, ⟨es, clock, h1, _⟩, _⟩ := h
  exact ⟨_, h1, rfl⟩

theorem fmap_made (w : World) (k : Nat) (kv : α → Value) : FMap (w.alloc (.map #[] 0)) k w.heap.size kv ([] : List α) :=
  ⟨.map [], 0, Nat.le_refl _, World.ownsMap_made w _ _ _, fun x l _ => ⟨rfl, fun h => by simp at h⟩⟩

/-- A key that stands further left already. -/
theorem FMap.again [LawfulBEq α] {w : World} {k b : Nat} {kv : α → Value} {l : List α} (h : FMap w k b kv l) {x : α} (hx : l.contains x = true) : FMap w k b kv (l ++ [x]) := by
  obtain ⟨D, nn, h0, h1, h2⟩ := h
  have hx' : x ∈ l := by simpa using hx
  refine ⟨D, nn, by simp; omega, h1, fun y lt hy => ?_⟩
  have h3 := h2 y lt hy
  by_cases e : y ∈ l
  · have e1 : (l ++ [x]).contains y = true := by simp [e]
    have e2 : l.contains y = true := by simpa using e
    rw [e1]
    refine ⟨by rw [h3.1]; exact e2, fun _ => ?_⟩
    rw [h3.2 e2]
    simp [List.idxOf_append, e]
  · have hne : y ≠ x := fun e' => e (by rw [e']; exact hx')
    have e1 : (l ++ [x]).contains y = false := by simp [e, hne]
    have e2 : l.contains y = false := by simpa using e
    rw [e1]
    exact ⟨by rw [h3.1]; exact e2, fun h => by cases h⟩

theorem fmap_put [LawfulBEq α] {w' : World} {k b nn : Nat} {kv : α → Value} {l : List α} {D : DataW Unit} (hinj : ∀ a b : α, kv a = kv b → a = b) (K : Keyed Tryz.prog k) (h0 : nn ≤ l.length)
    (h2 : ∀ x lt, keyOf Tryz.prog k (kv x) = some lt → Maps.has D lt = l.contains x ∧ (l.contains x = true → D.atKey lt (.lit (.int .i64 0)) = .lit (.int .i64 (l.idxOf x))))
    (h4 : Tidy D) {x : α} {lx : Lit} (hl : keyOf Tryz.prog k (kv x) = some lx) (hx : l.contains x = false)
    (h5 : w'.ownsMap Tryz.prog k (plainElem Tryz.prog 3) b (nn + 1) (D.put lx (.lit (.int .i64 l.length)))) : FMap w' k b kv (l ++ [x]) := by
  have hx' : ¬ x ∈ l := by simpa using hx
  refine ⟨_, nn + 1, by simp; omega, h5, fun y m hm => ?_⟩
  by_cases e : m = lx
  · subst e
    have : y = x := hinj _ _ (K.inj hm hl)
    subst this
    refine ⟨by rw [has_put_same h4.isMap (K.key hl)]; simp, fun _ => ?_⟩
    rw [atKey_put_same h4.isMap (K.key hl)]
    simp [List.idxOf_append, hx']
  · have hne : y ≠ x := fun e' => e (by subst e'; rw [hm] at hl; exact Option.some.inj hl)
    rw [has_put_other e, atKey_put_other e, (h2 y m hm).1]
    refine ⟨by simp [hne], fun hy => ?_⟩
    have hy' : y ∈ l := by simpa [hne] using hy
    rw [(h2 y m hm).2 (by simpa using hy')]
    simp [List.idxOf_append, hy']
end

/-- What a round must keep: cells, maps and walks from m0 on, and the blocks X and G. -/
def KA (m0 X G : Nat) (W W' : World) : Prop := (∀ (k : Nat) (o : Obj), m0 ≤ k → W.heap[k]? = some o → (o.isCells = true ∨ o.isWalk = true) → W'.heap[k]? = some o) ∧ W'.heap[X]? = W.heap[X]? ∧ W'.heap[G]? = W.heap[G]?

theorem KA.trans {m0 X G : Nat} {A B C : World} (h : KA m0 X G A B) (g : KA m0 X G B C) : KA m0 X G A C := ⟨fun k o hk ho hc => g.1 k o hk (h.1 k o hk ho hc) hc, g.2.1.trans h.2.1, g.2.2.trans h.2.2⟩

end Go.Proofs.YthcppbmkacbbiaaGreat

namespace Go.Proofs.YthcppbmkacbbiaaGreat
open Go.RowKit Go.Maps Go.WideMaps
open Rdg (Key put)

theorem run_makeMap_hint {P : Program} {t k e : TypeId} (hu : P.underlying t = some (.map k e)) (q : IntKind) (z : Int) (w : World) : (Instr.makeMap t (some (.int q z))).run P w = .ok (.map (some w.heap.size)) (w.alloc (.map #[] 0)) := by
  simp [Instr.makeMap, run_underlying hu, asInt]
  rfl

def kvI (x : Nat) : Value := .int .i64 x
def kvB (x : UInt8) : Value := .int .u8 x.toNat
theorem kvI_inj {a b : Nat} (h : kvI a = kvI b) : a = b := by simp [kvI] at h; omega
theorem kvB_inj {a b : UInt8} (h : kvB a = kvB b) : a = b := by
  simp [kvB] at h
  exact UInt8.toNat_inj.1 (by omega)
theorem lawB : Keyed Tryz.prog 5 := int_keyed Tryz.underlying5
theorem keyB (x : UInt8) : keyOf Tryz.prog 5 (kvB x) = some (.int .u8 x.toNat) := by
  have hw : (Lit.int .u8 x.toNat).wf = true := WalkArith.wf_u8 (by have := UInt8.toNat_lt x; omega)
  simp [keyOf, mapKey, kvB, Tryz.underlying5, hw]

/-- Rows of keys. -/
def RowsT (w : World) (G : Nat) (ts : List Key) : Prop := G < w.heap.size ∧ ∀ i (hi : i < ts.length), w.cell? ⟨G, i * 3, none⟩ = some (.int .u8 ts[i].1) ∧ w.cell? ⟨G, i * 3 + 1, none⟩ = some (.int .i64 ts[i].2.1) ∧ w.cell? ⟨G, i * 3 + 2, none⟩ = some (.int .i64 ts[i].2.2)
def RowsC (w : World) (G : Nat) (cs : List (Int × Nat)) : Prop := G < w.heap.size ∧ ∀ i (hi : i < cs.length), w.cell? ⟨G, i * 2, none⟩ = some (.int .u8 cs[i].1) ∧ w.cell? ⟨G, i * 2 + 1, none⟩ = some (.int .i64 cs[i].2)
def RowsI (w : World) (G : Nat) (ks : List Nat) : Prop := G < w.heap.size ∧ ∀ i (hi : i < ks.length), w.cell? ⟨G, i, none⟩ = some (.int .i64 ks[i])
def RowsB (w : World) (G : Nat) (ks : List UInt8) : Prop := G < w.heap.size ∧ ∀ i (hi : i < ks.length), w.cell? ⟨G, i, none⟩ = some (.int .u8 ks[i].toNat)

theorem RowsT.below {w w' : World} {b G : Nat} {ts : List Key} (h : RowsT w G ts) (hb : Below b w w') (hlt : G < b) : RowsT w' G ts :=
  ⟨Nat.lt_of_lt_of_le h.1 hb.size, fun i hi => ⟨(hb.cell (p := ⟨G, _, none⟩) hlt).trans (h.2 i hi).1, (hb.cell (p := ⟨G, _, none⟩) hlt).trans (h.2 i hi).2.1, (hb.cell (p := ⟨G, _, none⟩) hlt).trans (h.2 i hi).2.2⟩⟩
theorem RowsC.below {w w' : World} {b G : Nat} {cs : List (Int × Nat)} (h : RowsC w G cs) (hb : Below b w w') (hlt : G < b) : RowsC w' G cs :=
  ⟨Nat.lt_of_lt_of_le h.1 hb.size, fun i hi => ⟨(hb.cell (p := ⟨G, _, none⟩) hlt).trans (h.2 i hi).1, (hb.cell (p := ⟨G, _, none⟩) hlt).trans (h.2 i hi).2⟩⟩
theorem RowsI.below {w w' : World} {b G : Nat} {ks : List Nat} (h : RowsI w G ks) (hb : Below b w w') (hlt : G < b) : RowsI w' G ks :=
  ⟨Nat.lt_of_lt_of_le h.1 hb.size, fun i hi => (hb.cell (p := ⟨G, _, none⟩) hlt).trans (h.2 i hi)⟩
theorem RowsB.below {w w' : World} {b G : Nat} {ks : List UInt8} (h : RowsB w G ks) (hb : Below b w w') (hlt : G < b) : RowsB w' G ks :=
  ⟨Nat.lt_of_lt_of_le h.1 hb.size, fun i hi => (hb.cell (p := ⟨G, _, none⟩) hlt).trans (h.2 i hi)⟩
theorem RowsT.same {w w' : World} {G : Nat} {ts : List Key} (h : RowsT w G ts) (hb : w'.heap[G]? = w.heap[G]?) : RowsT w' G ts :=
  ⟨by have h1 := h.1; rw [Array.getElem?_eq_getElem h1] at hb; exact (Array.getElem?_eq_some_iff.1 hb).1, fun i hi => ⟨(World.cell?_of_block hb).trans (h.2 i hi).1, (World.cell?_of_block hb).trans (h.2 i hi).2.1, (World.cell?_of_block hb).trans (h.2 i hi).2.2⟩⟩
theorem RowsC.same {w w' : World} {G : Nat} {cs : List (Int × Nat)} (h : RowsC w G cs) (hb : w'.heap[G]? = w.heap[G]?) : RowsC w' G cs :=
  ⟨by have h1 := h.1; rw [Array.getElem?_eq_getElem h1] at hb; exact (Array.getElem?_eq_some_iff.1 hb).1, fun i hi => ⟨(World.cell?_of_block hb).trans (h.2 i hi).1, (World.cell?_of_block hb).trans (h.2 i hi).2⟩⟩
theorem RowsI.same {w w' : World} {G : Nat} {ks : List Nat} (h : RowsI w G ks) (hb : w'.heap[G]? = w.heap[G]?) : RowsI w' G ks :=
  ⟨by have h1 := h.1; rw [Array.getElem?_eq_getElem h1] at hb; exact (Array.getElem?_eq_some_iff.1 hb).1, fun i hi => (World.cell?_of_block hb).trans (h.2 i hi)⟩
theorem RowsB.same {w w' : World} {G : Nat} {ks : List UInt8} (h : RowsB w G ks) (hb : w'.heap[G]? = w.heap[G]?) : RowsB w' G ks :=
  ⟨by have h1 := h.1; rw [Array.getElem?_eq_getElem h1] at hb; exact (Array.getElem?_eq_some_iff.1 hb).1, fun i hi => (World.cell?_of_block hb).trans (h.2 i hi)⟩

end Go.Proofs.YthcppbmkacbbiaaGreat

namespace Go.Proofs.YthcppbmkacbbiaaGreat

/-- Operations that defer nothing go in a round as everywhere (a fence that fences nothing). -/
theorem ops_round {P : Program} {ops : Array Oper} {Q : Exit → Act → World → Prop} {r n : Nat} (hd : ∀ (i : Nat) (o : Oper), ops[i]? = some o → ∀ c, o.op ≠ .defer c) (hQ : ¬ LetsOut Q) :
    ∀ (l : List Nat) (a : Act) (w : World), wpOps P ops Q l a w → wpOpsIn (Fence.wide.inRound r) n P ops Q l a w := by
  intro l
  induction l with
  | nil => intro a w h; exact h
  | cons i rest ih =>
    intro a w h
    simp only [wpOps] at h
    simp only [wpOpsIn]
    cases ho : ops[i]? with
    | none => simp only [ho] at h ⊢; exact ih _ _ h
    | some o =>
      simp only [ho] at h ⊢
      by_cases hw : Region.wanted o (yielded ops a.tmps) = true
      · simp only [hw, if_true] at h ⊢
        have h := h.resolve_right (fun hx => hQ hx.2)
        unfold Oper.wp at h
        unfold Oper.wpIn
        refine ⟨fun _ _ => trivial, ?_⟩
        rw [Oper.semAt_eq _ _ _ (hd i o ho)]
        generalize (execOp a.eval o).run P w = z at *
        cases z with
        | ok x w' =>
          cases x <;> simp only [Oper.upon, Oper.uponIn] at h ⊢
          case value u => exact ih _ _ h
          case skip => exact ih _ _ h
          case defer d => exact ih _ _ h
          case enter f args =>
            refine ⟨fun hx => (by cases hx), CallsIn.inRound r (callsIn_wide.2 (Calls.mono h fun e w'' he => ?_))⟩
            cases e with
            | returned u => exact ih _ _ he
            | panicked c => exact he
            | outgrown => exact he
          case row row args =>
            refine ⟨fun hx => (by cases hx), fun c cs _ => ?_⟩
            obtain ⟨v, w2, hv, hs⟩ := h c cs
            exact ⟨v, w2, ih _ _ hv, stepsIn_wide.2 hs⟩
        | halt x w' => cases x <;> simp only [Oper.upon, Oper.uponIn] at h ⊢ <;> exact h
      · simp only [hw] at h ⊢
        exact ⟨fun _ _ => trivial, ih _ _ h⟩

section
variable {P : Program} {ops : Array Oper} {Q : Exit → Act → World → Prop} {md : Region.Mode} {S : World → Prop} {z : Nat}

/-- Whatever order is picked: S holds behind every operation but the one numbered z, for which the others do not wait. -/
def wpAnyL (P : Program) (md : Region.Mode) (ops : Array Oper) (Q : Exit → Act → World → Prop) (S : World → Prop) (z : Nat) : Nat → Array Bool → Act → World → Prop
  | 0, listed, a, w => Region.ready md ops listed = [] ∧ Q .normal a w
  | fuel + 1, listed, a, w =>
    (Region.ready md ops listed = [] → Q .normal a w) ∧
    ∀ i ∈ Region.ready md ops listed, wpOp P ops Q i (fun a' w' => (i ≠ z → S w') ∧ wpAnyL P md ops Q S z fuel (listed.setIfInBounds i true) a' w') a w

theorem wpAny_of_last : ∀ (fuel : Nat) (listed : Array Bool) (a : Act) (w : World), wpAnyL P md ops Q S z fuel listed a w → wpAny P md ops Q fuel listed a w
  | 0, _, _, _, h => h
  | fuel + 1, _, _, _, h => ⟨h.1, fun i hi => wpOp_mono (fun a' w' h' => wpAny_of_last fuel _ a' w' h'.2) (h.2 i hi)⟩

/-- Does number z wait for number i? -/
def waits (md : Region.Mode) (ops : Array Oper) (z i : Nat) : Bool := match ops[z]? with | some o => o.after.any fun e => Region.binds md e && (e.on == i) | none => false

theorem wpAnyL_first {i : Nat} {oi : Oper} {v : Value} (hi : ops[i]? = some oi) (hz : waits md ops z i = true) (hsel : ∀ (j : Nat) (o : Oper) cs b, ops[j]? = some o → o.op ≠ .select cs b)
    (hQ : ∀ c a w, Q (.panic c) (a.put oi.dst v) w → Q (.panic c) a w) :
    ∀ (fuel : Nat) (listed : Array Bool) (a : Act) (w : World),
      (∀ j oj, ops[j]? = some oj → j ≠ i → listed.getD j true = false → (∀ e ∈ oj.after, Region.binds md e = true → e.on ≠ i) → oi.apart ops oj = true) →
      i ∈ Region.ready md ops listed → YieldsIf P ops S oi v a → S w →
      wpAnyL P md ops Q S z fuel (listed.setIfInBounds i true) (a.put oi.dst v) w → wpAnyL P md ops Q S z (fuel + 1) listed a w := by
  intro fuel
  induction fuel with
  | zero =>
    intro listed a w _ hr hy hS H
    refine ⟨fun h => (by rw [h] at hr; cases hr), fun j hj => ?_⟩
    by_cases hji : j = i
    · subst hji; exact hy.wpOp hi hS ⟨fun _ => hS, H⟩
    · have := ready_mono hj hji
      rw [H.1] at this
      cases this
  | succ fuel ih =>
    intro listed a w hfree hr hy hS H
    refine ⟨fun h => (by rw [h] at hr; cases hr), fun j hj => ?_⟩
    by_cases hji : j = i
    · subst hji; exact hy.wpOp hi hS ⟨fun _ => hS, H⟩
    · obtain ⟨hjun, oj, hoj, hall⟩ := mem_ready.1 hj
      have hnot : ∀ e ∈ oj.after, Region.binds md e = true → e.on ≠ i := fun e he hb heq => by
        have h1 := hall e he hb
        have h0 := (mem_ready.1 hr).1
        rw [heq] at h1
        rcases Nat.lt_or_ge i listed.size with h' | h'
        · simp [h'] at h0 h1; rw [h0] at h1; cases h1
        · simp [Array.getElem?_eq_none h'] at h1
      have hjz : j ≠ z := fun e => by
        subst e
        unfold waits at hz
        rw [hoj] at hz
        simp only [Array.any_eq_true', Bool.and_eq_true, beq_iff_eq] at hz
        obtain ⟨e, he, hb, hon⟩ := hz
        exact hnot e he hb hon
      have h2 := wpOp_putIf hoj (hfree j oj hoj hji hjun hnot) (fun cs b => hsel i oi cs b hi) (fun cs b => hsel j oj cs b hoj) hQ hy (H.2 j (ready_mono hj hji))
      have hfree' : ∀ k ok, ops[k]? = some ok → k ≠ i → (listed.setIfInBounds j true).getD k true = false →
          (∀ e ∈ ok.after, Region.binds md e = true → e.on ≠ i) → oi.apart ops ok = true := fun k ok hk hki hun hno => by
        refine hfree k ok hk hki ?_ hno
        by_cases hjk : j = k
        · subst hjk; exact hjun
        · rw [getD_set_ne true hjk] at hun; exact hun
      refine wpOp_mono (fun a' w' h3 => ⟨h3.2.1, ih (listed.setIfInBounds j true) a' w' hfree' (ready_mono hr (Ne.symm hji)) h3.1 (h3.2.1 hjz) ?_⟩) h2
      rw [Array.setIfInBounds_comm _ _ hji]
      exact h3.2.2

theorem wpAnyL_take {i : Nat} {oi : Oper} {v : Value} {fuel : Nat} {listed : Array Bool} {a : Act} {w : World} (hi : ops[i]? = some oi) (hz : waits md ops z i = true)
    (hs : Region.noSelect ops = true) (hf : Region.free md ops listed i = true) (hr : (Region.ready md ops listed).contains i = true)
    (hQ : ∀ c a w, Q (.panic c) (a.put oi.dst v) w → Q (.panic c) a w) (hw : Region.wanted oi (yielded ops a.tmps) = true) (hy : ∀ w, S w → (execOp a.eval oi).run P w = .ok (.value v) w) (hS : S w)
    (h : wpAnyL P md ops Q S z fuel (listed.setIfInBounds i true) (a.put oi.dst v) w) : wpAnyL P md ops Q S z (fuel + 1) listed a w :=
  wpAnyL_first hi hz (Region.noSelect_spec hs) hQ fuel listed a w (Region.free_spec hi hf) (by simpa using hr) (Or.inl ⟨hw, hy⟩) hS h

/-- One operation alone may come up. -/
theorem wpAnyL_one {i : Nat} {o : Oper} {fuel : Nat} {listed : Array Bool} {a : Act} {w : World} (hr : Region.ready md ops listed = [i]) (ho : ops[i]? = some o) (hw : Region.wanted o (yielded ops a.tmps) = true)
    (h : ∀ K' : Act → World → Prop, Shut (∀ a w, (i ≠ z → S w) → wpAnyL P md ops Q S z fuel (listed.setIfInBounds i true) a w → K' a w) → Oper.wp P o a w K' Q) :
    wpAnyL P md ops Q S z (fuel + 1) listed a w := by
  refine ⟨fun h0 => (by rw [hr] at h0; cases h0), fun j hj => ?_⟩
  rw [hr] at hj
  obtain rfl : j = i := by simpa using hj
  refine wpOp_step ho (fun K' hK => ?_)
  rw [if_pos hw]
  exact h K' (fun a w hS hW => hK a w ⟨hS, hW⟩)

theorem wpAnyL_done {listed : Array Bool} {a : Act} {w : World} (hr : Region.ready md ops listed = []) (h : Q .normal a w) : ∀ fuel, wpAnyL P md ops Q S z fuel listed a w
  | 0 => ⟨hr, h⟩
  | _ + 1 => ⟨fun _ => h, by rw [hr]; simp⟩

/-- append where there is room, as one step of a region. -/
theorem step_fits {o : Oper} {a : Act} {w : World} {K : Act → World → Prop} (s x : Operand) (t : TypeId) (hop : o.op = Op.call { callee := Callee.builtin Builtin.append, args := #[s, x], argTypes := #[t, t] })
    (base : Nat) (e : TypeId) (i : TypeInfo) (size : Nat) (h1 : P.underlying t = some (.slice e)) (h2 : P.info? e = some i) (h4 : i.size = size)
    (g k cap : Nat) (xs : List Value) (hs : a.eval s = .slice (some ⟨g, 0, none⟩) k cap) (hown : w.ownsRow base e size (.slice (some ⟨g, 0, none⟩) k cap) k xs) (ad : Addr) (m c : Nat) (news : List Value) (hx : a.eval x = .slice (some ad) m c) (hn : news.length = m * size)
    (hc : ∀ j u, news[j]? = some u → w.cell? (ad.add j) = some u) (h1c : ∀ u ∈ news, u.oneCell' = true) (b1 : k + m ≤ cap)
    (hK : ∀ w', w'.ownsRow base e size (.slice (some ⟨g, 0, none⟩) (k + m) cap) (k + m) (xs ++ news) → w.grownBy w' (some g) → K (a.put o.dst (.slice (some ⟨g, 0, none⟩) (k + m) cap)) w') : Oper.wp P o a w K Q := by
  obtain ⟨w', hrun, r1, r2⟩ := run_append_fits (P := P) w base t o.type e i size h1 h2 h4 g k cap xs hown ad m c news hn hc h1c b1
  unfold Oper.wp
  simp [execOp, hop, resolve, invoke, builtin, hs, hx, hrun, Result.andThen]
  exact hK w' r1 r2

/-- A region that draws its order, in a round: as outside of one. -/
theorem region_last {r n id : Nat} {a : Act} {w : World} (S : World → Prop) (z fuel : Nat) (listed : Array Bool) (hm : P.follows .mixedOrders = true) (hf : ops.size = fuel) (hl : Array.replicate ops.size false = listed)
    (hd : (ops.all fun o => match o.op with | .defer _ => false | _ => true) = true) (hQ : ¬ LetsOut Q) (h : wpAnyL P .any ops Q S z fuel listed a w.drew) : (Code.region id ops true).wpIn (Fence.wide.inRound r) n P Q a w :=
  wpIn_region_draw fun t => by
    simp only [Region.schedule, hm, Bool.true_or, if_true]
    subst hf
    subst hl
    refine ops_round (fun i o ho c hc => ?_) hQ _ _ _ (wpAny_sound ops.size t _ a _ (wpAny_of_last _ _ _ _ h))
    obtain ⟨hlt, he⟩ := Array.getElem?_eq_some_iff.1 ho
    have := (Array.all_eq_true.1 hd) i hlt
    rw [he, hc] at this
    cases this

end

end Go.Proofs.YthcppbmkacbbiaaGreat
