import Derived.Test.YthfjhjghohincaaChecked
import Derived.Test.YthfjhjghohincaaRdg
import Derived.WalkKit
import Derived.WalkSpells
import Derived.WalkLawsBesides
import Derived.Maps.OwnSet
import Derived.DeepKeys4
import Derived.ProofKit
namespace Go.Proofs.Ythfjhjghohincaa
open Go.RowKit Go.Maps Go.WideMaps
open Rdg (Key put)

theorem hide {p : Prop} (h : p) : Hid p := h
theorem unhide {p : Prop} (h : Hid p) : p := h

theorem laidOut : laidOutB Try.prog = true := by kernel_rfl
theorem rowT : (97 : TypeId) < Try.prog.types.size := of_decide_eq_true (by kernel_rfl)
theorem rowC : (80 : TypeId) < Try.prog.types.size := of_decide_eq_true (by kernel_rfl)
theorem wideT : (match Try.prog.underlying 97 with | some (.array _ _) | some (.struct _) => true | _ => false) = true := by kernel_rfl
theorem wideC : (match Try.prog.underlying 80 with | some (.array _ _) | some (.struct _) => true | _ => false) = true := by kernel_rfl
set_option maxRecDepth 100000 in
theorem lawT : Keyed Try.prog 97 := Keyed.of_law (deep_law_laid laidOut (m := 2) (by omega) rowT (by kernel_rfl) wideT)
set_option maxRecDepth 100000 in
theorem lawC : Keyed Try.prog 80 := Keyed.of_law (deep_law_laid laidOut (m := 2) (by omega) rowC (by kernel_rfl) wideC)
theorem zeroE (w : World) : (zeroValue 3).run Try.prog w = .ok (.int .i64 0) w := by kernel_rfl

/-- A key as the map holds it. -/
def kvT (k : Key) : Value := .agg #[.int .u8 k.1, .int .i64 k.2.1, .int .i64 k.2.2]
def kvC (k : Int × Nat) : Value := .agg #[.int .u8 k.1, .int .i64 k.2]

theorem kvT_inj {a b : Key} (h : kvT a = kvT b) : a = b := by
  obtain ⟨a1, a2, a3⟩ := a
  obtain ⟨b1, b2, b3⟩ := b
  simp [kvT] at h
  obtain ⟨h1, h2, h3⟩ := h
  simp; omega
theorem kvC_inj {a b : Int × Nat} (h : kvC a = kvC b) : a = b := by
  obtain ⟨a1, a2⟩ := a
  obtain ⟨b1, b2⟩ := b
  simp [kvC] at h
  obtain ⟨h1, h2⟩ := h
  simp; omega

theorem cellsT : Try.prog.cellsOf 97 = 3 := by kernel_rfl
theorem cellsC : Try.prog.cellsOf 80 = 2 := by kernel_rfl
theorem cellsI : Try.prog.cellsOf 3 = 1 := by kernel_rfl
theorem cellsU : Try.prog.cellsOf 5 = 1 := by kernel_rfl
theorem litsU (n : Nat) (a : Int) (w1 : (Lit.int .u8 a).wf = true) : Try.prog.keyLits (n + 1) 5 [.int .u8 a] = some [.int .u8 a] := by
  simp only [Program.keyLits, Try.underlying5, w1, and_self, if_true]
theorem litsI (n : Nat) (a : Int) (w1 : (Lit.int .i64 a).wf = true) : Try.prog.keyLits (n + 1) 3 [.int .i64 a] = some [.int .i64 a] := by
  simp only [Program.keyLits, Try.underlying3, w1, and_self, if_true]
theorem litsT (n : Nat) (a b c : Int) (w1 : (Lit.int .u8 a).wf = true) (w2 : (Lit.int .i64 b).wf = true) (w3 : (Lit.int .i64 c).wf = true) :
    Try.prog.keyLits (n + 2) 97 [.int .u8 a, .int .i64 b, .int .i64 c] = some [.int .u8 a, .int .i64 b, .int .i64 c] := by
  unfold Program.keyLits
  simp only [Try.underlying97, cellsT]
  rw [if_pos ⟨rfl, by kernel_rfl⟩]
  simp only [List.mapM_cons, List.mapM_nil, cellsI, cellsU, List.drop, List.take, litsU _ a w1, litsI _ b w2, litsI _ c w3]
  rfl
theorem litsC (n : Nat) (a b : Int) (w1 : (Lit.int .u8 a).wf = true) (w2 : (Lit.int .i64 b).wf = true) :
    Try.prog.keyLits (n + 2) 80 [.int .u8 a, .int .i64 b] = some [.int .u8 a, .int .i64 b] := by
  unfold Program.keyLits
  simp only [Try.underlying80, cellsC]
  rw [if_pos ⟨rfl, by kernel_rfl⟩]
  simp only [List.mapM_cons, List.mapM_nil, cellsI, cellsU, List.drop, List.take, litsU _ a w1, litsI _ b w2]
  rfl
theorem ktT : Try.prog.keyType 97 = true := by kernel_rfl
theorem ktC : Try.prog.keyType 80 = true := by kernel_rfl
theorem two_of (x : Nat) (h : 0 < x) : ∃ n, x + 1 = n + 2 := ⟨x - 1, by omega⟩
theorem typesN : ∃ n, Try.prog.types.size + 1 = n + 2 := two_of _ (Nat.lt_of_le_of_lt (Nat.zero_le _) rowT)

theorem keyOf_struct {P : Program} {k : TypeId} {fs : Array Field} {v : Value} {ls : List Lit} (hu : P.underlying k = some (.struct fs)) (hk : P.keyType k = true) (hf : v.formed P k = true)
    (hl : P.keyLits (P.types.size + 1) k v.cells.toList = some ls) : keyOf P k v = some (.string (keyBytes ls)) := by
  simp [keyOf, hu, hk, hf, hl]

theorem keyT (k : Key) (h1 : 0 ≤ k.1 ∧ k.1 ≤ 255) (h2 : k.2.1 ≤ 1000) (h3 : k.2.2 ≤ 1000) : ∃ l, keyOf Try.prog 97 (kvT k) = some l := by
  have w1 : (Lit.int .u8 k.1).wf = true := WalkArith.wf_u8 (by omega)
  have w2 : (Lit.int .i64 k.2.1).wf = true := WalkArith.wf_i64 (by omega)
  have w3 : (Lit.int .i64 k.2.2).wf = true := WalkArith.wf_i64 (by omega)
  obtain ⟨n, hn⟩ := typesN
  have hf : (kvT k).formed Try.prog 97 = true := by simp only [kvT, Value.formed, Try.underlying97, cellsT]; rfl
  exact ⟨_, keyOf_struct Try.underlying97 ktT hf (by rw [hn]; exact litsT n _ _ _ w1 w2 w3)⟩

theorem keyC (k : Int × Nat) (h1 : 0 ≤ k.1 ∧ k.1 ≤ 255) (h2 : k.2 ≤ 1000) : ∃ l, keyOf Try.prog 80 (kvC k) = some l := by
  have w1 : (Lit.int .u8 k.1).wf = true := WalkArith.wf_u8 (by omega)
  have w2 : (Lit.int .i64 k.2).wf = true := WalkArith.wf_i64 (by omega)
  obtain ⟨n, hn⟩ := typesN
  have hf : (kvC k).formed Try.prog 80 = true := by simp only [kvC, Value.formed, Try.underlying80, cellsC]; rfl
  exact ⟨_, keyOf_struct Try.underlying80 ktC hf (by rw [hn]; exact litsC n _ _ w1 w2)⟩

/-- Block b is a numbering: the keys of ts, each under its place in ts. -/
def MapIs {α : Type} [BEq α] (w : World) (k b : Nat) (kv : α → Value) (ts : List α) : Prop :=
  ∃ D : DataW Unit, w.ownsMap Try.prog k (plainElem Try.prog 3) b ts.length D ∧ Maps.size D = ts.length ∧
    (∀ x l, keyOf Try.prog k (kv x) = some l → Maps.has D l = ts.contains x ∧ (ts.contains x = true → D.atKey l (.lit (.int .i64 0)) = .lit (.int .i64 (ts.idxOf x)))) ∧
    ∀ l, Maps.has D l = true → ∃ x, ts.contains x = true ∧ keyOf Try.prog k (kv x) = some l

section
variable {α : Type} [BEq α] {w w' : World} {k b : Nat} {kv : α → Value} {ts : List α}

theorem MapIs.lt (h : MapIs w k b kv ts) : b < w.heap.size := by
  obtain ⟨D, h1, _⟩ := h; exact h1.lt

theorem MapIs.kept (h : MapIs w k b kv ts) (hb : w'.heap[b]? = w.heap[b]?) : MapIs w' k b kv ts := by
  obtain ⟨D, ⟨es, clock, h1, h2⟩, h3⟩ := h
  exact ⟨D, ⟨es, clock, hb.trans h1, h2⟩, h3⟩

theorem mapIs_made (w : World) (k : Nat) (kv : α → Value) : MapIs (w.alloc (.map #[] 0)) k w.heap.size kv ([] : List α) :=
  ⟨.map [], World.ownsMap_made w _ _ _, rfl, fun x l _ => ⟨rfl, fun h => by simp at h⟩, fun l h => by cases h⟩

/-- A key that was not there goes to the end. -/
theorem mapIs_put [LawfulBEq α] {D : DataW Unit} (hinj : ∀ a b : α, kv a = kv b → a = b) (K : Keyed Try.prog k)
    (h2 : Maps.size D = ts.length) (h3 : ∀ x l, keyOf Try.prog k (kv x) = some l → Maps.has D l = ts.contains x ∧ (ts.contains x = true → D.atKey l (.lit (.int .i64 0)) = .lit (.int .i64 (ts.idxOf x))))
    (h3' : ∀ l, Maps.has D l = true → ∃ x, ts.contains x = true ∧ keyOf Try.prog k (kv x) = some l) (h4 : Tidy D) {x : α} {l : Lit} (hl : keyOf Try.prog k (kv x) = some l) (hx : ts.contains x = false)
    (h5 : w'.ownsMap Try.prog k (plainElem Try.prog 3) b (ts.length + 1) (D.put l (.lit (.int .i64 ts.length)))) :
    MapIs w' k b kv (ts ++ [x]) := by
  have hx' : ¬ x ∈ ts := by simpa using hx
  refine ⟨_, by simpa using h5, ?_, ?_, ?_⟩
  · rw [size_put h4, (h3 x l hl).1, hx]; simp [h2]
  · intro y m hm
    by_cases e : m = l
    · subst e
      have : y = x := hinj _ _ (K.inj hm hl)
      subst this
      refine ⟨by rw [has_put_same h4.isMap (K.key hl)]; simp, fun _ => ?_⟩
      rw [atKey_put_same h4.isMap (K.key hl)]
      simp [List.idxOf_append, hx']
    · have hne : y ≠ x := fun e' => e (by subst e'; rw [hm] at hl; exact Option.some.inj hl)
      rw [has_put_other e, atKey_put_other e, (h3 y m hm).1]
      refine ⟨by simp [hne], fun hy => ?_⟩
      have hy' : y ∈ ts := by simpa [hne] using hy
      rw [(h3 y m hm).2 (by simpa using hy')]
      simp [List.idxOf_append, hy']
  · intro m hm
    by_cases e : m = l
    · subst e; exact ⟨x, by simp, hl⟩
    · rw [has_put_other e] at hm
      obtain ⟨y, hy, hk⟩ := h3' m hm
      exact ⟨y, by simp at hy ⊢; exact Or.inl hy, hk⟩
end

end Go.Proofs.Ythfjhjghohincaa
