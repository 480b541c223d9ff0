import Derived.Test.YthcppbmkacbbiaaGreatChecked
import Derived.Test.YthcppbmkacbbiaaGreatRdgM
import Derived.WalkKit
import Derived.WalkSpells
import Derived.WalkLawsBesides
import Derived.Maps.OwnSet
import Derived.DeepKeys4
import Derived.ProofKit
namespace Go.Proofs.YthcppbmkacbbiaaGreat
open Go.RowKit Go.Maps Go.WideMaps
open Rdg (Key put)

theorem hide {p : Prop} (h : p) : Hid p := h
theorem unhide {p : Prop} (h : Hid p) : p := h

theorem laidOut : laidOutB Tryz.prog = true := by kernel_rfl
theorem rowT : (87 : TypeId) < Tryz.prog.types.size := of_decide_eq_true (by kernel_rfl)
theorem rowP : (93 : TypeId) < Tryz.prog.types.size := of_decide_eq_true (by kernel_rfl)
theorem rowC : (90 : TypeId) < Tryz.prog.types.size := of_decide_eq_true (by kernel_rfl)
theorem wideT : (match Tryz.prog.underlying 87 with | some (.array _ _) | some (.struct _) => true | _ => false) = true := by kernel_rfl
theorem wideP : (match Tryz.prog.underlying 93 with | some (.array _ _) | some (.struct _) => true | _ => false) = true := by kernel_rfl
theorem wideC : (match Tryz.prog.underlying 90 with | some (.array _ _) | some (.struct _) => true | _ => false) = true := by kernel_rfl
set_option maxRecDepth 100000 in
theorem lawT : Keyed Tryz.prog 87 := Keyed.of_law (deep_law_laid laidOut (m := 2) (by omega) rowT (by kernel_rfl) wideT)
set_option maxRecDepth 100000 in
theorem lawP : Keyed Tryz.prog 93 := Keyed.of_law (deep_law_laid laidOut (m := 2) (by omega) rowP (by kernel_rfl) wideP)
set_option maxRecDepth 100000 in
theorem lawC : Keyed Tryz.prog 90 := Keyed.of_law (deep_law_laid laidOut (m := 2) (by omega) rowC (by kernel_rfl) wideC)
theorem zeroE (w : World) : (zeroValue 3).run Tryz.prog w = .ok (.int .i64 0) w := by kernel_rfl

/-- A key as the map holds it. -/
def kvT (k : Key) : Value := .agg #[.int .u8 k.1, .int .i64 k.2.1, .int .i64 k.2.2]
def kvC (k : Int × Nat) : Value := .agg #[.int .u8 k.1, .int .i64 k.2]

theorem kvT_inj {a b : Key} (h : kvT a = kvT b) : a = b := by
  obtain ⟨a1, a2, a3⟩ := a
  obtain ⟨b1, b2, b3⟩ := b
  simp [kvT] at h
  obtain ⟨h1, h2, h3⟩ := h
  simp; omega
theorem kvC_inj {a b : Int × Nat} (h : kvC a = kvC b) : a = b := by
  obtain ⟨a1, a2⟩ := a
  obtain ⟨b1, b2⟩ := b
  simp [kvC] at h
  obtain ⟨h1, h2⟩ := h
  simp; omega

theorem cellsT : Tryz.prog.cellsOf 87 = 3 := by kernel_rfl
theorem cellsP : Tryz.prog.cellsOf 93 = 3 := by kernel_rfl
theorem cellsC : Tryz.prog.cellsOf 90 = 2 := by kernel_rfl
theorem cellsI : Tryz.prog.cellsOf 3 = 1 := by kernel_rfl
theorem cellsU : Tryz.prog.cellsOf 5 = 1 := by kernel_rfl
theorem litsU (n : Nat) (a : Int) (w1 : (Lit.int .u8 a).wf = true) : Tryz.prog.keyLits (n + 1) 5 [.int .u8 a] = some [.int .u8 a] := by
  simp only [Program.keyLits, Tryz.underlying5, w1, and_self, if_true]
theorem litsI (n : Nat) (a : Int) (w1 : (Lit.int .i64 a).wf = true) : Tryz.prog.keyLits (n + 1) 3 [.int .i64 a] = some [.int .i64 a] := by
  simp only [Program.keyLits, Tryz.underlying3, w1, and_self, if_true]
theorem litsT (n : Nat) (a b c : Int) (w1 : (Lit.int .u8 a).wf = true) (w2 : (Lit.int .i64 b).wf = true) (w3 : (Lit.int .i64 c).wf = true) :
    Tryz.prog.keyLits (n + 2) 87 [.int .u8 a, .int .i64 b, .int .i64 c] = some [.int .u8 a, .int .i64 b, .int .i64 c] := by
  unfold Program.keyLits
  simp only [Tryz.underlying87, cellsT]
  rw [if_pos ⟨rfl, by kernel_rfl⟩]
  simp only [List.mapM_cons, List.mapM_nil, cellsI, cellsU, List.drop, List.take, litsU _ a w1, litsI _ b w2, litsI _ c w3]
  rfl
theorem litsP (n : Nat) (a b c : Int) (w1 : (Lit.int .u8 a).wf = true) (w2 : (Lit.int .i64 b).wf = true) (w3 : (Lit.int .i64 c).wf = true) :
    Tryz.prog.keyLits (n + 2) 93 [.int .u8 a, .int .i64 b, .int .i64 c] = some [.int .u8 a, .int .i64 b, .int .i64 c] := by
  unfold Program.keyLits
  simp only [Tryz.underlying93, cellsP]
  rw [if_pos ⟨rfl, by kernel_rfl⟩]
  simp only [List.mapM_cons, List.mapM_nil, cellsI, cellsU, List.drop, List.take, litsU _ a w1, litsI _ b w2, litsI _ c w3]
  rfl
theorem litsC (n : Nat) (a b : Int) (w1 : (Lit.int .u8 a).wf = true) (w2 : (Lit.int .i64 b).wf = true) :
    Tryz.prog.keyLits (n + 2) 90 [.int .u8 a, .int .i64 b] = some [.int .u8 a, .int .i64 b] := by
  unfold Program.keyLits
  simp only [Tryz.underlying90, cellsC]
  rw [if_pos ⟨rfl, by kernel_rfl⟩]
  simp only [List.mapM_cons, List.mapM_nil, cellsI, cellsU, List.drop, List.take, litsU _ a w1, litsI _ b w2]
  rfl
theorem ktT : Tryz.prog.keyType 87 = true := by kernel_rfl
theorem ktP : Tryz.prog.keyType 93 = true := by kernel_rfl
theorem ktC : Tryz.prog.keyType 90 = true := by kernel_rfl
theorem two_of (x : Nat) (h : 0 < x) : ∃ n, x + 1 = n + 2 := ⟨x - 1, by omega⟩
theorem typesN : ∃ n, Tryz.prog.types.size + 1 = n + 2 := two_of _ (Nat.lt_of_le_of_lt (Nat.zero_le _) rowT)

theorem keyOf_struct {P : Program} {k : TypeId} {fs : Array Field} {v : Value} {ls : List Lit} (hu : P.underlying k = some (.struct fs)) (hk : P.keyType k = true) (hf : v.formed P k = true)
    (hl : P.keyLits (P.types.size + 1) k v.cells.toList = some ls) : keyOf P k v = some (.string (keyBytes ls)) := by
  simp [keyOf, hu, hk, hf, hl]

theorem keyT (k : Key) (h1 : 0 ≤ k.1 ∧ k.1 ≤ 255) (h2 : k.2.1 ≤ 1000) (h3 : k.2.2 ≤ 1000) : ∃ l, keyOf Tryz.prog 87 (kvT k) = some l := by
  have w1 : (Lit.int .u8 k.1).wf = true := WalkArith.wf_u8 (by omega)
  have w2 : (Lit.int .i64 k.2.1).wf = true := WalkArith.wf_i64 (by omega)
  have w3 : (Lit.int .i64 k.2.2).wf = true := WalkArith.wf_i64 (by omega)
  obtain ⟨n, hn⟩ := typesN
  have hf : (kvT k).formed Tryz.prog 87 = true := by simp only [kvT, Value.formed, Tryz.underlying87, cellsT]; rfl
  exact ⟨_, keyOf_struct Tryz.underlying87 ktT hf (by rw [hn]; exact litsT n _ _ _ w1 w2 w3)⟩

theorem keyP (k : Key) (h1 : 0 ≤ k.1 ∧ k.1 ≤ 255) (h2 : k.2.1 ≤ 1000) (h3 : k.2.2 ≤ 1000) : ∃ l, keyOf Tryz.prog 93 (kvT k) = some l := by
  have w1 : (Lit.int .u8 k.1).wf = true := WalkArith.wf_u8 (by omega)
  have w2 : (Lit.int .i64 k.2.1).wf = true := WalkArith.wf_i64 (by omega)
  have w3 : (Lit.int .i64 k.2.2).wf = true := WalkArith.wf_i64 (by omega)
  obtain ⟨n, hn⟩ := typesN
  have hf : (kvT k).formed Tryz.prog 93 = true := by simp only [kvT, Value.formed, Tryz.underlying93, cellsP]; rfl
  exact ⟨_, keyOf_struct Tryz.underlying93 ktP hf (by rw [hn]; exact litsP n _ _ _ w1 w2 w3)⟩

theorem keyC (k : Int × Nat) (h1 : 0 ≤ k.1 ∧ k.1 ≤ 255) (h2 : k.2 ≤ 1000) : ∃ l, keyOf Tryz.prog 90 (kvC k) = some l := by
  have w1 : (Lit.int .u8 k.1).wf = true := WalkArith.wf_u8 (by omega)
  have w2 : (Lit.int .i64 k.2).wf = true := WalkArith.wf_i64 (by omega)
  obtain ⟨n, hn⟩ := typesN
  have hf : (kvC k).formed Tryz.prog 90 = true := by simp only [kvC, Value.formed, Tryz.underlying90, cellsC]; rfl
  exact ⟨_, keyOf_struct Tryz.underlying90 ktC hf (by rw [hn]; exact litsC n _ _ w1 w2)⟩

/-- Block b is a numbering: the keys of ts, each under its place in ts. -/
def MapIs {α : Type} [BEq α] (w : World) (k b : Nat) (kv : α → Value) (ts : List α) : Prop :=
  ∃ D : DataW Unit, w.ownsMap Tryz.prog k (plainElem Tryz.prog 3) b ts.length D ∧ Maps.size D = ts.length ∧
    (∀ x l, keyOf Tryz.prog k (kv x) = some l → Maps.has D l = ts.contains x ∧ (ts.contains x = true → D.atKey l (.lit (.int .i64 0)) = .lit (.int .i64 (ts.idxOf x)))) ∧
    ∀ l, Maps.has D l = true → ∃ x, ts.contains x = true ∧ keyOf Tryz.prog k (kv x) = some l

section
variable {α : Type} [BEq α] {w w' : World} {k b : Nat} {kv : α → Value} {ts : List α}

theorem MapIs.lt (h : MapIs w k b kv ts) : b < w.heap.size := by
  obtain ⟨D, h1, _⟩ := h; exact h1.lt

theorem MapIs.kept (h : MapIs w k b kv ts) (hb : w'.heap[b]? = w.heap[b]?) : MapIs w' k b kv ts := by
  obtain ⟨D, ⟨es, clock, h1, h2⟩, h3⟩ := h
  exact ⟨D, ⟨es, clock, hb.trans h1, h2⟩, h3⟩

theorem mapIs_made (w : World) (k : Nat) (kv : α → Value) : MapIs (w.alloc (.map #[] 0)) k w.heap.size kv ([] : List α) :=
  ⟨.map [], World.ownsMap_made w _ _ _, rfl, fun x l _ => ⟨rfl, fun h => by simp at h⟩, fun l h => by cases h⟩

/-- A key that was not there goes to the end. -/
theorem mapIs_put [LawfulBEq α] {D : DataW Unit} (hinj : ∀ a b : α, kv a = kv b → a = b) (K : Keyed Tryz.prog k)
    (h2 : Maps.size D = ts.length) (h3 : ∀ x l, keyOf Tryz.prog k (kv x) = some l → Maps.has D l = ts.contains x ∧ (ts.contains x = true → D.atKey l (.lit (.int .i64 0)) = .lit (.int .i64 (ts.idxOf x))))
    (h3' : ∀ l, Maps.has D l = true → ∃ x, ts.contains x = true ∧ keyOf Tryz.prog k (kv x) = some l) (h4 : Tidy D) {x : α} {l : Lit} (hl : keyOf Tryz.prog k (kv x) = some l) (hx : ts.contains x = false)
    (h5 : w'.ownsMap Tryz.prog k (plainElem Tryz.prog 3) b (ts.length + 1) (D.put l (.lit (.int .i64 ts.length)))) :
    MapIs w' k b kv (ts ++ [x]) := by
  have hx' : ¬ x ∈ ts := by simpa using hx
  refine ⟨_, by simpa using h5, ?_, ?_, ?_⟩
  · rw [size_put h4, (h3 x l hl).1, hx]; simp [h2]
  · intro y m hm
    by_cases e : m = l
    · subst e
      have : y = x := hinj _ _ (K.inj hm hl)
      subst this
      refine ⟨by rw [has_put_same h4.isMap (K.key hl)]; simp, fun _ => ?_⟩
      rw [atKey_put_same h4.isMap (K.key hl)]
      simp [List.idxOf_append, hx']
    · have hne : y ≠ x := fun e' => e (by subst e'; rw [hm] at hl; exact Option.some.inj hl)
      rw [has_put_other e, atKey_put_other e, (h3 y m hm).1]
      refine ⟨by simp [hne], fun hy => ?_⟩
      have hy' : y ∈ ts := by simpa [hne] using hy
      rw [(h3 y m hm).2 (by simpa using hy')]
      simp [List.idxOf_append, hy']
  · intro m hm
    by_cases e : m = l
    · subst e; exact ⟨x, by simp, hl⟩
    · rw [has_put_other e] at hm
      obtain ⟨y, hy, hk⟩ := h3' m hm
      exact ⟨y, by simp at hy ⊢; exact Or.inl hy, hk⟩
end

end Go.Proofs.YthcppbmkacbbiaaGreat

namespace Go.Proofs.YthcppbmkacbbiaaGreat
open Go.RowKit Go.Maps Go.WideMaps
open Rdg (Key put)

theorem ret_int {k : IntKind} {a b : Int} (h : a = b) : Ending.returned (.int k a) = .returned (.int k b) := by rw [h]

set_option maxHeartbeats 400000 in
theorem numT_any (BT : Nat) (ts : List Key) (c : Int) (x y : Nat) (w : World) (h1 : 0 ≤ c ∧ c ≤ 255) (h2 : x ≤ 1000) (h3 : y ≤ 1000) (hl : ts.length ≤ 1000) (hM : MapIs w 87 BT kvT ts) :
    Calls Tryz.prog 159 #[.map (some BT), .agg #[.int .u8 c, .int .i64 x, .int .i64 y]] w fun e w' =>
      e = .returned (.int .i64 (ts.idxOf (c, x, y))) ∧ MapIs w' 87 BT kvT (put ts (c, x, y)) ∧ w.grownBy w' (some BT) := by
  obtain ⟨l, hkey⟩ := keyT (c, x, y) h1 h2 h3
  obtain ⟨D, hown, hsz, hall, hback⟩ := hM
  have hk0 := hall _ _ hkey
  have htidy := hown.tidy lawT
  have hkey' : keyOf Tryz.prog 87 (.agg #[.int .u8 c, .int .i64 x, .int .i64 y]) = some l := hkey
  have HALL := hide hall
  have HBACK := hide hback
  have HSZ := hide hsz
  have HK := hide hkey
  clear hall hsz hkey hback
  cases hc : ts.contains (c, x, y)
  · rw [hc] at hk0
    have hhas : Maps.has D l = false := hk0.1
    clear hk0
    have HC := hide hc
    clear hc
    go_enter Tryz.func159, Tryz.ntmps159
    go_wp2_with (first
      | (at_lookup; refine wpList_lookup_own_ok_int _ rfl _ _ 76 rfl 87 3 .i64 lawT Tryz.underlying76 Tryz.underlying3 (zeroE _) BT ts.length D rfl (hown.alloc _) _ l rfl hkey' ?_; intro c0 hat hwc)
      | (at_len; refine wpList_len_own _ rfl _ 76 rfl 87 3 Tryz.underlying76 _ BT ts.length D rfl (hown.alloc _) ?_)
      | (at_mapUpdate; refine wpList_mapUpdate_own _ rfl _ _ _ 76 rfl 87 3 lawT Tryz.underlying76 _ BT ts.length D rfl (hown.alloc _) (by unfold maxLen; omega) _ _ l rfl rfl hkey' _ [] (plainElem_int Tryz.underlying3 (WalkArith.wf_i64 (by have := unhide HSZ; omega))) ?_; intro w1 hown1 hgrow1))
    go_ret
    have hsz := unhide HSZ
    have hc := unhide HC
    have hn : ¬ (c, x, y) ∈ ts := by simpa using hc
    refine ⟨ret_int ?_, ?_, (World.grownBy_alloc _ _ _).trans hgrow1⟩
    · rw [hsz, List.idxOf_eq_length hn]
    · have hp : put ts (c, x, y) = ts ++ [(c, x, y)] := by unfold put; rw [hc]; rfl
      rw [hp]
      rw [hsz] at hown1
      exact mapIs_put (fun _ _ => kvT_inj) lawT hsz (unhide HALL) (unhide HBACK) htidy (unhide HK) hc hown1
  · rw [hc] at hk0
    have hhas : Maps.has D l = true := hk0.1
    have HAT := hide (hk0.2 rfl)
    clear hk0
    have HC := hide hc
    clear hc
    go_enter Tryz.func159, Tryz.ntmps159
    go_wp2_with (first
      | (at_lookup; refine wpList_lookup_own_ok_int _ rfl _ _ 76 rfl 87 3 .i64 lawT Tryz.underlying76 Tryz.underlying3 (zeroE _) BT ts.length D rfl (hown.alloc _) _ l rfl hkey' ?_; intro c0 hat hwc))
    go_ret
    have hc := unhide HC
    refine ⟨ret_int ?_, ?_, World.grownBy_alloc _ _ _⟩
    · have h := hat.symm.trans (unhide HAT)
      simpa using h
    · have hp : put ts (c, x, y) = ts := by unfold put; rw [hc]; rfl
      rw [hp]
      exact ⟨D, hown.alloc _, unhide HSZ, unhide HALL, unhide HBACK⟩

set_option maxHeartbeats 400000 in
theorem numP_any (BT : Nat) (ts : List Key) (c : Int) (x y : Nat) (w : World) (h1 : 0 ≤ c ∧ c ≤ 255) (h2 : x ≤ 1000) (h3 : y ≤ 1000) (hl : ts.length ≤ 1000) (hM : MapIs w 93 BT kvT ts) :
    Calls Tryz.prog 67 #[.map (some BT), .agg #[.int .u8 c, .int .i64 x, .int .i64 y]] w fun e w' =>
      e = .returned (.int .i64 (ts.idxOf (c, x, y))) ∧ MapIs w' 93 BT kvT (put ts (c, x, y)) ∧ w.grownBy w' (some BT) := by
  obtain ⟨l, hkey⟩ := keyP (c, x, y) h1 h2 h3
  obtain ⟨D, hown, hsz, hall, hback⟩ := hM
  have hk0 := hall _ _ hkey
  have htidy := hown.tidy lawP
  have hkey' : keyOf Tryz.prog 93 (.agg #[.int .u8 c, .int .i64 x, .int .i64 y]) = some l := hkey
  have HALL := hide hall
  have HBACK := hide hback
  have HSZ := hide hsz
  have HK := hide hkey
  clear hall hsz hkey hback
  cases hc : ts.contains (c, x, y)
  · rw [hc] at hk0
    have hhas : Maps.has D l = false := hk0.1
    clear hk0
    have HC := hide hc
    clear hc
    go_enter Tryz.func67, Tryz.ntmps67
    go_wp2_with (first
      | (at_lookup; refine wpList_lookup_own_ok_int _ rfl _ _ 80 rfl 93 3 .i64 lawP Tryz.underlying80 Tryz.underlying3 (zeroE _) BT ts.length D rfl (hown.alloc _) _ l rfl hkey' ?_; intro c0 hat hwc)
      | (at_len; refine wpList_len_own _ rfl _ 80 rfl 93 3 Tryz.underlying80 _ BT ts.length D rfl (hown.alloc _) ?_)
      | (at_mapUpdate; refine wpList_mapUpdate_own _ rfl _ _ _ 80 rfl 93 3 lawP Tryz.underlying80 _ BT ts.length D rfl (hown.alloc _) (by unfold maxLen; omega) _ _ l rfl rfl hkey' _ [] (plainElem_int Tryz.underlying3 (WalkArith.wf_i64 (by have := unhide HSZ; omega))) ?_; intro w1 hown1 hgrow1))
    go_ret
    have hsz := unhide HSZ
    have hc := unhide HC
    have hn : ¬ (c, x, y) ∈ ts := by simpa using hc
    refine ⟨ret_int ?_, ?_, (World.grownBy_alloc _ _ _).trans hgrow1⟩
    · rw [hsz, List.idxOf_eq_length hn]
    · have hp : put ts (c, x, y) = ts ++ [(c, x, y)] := by unfold put; rw [hc]; rfl
      rw [hp]
      rw [hsz] at hown1
      exact mapIs_put (fun _ _ => kvT_inj) lawP hsz (unhide HALL) (unhide HBACK) htidy (unhide HK) hc hown1
  · rw [hc] at hk0
    have hhas : Maps.has D l = true := hk0.1
    have HAT := hide (hk0.2 rfl)
    clear hk0
    have HC := hide hc
    clear hc
    go_enter Tryz.func67, Tryz.ntmps67
    go_wp2_with (first
      | (at_lookup; refine wpList_lookup_own_ok_int _ rfl _ _ 80 rfl 93 3 .i64 lawP Tryz.underlying80 Tryz.underlying3 (zeroE _) BT ts.length D rfl (hown.alloc _) _ l rfl hkey' ?_; intro c0 hat hwc))
    go_ret
    have hc := unhide HC
    refine ⟨ret_int ?_, ?_, World.grownBy_alloc _ _ _⟩
    · have h := hat.symm.trans (unhide HAT)
      simpa using h
    · have hp : put ts (c, x, y) = ts := by unfold put; rw [hc]; rfl
      rw [hp]
      exact ⟨D, hown.alloc _, unhide HSZ, unhide HALL, unhide HBACK⟩

set_option maxHeartbeats 400000 in
theorem numC_any (BT : Nat) (ts : List (Int × Nat)) (c : Int) (x : Nat) (w : World) (h1 : 0 ≤ c ∧ c ≤ 255) (h2 : x ≤ 1000) (hl : ts.length ≤ 1000) (hM : MapIs w 90 BT kvC ts) :
    Calls Tryz.prog 108 #[.map (some BT), .agg #[.int .u8 c, .int .i64 x]] w fun e w' =>
      e = .returned (.int .i64 (ts.idxOf (c, x))) ∧ MapIs w' 90 BT kvC (put ts (c, x)) ∧ w.grownBy w' (some BT) := by
  obtain ⟨l, hkey⟩ := keyC (c, x) h1 h2
  obtain ⟨D, hown, hsz, hall, hback⟩ := hM
  have hk0 := hall _ _ hkey
  have htidy := hown.tidy lawC
  have hkey' : keyOf Tryz.prog 90 (.agg #[.int .u8 c, .int .i64 x]) = some l := hkey
  have HALL := hide hall
  have HBACK := hide hback
  have HSZ := hide hsz
  have HK := hide hkey
  clear hall hsz hkey hback
  cases hc : ts.contains (c, x)
  · rw [hc] at hk0
    have hhas : Maps.has D l = false := hk0.1
    clear hk0
    have HC := hide hc
    clear hc
    go_enter Tryz.func108, Tryz.ntmps108
    go_wp2_with (first
      | (at_lookup; refine wpList_lookup_own_ok_int _ rfl _ _ 78 rfl 90 3 .i64 lawC Tryz.underlying78 Tryz.underlying3 (zeroE _) BT ts.length D rfl (hown.alloc _) _ l rfl hkey' ?_; intro c0 hat hwc)
      | (at_len; refine wpList_len_own _ rfl _ 78 rfl 90 3 Tryz.underlying78 _ BT ts.length D rfl (hown.alloc _) ?_)
      | (at_mapUpdate; refine wpList_mapUpdate_own _ rfl _ _ _ 78 rfl 90 3 lawC Tryz.underlying78 _ BT ts.length D rfl (hown.alloc _) (by unfold maxLen; omega) _ _ l rfl rfl hkey' _ [] (plainElem_int Tryz.underlying3 (WalkArith.wf_i64 (by have := unhide HSZ; omega))) ?_; intro w1 hown1 hgrow1))
    go_ret
    have hsz := unhide HSZ
    have hc := unhide HC
    have hn : ¬ (c, x) ∈ ts := by simpa using hc
    refine ⟨ret_int ?_, ?_, (World.grownBy_alloc _ _ _).trans hgrow1⟩
    · rw [hsz, List.idxOf_eq_length hn]
    · have hp : put ts (c, x) = ts ++ [(c, x)] := by unfold put; rw [hc]; rfl
      rw [hp]
      rw [hsz] at hown1
      exact mapIs_put (fun _ _ => kvC_inj) lawC hsz (unhide HALL) (unhide HBACK) htidy (unhide HK) hc hown1
  · rw [hc] at hk0
    have hhas : Maps.has D l = true := hk0.1
    have HAT := hide (hk0.2 rfl)
    clear hk0
    have HC := hide hc
    clear hc
    go_enter Tryz.func108, Tryz.ntmps108
    go_wp2_with (first
      | (at_lookup; refine wpList_lookup_own_ok_int _ rfl _ _ 78 rfl 90 3 .i64 lawC Tryz.underlying78 Tryz.underlying3 (zeroE _) BT ts.length D rfl (hown.alloc _) _ l rfl hkey' ?_; intro c0 hat hwc))
    go_ret
    have hc := unhide HC
    refine ⟨ret_int ?_, ?_, World.grownBy_alloc _ _ _⟩
    · have h := hat.symm.trans (unhide HAT)
      simpa using h
    · have hp : put ts (c, x) = ts := by unfold put; rw [hc]; rfl
      rw [hp]
      exact ⟨D, hown.alloc _, unhide HSZ, unhide HALL, unhide HBACK⟩

end Go.Proofs.YthcppbmkacbbiaaGreat
