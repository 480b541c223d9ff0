import Derived.Test.YthcppbmkacbbiaaGreatSeqM
import Derived.RangeFuncLeaves
import Derived.RangeFuncBox
import Derived.Maps.AppendAt
import Derived.Test.YthcppbmkacbbiaaGreatKeysM
import Derived.Maps.OwnOps
import Derived.Sort.Grow
import Derived.OrdersHeld
import Derived.Deep.RegionHeldLaw
namespace Go.Proofs.YthcppbmkacbbiaaGreat
open Go.RowKit Go.Maps Go.WideMaps
open Rdg (Key put)

/-- The keys met so far: no one twice; one has been met just if it is no longer to come. -/
structure Coll {α : Type} (k : Nat) (kv : α → Value) (ts : List α) (left : Lit → Bool) (ss : List (Fin ts.length)) : Prop where
  nd : ss.Nodup
  mem : ∀ (i : Fin ts.length) (l : Lit), keyOf Tryz.prog k (kv ts[i]) = some l → (i ∈ ss ↔ left l = false)

section
variable {α : Type} {k : Nat} {kv : α → Value} {ts : List α} {left : Lit → Bool} {ss : List (Fin ts.length)}

theorem Coll.start (h : ∀ (i : Fin ts.length) (l : Lit), keyOf Tryz.prog k (kv ts[i]) = some l → left l = true) : Coll k kv ts left [] :=
  ⟨List.nodup_nil, fun i l hl => by simp [h i l hl]⟩

theorem Coll.step (K : Keyed Tryz.prog k) (hinj : ∀ a b : α, kv a = kv b → a = b) (hnd : ts.Nodup) (h : Coll k kv ts left ss) {i : Fin ts.length} {kl : Lit} (hkey : keyOf Tryz.prog k (kv ts[i]) = some kl) (hlk : left kl = true) :
    Coll k kv ts (fun z => left z && !z.sameKey kl) (ss ++ [i]) := by
  have hnew : i ∉ ss := fun hx => by have := (h.mem i kl hkey).1 hx; rw [hlk] at this; cases this
  refine ⟨List.nodup_append.2 ⟨h.nd, by simp, fun a ha b hb => by simp at hb; subst hb; exact fun e => hnew (e ▸ ha)⟩, fun j l hl => ?_⟩
  by_cases e : j = i
  · subst e
    rw [hl] at hkey
    cases hkey
    simp [WideAt.sameKey_self (K.key hl)]
  · have hne : l ≠ kl := fun e' => e (by
      subst e'
      have h1 := hinj _ _ (K.inj hl hkey)
      rcases Nat.lt_trichotomy j.val i.val with h2 | h2 | h2
      · exact absurd h1 (List.pairwise_iff_getElem.1 hnd j.val i.val j.isLt i.isLt h2)
      · exact Fin.ext h2
      · exact absurd h1.symm (List.pairwise_iff_getElem.1 hnd i.val j.val i.isLt j.isLt h2))
    rw [sameKey_ne hne]
    simp [h.mem j l hl, e]

theorem Coll.perm (h : Coll k kv ts left ss) (hv : ∀ x ∈ ts, ∃ l, keyOf Tryz.prog k (kv x) = some l) (hl : ∀ kl, left kl = false) : ss.Perm (List.finRange ts.length) := by
  refine (List.perm_ext_iff_of_nodup h.nd (List.nodup_finRange _)).2 fun i => ?_
  obtain ⟨l, hk⟩ := hv ts[i] (List.getElem_mem i.isLt)
  simp [(h.mem i l hk).2 (hl l), List.mem_finRange]
end

end Go.Proofs.YthcppbmkacbbiaaGreat

namespace Go.Proofs.YthcppbmkacbbiaaGreat
open Go.RowKit Go.Maps Go.WideMaps
open Rdg (Key put)

theorem cell_own {W W' : World} {row : Option Nat} {a : Addr} {v : Value} (h : W.cell? a = some v) (hg : W.grownBy W' row) (hr : ∀ r, row = some r → ∃ o : Obj, W.heap[r]? = some o ∧ o.isCells = false) : W'.cell? a = some v :=
  hg.cell h (fun e => by
    obtain ⟨o, ho, hc⟩ := hr _ e.symm
    obtain ⟨o', ho', hc'⟩ := cells_of_cell h
    rw [ho] at ho'
    cases ho'
    rw [hc] at hc'
    cases hc')

theorem frozen_own {W W' : World} {row : Option Nat} {a : Addr} {v : Value} (h : W.cell? a = some v) (hg : W.grownBy W' row) (hr : ∀ r, row = some r → ∃ o : Obj, W.heap[r]? = some o ∧ o.isCells = false) : W'.frozen? a = W.frozen? a :=
  World.frozen?_of_block (hg.block a.block (World.block_lt_of_cell? W a h) (fun e => by
    obtain ⟨o, ho, hc⟩ := hr _ e.symm
    obtain ⟨o', ho', hc'⟩ := cells_of_cell h
    rw [ho] at ho'
    cases ho'
    rw [hc] at hc'
    cases hc'))

theorem row_own {W W' : World} {row : Option Nat} {base e size n : Nat} {v : Value} {xs : List Value} (h : W.ownsRow base e size v n xs) (hg : W.grownBy W' row) (hr : ∀ r, row = some r → ∃ o : Obj, W.heap[r]? = some o ∧ o.isCells = false) : W'.ownsRow base e size v n xs := by
  refine h.kept hg ?_
  rcases h.2 with ⟨rfl, _⟩ | ⟨g, cap, cur, rfl, _, hgb, _⟩
  · exact Or.inl rfl
  · refine Or.inr (fun e => ?_)
    obtain ⟨o, ho, hc⟩ := hr g (by rw [← e]; rfl)
    rw [hgb] at ho
    cases ho
    cases hc

theorem row_base {W : World} {base base' e size n : Nat} {v : Value} {xs : List Value} (h : W.ownsRow base e size v n xs) (hb : base' ≤ base) : W.ownsRow base' e size v n xs := by
  refine ⟨h.1, ?_⟩
  rcases h.2 with hn | ⟨g, cap, cur, hv, hbg, rest⟩
  · exact .inl hn
  · exact .inr ⟨g, cap, cur, hv, Nat.le_trans hb hbg, rest⟩

theorem slice_of {W : World} {base e size n : Nat} {v : Value} {xs : List Value} (h : W.ownsRow base e size v n xs) (hn : 0 < n) : ∃ g cap, v = .slice (some ⟨g, 0, none⟩) n cap := by
  rcases h.2 with ⟨_, h0⟩ | ⟨g, cap, cur, rfl, _⟩
  · omega
  · exact ⟨g, cap, rfl⟩

/-- Between two rounds of a loop that appends to a variable X. -/
structure AI (w : World) (X base e k : Nat) (b : Bool) (len : Nat) (cells : List Value) (W : World) : Prop where
  x : ∃ v, W.cell? ⟨X, 0, none⟩ = some v ∧ W.ownsRow base e k v len cells ∧ (v = .slice none 0 0 ↔ b = true ∧ len = 0)
  fx : W.frozen? ⟨X, 0, none⟩ = false
  below : Below w.heap.size w W

theorem AI.keep {w : World} {X base e k : Nat} {b : Bool} {len : Nat} {cells : List Value} {W W' : World} {row : Option Nat} {B : Nat} (h : AI w X base e k b len cells W) (hg : W.grownBy W' row)
    (hw : w.heap.size ≤ B) (hr : ∀ r, row = some r → B ≤ r ∧ ∃ o : Obj, W.heap[r]? = some o ∧ o.isCells = false) : AI w X base e k b len cells W' := by
  obtain ⟨v, hx, hrow, hnil⟩ := h.x
  have hr' : ∀ r, row = some r → ∃ o : Obj, W.heap[r]? = some o ∧ o.isCells = false := fun r e => (hr r e).2
  refine ⟨⟨v, cell_own hx hg hr', row_own hrow hg hr', hnil⟩, (frozen_own hx hg hr').trans h.fx, ownFrom_below (β := Unit) (Nat.le_refl _) hw () W W' row h.below hg hr⟩

theorem AI.after {w : World} {X base e k : Nat} {b : Bool} {len : Nat} {cells : List Value} {W Wc w3 : World} {v : Value}
    (hXb : X < base) (h : AI w X base e k b len cells W) (hv : W.cell? ⟨X, 0, none⟩ = some v) (hvr : W.ownsRow base e k v len cells) (hg : W.grownBy Wc none) (hg3 : Wc.grownBy w3 v.ownBlock) :
    w3.cell? ⟨X, 0, none⟩ = some v ∧ w3.frozen? ⟨X, 0, none⟩ = false := by
  have hlX := World.block_lt_of_cell? W _ hv
  have hnX : some X ≠ v.ownBlock := fun e => by
    rcases hvr.2 with ⟨rfl, _⟩ | ⟨g, cap, cur, rfl, hb, hgb, _⟩
    · cases e
    · simp only [Value.ownBlock, Option.some.injEq] at e
      omega
  have hX3 : w3.heap[X]? = W.heap[X]? := (hg3.block X (Nat.lt_of_lt_of_le hlX hg.size) hnX).trans (hg.block X hlX (by simp))
  exact ⟨(World.cell?_of_block hX3).trans hv, (World.frozen?_of_block hX3).trans h.fx⟩

/-- A round's end: cells have been appended, the slice is stored. -/
theorem AI.close {w : World} {X base e k : Nat} {b : Bool} {len : Nat} {cells news : List Value} {W Wc w3 : World} {B : Nat} {a : Act} {v v' : Value} {m : Nat}
    (hX : X < B) (hwX : w.heap.size ≤ X) (hXb : X < base) (h : AI w X base e k b len cells W) (hv : W.cell? ⟨X, 0, none⟩ = some v) (hvr : W.ownsRow base e k v len cells) (hg : W.grownBy Wc none)
    (hr : w3.ownsRow base e k v' (len + m) (cells ++ news)) (hg3 : Wc.grownBy w3 v.ownBlock) (hn : v' = .slice none 0 0 ↔ v = .slice none 0 0 ∧ m = 0) (hm : m ≠ 0) :
    goesOn B KeepsWalks (AI w X base e k b (len + m) (cells ++ news)) W .normal a (w3.setCell ⟨X, 0, none⟩ v') := by
  have hlX := World.block_lt_of_cell? W _ hv
  obtain ⟨o, ho, hoc⟩ := cells_of_cell hv
  have hnb : ∀ j, v.ownBlock = some j → base ≤ j ∧ ∃ cur : Array Value, W.heap[j]? = some (.cells cur e (0, 0)) := by
    intro j hj
    rcases hvr.2 with ⟨rfl, _⟩ | ⟨g, cap, cur, rfl, hb, hgb, _⟩
    · cases hj
    · cases hj; exact ⟨hb, cur, hgb⟩
  have hnX : some X ≠ v.ownBlock := fun e => by have := (hnb X e.symm).1; omega
  have hX3 : w3.heap[X]? = W.heap[X]? := (hg3.block X (Nat.lt_of_lt_of_le hlX hg.size) hnX).trans (hg.block X hlX (by simp))
  have hc3 : w3.cell? ⟨X, 0, none⟩ = some v := (World.cell?_of_block hX3).trans hv
  have hf3 : w3.frozen? ⟨X, 0, none⟩ = false := (World.frozen?_of_block hX3).trans h.fx
  have keep : ∀ (j : Nat) (o : Obj), W.heap[j]? = some o → o.isCells = false → (w3.setCell ⟨X, 0, none⟩ v').heap[j]? = some o := by
    intro j o' hj hc
    have hjl := (Array.getElem?_eq_some_iff.1 hj).1
    have hjX : j ≠ X := fun e => by subst e; have h1 := hj.symm.trans ho; cases h1; rw [hc] at hoc; cases hoc
    refine (Below.heap_setCell w3 _ _ j hjX).trans ((hg3.block j (Nat.lt_of_lt_of_le hjl hg.size) (fun e => ?_)).trans ((hg.block j hjl (by simp)).trans hj))
    obtain ⟨cur, hcur⟩ := (hnb j e.symm).2
    have h1 := hj.symm.trans hcur
    cases h1
    cases hc
  have hsz : W.heap.size ≤ (w3.setCell ⟨X, 0, none⟩ v').heap.size := by
    have h1 := Nat.le_trans hg.size hg3.size
    simpa [World.setCell] using h1
  refine ⟨⟨hsz, fun j o _ hj hc => keep j o hj hc⟩, ⟨hsz, fun j o hj hw => keep j o hj (Obj.not_cells_of_walk hw)⟩, ⟨⟨v', World.cell?_setCell_same' _ _ _ (by rw [hc3]; rfl), ?_, ?_⟩, by rw [World.frozen?_setCell]; exact hf3, ?_⟩⟩
  · refine hr.kept (grownBy_setCell' w3 X _) ?_
    rcases hr.2 with ⟨rfl, _⟩ | ⟨g, cap, cur, rfl, hb, hgb, _⟩
    · exact Or.inl rfl
    · refine Or.inr (fun e => ?_)
      simp only [Value.ownBlock, Option.some.injEq] at e
      omega
  · rw [hn]; constructor
    · rintro ⟨_, e⟩; exact absurd e hm
    · rintro ⟨_, e⟩; omega
  · have hb := h.below
    refine ⟨hg3.os.trans (hg.os.trans hb.os), hg3.tape.trans (hg.tape.trans hb.tape), hg3.output.trans (hg.output.trans hb.output), Nat.le_trans hb.size hsz, fun j hj => ?_⟩
    have hjl := Nat.lt_of_lt_of_le hj hb.size
    refine (Below.heap_setCell w3 _ _ j (by show j ≠ X; omega)).trans ((hg3.block j (Nat.lt_of_lt_of_le hjl hg.size) (fun e => ?_)).trans ((hg.block j hjl (by simp)).trans (hb.block j hj)))
    have := (hnb j e.symm).1
    omega

def ecT (k : Key) : List Value := [.int .u8 k.1, .int .i64 k.2.1, .int .i64 k.2.2]
def ecC (k : Int × Nat) : List Value := [.int .u8 k.1, .int .i64 k.2]
theorem kv_ecT (k : Key) : kvT k = .agg (ecT k).toArray := rfl
theorem kv_ecC (k : Int × Nat) : kvC k = .agg (ecC k).toArray := rfl

theorem newsT (w : World) (a : Int) (b c : Nat) (t : TypeId) : ∀ j u, (ecT (a, b, c))[j]? = some u → (w.alloc (.cells #[.int .u8 a, .int .i64 b, .int .i64 c] t)).cell? ((⟨w.heap.size, 0, none⟩ : Addr).add j) = some u := by
  intro j u hj
  match j with
  | 0 => simp [ecT] at hj; subst hj; simp [Addr.add, go_sem]
  | 1 => simp [ecT] at hj; subst hj; simp [Addr.add, go_sem]
  | 2 => simp [ecT] at hj; subst hj; simp [Addr.add, go_sem]
  | j + 3 => simp [ecT] at hj
theorem newsC (w : World) (a : Int) (b : Nat) (t : TypeId) : ∀ j u, (ecC (a, b))[j]? = some u → (w.alloc (.cells #[.int .u8 a, .int .i64 b] t)).cell? ((⟨w.heap.size, 0, none⟩ : Addr).add j) = some u := by
  intro j u hj
  match j with
  | 0 => simp [ecC] at hj; subst hj; simp [Addr.add, go_sem]
  | 1 => simp [ecC] at hj; subst hj; simp [Addr.add, go_sem]
  | j + 2 => simp [ecC] at hj
theorem oneT (k : Key) : ∀ u ∈ ecT k, u.oneCell' = true := by intro u hu; simp [ecT] at hu; rcases hu with rfl | rfl | rfl <;> rfl
theorem oneC (k : Int × Nat) : ∀ u ∈ ecC k, u.oneCell' = true := by intro u hu; simp [ecC] at hu; rcases hu with rfl | rfl <;> rfl

end Go.Proofs.YthcppbmkacbbiaaGreat

namespace Go.Proofs.YthcppbmkacbbiaaGreat
open Go.RowKit Go.Maps Go.WideMaps

/-- One operation alone may come up. -/
theorem wpAnyH_one {P : Program} {ops : Array Oper} {Q : Exit → Act → World → Prop} {md : Region.Mode} {S : World → Prop} {i : Nat} {o : Oper} {fuel : Nat} {listed : Array Bool} {a : Act} {w : World} (hr : Region.ready md ops listed = [i]) (ho : ops[i]? = some o) (hw : Region.wanted o (yielded ops a.tmps) = true)
    (h : ∀ K' : Act → World → Prop, Shut (∀ a w, S w → wpAnyH P md ops Q S fuel (listed.setIfInBounds i true) a w → K' a w) → Oper.wp P o a w K' Q) :
    wpAnyH P md ops Q S (fuel + 1) listed a w := by
  refine ⟨fun h0 => (by rw [hr] at h0; cases h0), fun j hj => ?_⟩
  rw [hr] at hj
  obtain rfl : j = i := by simpa using hj
  refine wpOp_step ho (fun K' hK => ?_)
  rw [if_pos hw]
  exact h K' (fun a w hS hW => hK a w ⟨hS, hW⟩)

theorem grown4 (W : World) (a b c d : Obj) : ((((W.alloc a).alloc b).alloc c).alloc d).drew = Go.Sort.grow (W.drewN 1) #[a, b, c, d] := by
  rw [Go.Sort.alloc_eq_grow, Go.Sort.alloc_eq_grow, Go.Sort.alloc_eq_grow, Go.Sort.alloc_eq_grow, Go.Sort.drew_grow, Go.Sort.grow_grow, Go.Sort.grow_grow, Go.Sort.drew_grow, Go.Sort.grow_grow]
  rfl

/-- cmp.Compare of two numbers. -/
def cmpZ (a b : Int) : Int := if a < b then -1 else if b < a then 1 else 0

theorem compare_any (a b : Int) (w : World) : Calls Tryz.prog 115 #[.int .i64 a, .int .i64 b] w fun e w' => e = .returned (.int .i64 (cmpZ a b)) ∧ w' = w := by
  have e1 : (a != a) = false := by simp
  have e2 : (b != b) = false := by simp
  unfold cmpZ
  by_cases h1 : a < b
  · rw [if_pos h1]
    go_enter Tryz.func115, Tryz.ntmps115
    go_wp2
    go_ret
    exact ⟨rfl, rfl⟩
  · rw [if_neg h1]
    by_cases h2 : b < a
    · rw [if_pos h2]
      go_enter Tryz.func115, Tryz.ntmps115
      go_wp2
      go_ret
      exact ⟨rfl, rfl⟩
    · rw [if_neg h2]
      go_enter Tryz.func115, Tryz.ntmps115
      go_wp2
      go_ret
      exact ⟨rfl, rfl⟩

/-- What a look-up in a numbering tells. -/
theorem MapIs.look {α : Type} [BEq α] [LawfulBEq α] {w : World} {k b : Nat} {kv : α → Value} {ts : List α} (hM : MapIs w k b kv ts) (K : Keyed Tryz.prog k) {t : TypeId} (ht : Tryz.prog.underlying t = some (.map k 3)) {x : α} (hx : x ∈ ts) {l : Lit} (hl : keyOf Tryz.prog k (kv x) = some l) :
    (Instr.lookup t (.map (some b)) (kv x) false).run Tryz.prog w = .ok (.int .i64 (ts.idxOf x)) w := by
  obtain ⟨D, hown, _, hall, _⟩ := hM
  obtain ⟨c, hrun, hat, _⟩ := hown.lookup_int K ht Tryz.underlying3 (zeroE w) hl
  have h1 := (hall x l hl).2 (by simpa using hx)
  rw [h1] at hat
  simp at hat
  rw [hrun, ← hat]

theorem MapIs.looks {α : Type} [BEq α] [LawfulBEq α] {w : World} {k b : Nat} {kv : α → Value} {ts : List α} (hM : MapIs w k b kv ts) (K : Keyed Tryz.prog k) {t : TypeId} (ht : Tryz.prog.underlying t = some (.map k 3)) {x : α} (hx : x ∈ ts) {l : Lit} (hl : keyOf Tryz.prog k (kv x) = some l) :
    ∀ W', w.grownBy W' none → (Instr.lookup t (.map (some b)) (kv x) false).run Tryz.prog W' = .ok (.int .i64 (ts.idxOf x)) W' :=
  fun _ hg => (hM.kept (hg.block b hM.lt (by simp))).look K ht hx hl

end Go.Proofs.YthcppbmkacbbiaaGreat
