import Derived.Test.YthcppbmkacbbiaaGreatRefIM
import Derived.Test.YthcppbmkacbbiaaGreatTruM
import Derived.Test.YthcppbmkacbbiaaGreatRefH
import Derived.Test.YthcppbmkacbbiaaGreatRefVpM
namespace Go.Proofs.YthcppbmkacbbiaaGreat
open Go.RowKit
open Rdg (St put cut clsOf hldOf)

theorem infoI : (Tryz.prog.info? 3).map (fun i => (i.zero, i.size, i.bytes)) = some (some (.int .i64 0), 1, 8) := by kernel_rfl

def vI (x : Int) : Value := .int .i64 x

theorem newsI_at (w : World) (x : Int) (t : TypeId) (n : Nat) (hn : w.heap.size = n) : ∀ j u, [vI x][j]? = some u → (w.alloc (.cells #[vI x] t)).cell? ((⟨n, 0, none⟩ : Addr).add j) = some u := by
  subst hn
  intro j u hj
  cases j with
  | zero => simp at hj; subst hj; simp [Addr.add]
  | succ j => simp at hj
theorem oneI (x : Int) : ∀ u ∈ [vI x], u.oneCell' = true := by intro u hu; simp at hu; subst hu; rfl

theorem grownBy_setCell (W : World) (X o : Nat) (v : Value) : W.grownBy (W.setCell ⟨X, o, none⟩ v) (some X) :=
  ⟨rfl, rfl, rfl, by simp [World.setCell], fun k _ hk => Below.heap_setCell _ _ _ _ (fun e => hk (by simp [e]))⟩

theorem own_any {w : World} {base e n : Nat} {v : Value} {xs : List Value} (h : w.ownsRow base e 1 v n xs) : ∃ ao cap, v = .slice ao n cap := by
  obtain ⟨_, h2⟩ := h
  rcases h2 with ⟨e, e2⟩ | ⟨g, cap, cur, e, _⟩
  · subst e2; exact ⟨_, _, e⟩
  · exact ⟨_, _, e⟩

/-- What lies while a written case is read. -/
structure PG (w : World) (v1 v2 : Value) (cl : List Int) (hl : List Bool) (W : World) : Prop where
  below : Below w.heap.size w W
  x0 : W.cell? ⟨w.heap.size + 1, 0, none⟩ = some v1
  x1 : W.cell? ⟨w.heap.size + 1, 1, none⟩ = some v2
  f : ∀ i, W.frozen? ⟨w.heap.size + 1, i, none⟩ = false
  y0 : W.cell? ⟨w.heap.size, 0, none⟩ = some (.slice none 0 0)
  y1 : W.cell? ⟨w.heap.size, 1, none⟩ = some (.slice none 0 0)
  g : ∀ i, W.frozen? ⟨w.heap.size, i, none⟩ = false
  r1 : W.ownsRow (w.heap.size + 2) 3 1 v1 cl.length (cl.map vI)
  r2 : W.ownsRow (w.heap.size + 2) 4 1 v2 hl.length (hl.map Value.bool)
  size : w.heap.size + 2 ≤ W.heap.size

theorem row_cells {W : World} {base e size n : Nat} {v : Value} {xs : List Value} {k : Nat} (h : W.ownsRow base e size v n xs) (hk : v.ownBlock = some k) : ∃ c fz, W.heap[k]? = some (.cells c e fz) := by
  rcases h.2 with ⟨h1, _⟩ | ⟨g, cap, cur, h1, h2, h3, _⟩
  · subst h1; simp [Value.ownBlock] at hk
  · subst h1
    simp [Value.ownBlock] at hk
    subst hk
    exact ⟨_, _, h3⟩

theorem rows_apart {W : World} {b1 b2 e1 e2 n1 n2 : Nat} {v1 v2 : Value} {x1 x2 : List Value} (h1 : W.ownsRow b1 e1 1 v1 n1 x1) (h2 : W.ownsRow b2 e2 1 v2 n2 x2) (he : e1 ≠ e2) : v1.ownBlock = none ∨ v1.ownBlock ≠ v2.ownBlock := by
  cases hv : v1.ownBlock with
  | none => exact .inl rfl
  | some k =>
    refine .inr fun e => ?_
    obtain ⟨c, fz, h3⟩ := row_cells h1 hv
    obtain ⟨c', fz', h4⟩ := row_cells h2 e.symm
    rw [h3] at h4
    have h5 := Option.some.inj h4
    injection h5 with _ h6 _
    exact he h6

theorem PG.mid1 {w W W3 : World} {v1 v2 : Value} {cl : List Int} {hl : List Bool} {o : Obj} (h : PG w v1 v2 cl hl W) (hg : (W.alloc o).grownBy W3 v1.ownBlock) : W3.cell? ⟨w.heap.size + 1, 0, none⟩ = some v1 ∧ W3.frozen? ⟨w.heap.size + 1, 0, none⟩ = false := by
  have hga : W.grownBy W3 v1.ownBlock := (World.grownBy_alloc _ _ _).trans hg
  have hb := hga.block (w.heap.size + 1) (by have := h.size; omega) (fun e => by have := (h.r1.lt _ e.symm).1; omega)
  exact ⟨(World.cell?_of_block hb).trans h.x0, (World.frozen?_of_block hb).trans (h.f 0)⟩

theorem PG.mid2 {w W W3 : World} {v1 v2 : Value} {cl : List Int} {hl : List Bool} {o : Obj} (h : PG w v1 v2 cl hl W) (hg : (W.alloc o).grownBy W3 v2.ownBlock) : W3.cell? ⟨w.heap.size + 1, 1, none⟩ = some v2 ∧ W3.frozen? ⟨w.heap.size + 1, 1, none⟩ = false := by
  have hga : W.grownBy W3 v2.ownBlock := (World.grownBy_alloc _ _ _).trans hg
  have hb := hga.block (w.heap.size + 1) (by have := h.size; omega) (fun e => by have := (h.r2.lt _ e.symm).1; omega)
  exact ⟨(World.cell?_of_block hb).trans h.x1, (World.frozen?_of_block hb).trans (h.f 1)⟩

theorem PG.drew {w W : World} {v1 v2 : Value} {cl : List Int} {hl : List Bool} (h : PG w v1 v2 cl hl W) : PG w v1 v2 cl hl W.drew :=
  ⟨h.below.drew, h.x0, h.x1, h.f, h.y0, h.y1, h.g, h.r1, h.r2, h.size⟩

/-- One digit more. -/
theorem PG.one {w W W3 : World} {v1 v2 v' : Value} {cl : List Int} {hl : List Bool} {d : Int} {o : Obj} (h : PG w v1 v2 cl hl W) (hown : W3.ownsRow (w.heap.size + 2) 3 1 v' (cl.length + 1) (cl.map vI ++ [vI d])) (hg : (W.alloc o).grownBy W3 v1.ownBlock) :
    PG w v' v2 (cl ++ [d]) hl (W3.setCell ⟨w.heap.size + 1, 0, none⟩ v') := by
  have hb : ∀ k, v1.ownBlock = some k → w.heap.size + 2 ≤ k := fun k e => (h.r1.lt k e).1
  have hga : W.grownBy W3 v1.ownBlock := (World.grownBy_alloc _ _ _).trans hg
  have hn : ∀ k, k < w.heap.size + 2 → v1.ownBlock ≠ some k := fun k hk e => by have := hb k e; omega
  have ck : ∀ k i, k < w.heap.size + 2 → W3.cell? ⟨k, i, none⟩ = W.cell? ⟨k, i, none⟩ := fun k i hk => World.cell?_of_block (hga.block k (by have := h.size; omega) (fun e => hn k hk e.symm))
  have fk : ∀ k i, k < w.heap.size + 2 → W3.frozen? ⟨k, i, none⟩ = W.frozen? ⟨k, i, none⟩ := fun k i hk => World.frozen?_of_block (hga.block k (by have := h.size; omega) (fun e => hn k hk e.symm))
  have hr2 : W3.ownsRow (w.heap.size + 2) 4 1 v2 hl.length (hl.map Value.bool) := h.r2.kept hga (rows_apart h.r2 h.r1 (by decide))
  have hset := grownBy_setCell W3 (w.heap.size + 1) 0 v'
  have hnX : ∀ {v : Value} {e n : Nat} {xs : List Value}, W3.ownsRow (w.heap.size + 2) e 1 v n xs → v.ownBlock = none ∨ v.ownBlock ≠ some (w.heap.size + 1) := fun hr => .inr fun e => by have := (hr.lt _ e).1; omega
  refine ⟨?_, ?_, ?_, ?_, ?_, ?_, ?_, ?_, hr2.kept hset (hnX hr2), ?_⟩
  · exact (h.below.grown hga h.below.size (fun k e => by have := hb k e; omega)).setCell (p := ⟨w.heap.size + 1, 0, none⟩) (by show w.heap.size ≤ w.heap.size + 1; omega) _
  · exact cell_same _ ((ck _ 0 (by omega)).trans h.x0)
  · refine (World.cell?_setCell_other W3 ⟨w.heap.size + 1, 0, none⟩ ⟨w.heap.size + 1, 1, none⟩ v' (by simp)).trans ?_
    exact (ck _ 1 (by omega)).trans h.x1
  · intro i; rw [World.frozen?_setCell]; exact (fk _ i (by omega)).trans (h.f i)
  · exact (World.cell?_of_block (Below.heap_setCell _ _ _ _ (by show w.heap.size ≠ w.heap.size + 1; omega))).trans ((ck _ 0 (by omega)).trans h.y0)
  · exact (World.cell?_of_block (Below.heap_setCell _ _ _ _ (by show w.heap.size ≠ w.heap.size + 1; omega))).trans ((ck _ 1 (by omega)).trans h.y1)
  · intro i; rw [World.frozen?_setCell]; exact (fk _ i (by omega)).trans (h.g i)
  · have := hown.kept hset (hnX hown)
    simpa using this
  · have h1 := h.size
    have h2 := hga.size
    have h3 : (W3.setCell ⟨w.heap.size + 1, 0, none⟩ v').heap.size = W3.heap.size := by simp [World.setCell]
    omega

/-- One truth more. -/
theorem PG.two {w W W3 : World} {v1 v2 v' : Value} {cl : List Int} {hl : List Bool} {d : Bool} {o : Obj} (h : PG w v1 v2 cl hl W) (hown : W3.ownsRow (w.heap.size + 2) 4 1 v' (hl.length + 1) (hl.map Value.bool ++ [.bool d])) (hg : (W.alloc o).grownBy W3 v2.ownBlock) :
    PG w v1 v' cl (hl ++ [d]) (W3.setCell ⟨w.heap.size + 1, 1, none⟩ v') := by
  have hb : ∀ k, v2.ownBlock = some k → w.heap.size + 2 ≤ k := fun k e => (h.r2.lt k e).1
  have hga : W.grownBy W3 v2.ownBlock := (World.grownBy_alloc _ _ _).trans hg
  have hn : ∀ k, k < w.heap.size + 2 → v2.ownBlock ≠ some k := fun k hk e => by have := hb k e; omega
  have ck : ∀ k i, k < w.heap.size + 2 → W3.cell? ⟨k, i, none⟩ = W.cell? ⟨k, i, none⟩ := fun k i hk => World.cell?_of_block (hga.block k (by have := h.size; omega) (fun e => hn k hk e.symm))
  have fk : ∀ k i, k < w.heap.size + 2 → W3.frozen? ⟨k, i, none⟩ = W.frozen? ⟨k, i, none⟩ := fun k i hk => World.frozen?_of_block (hga.block k (by have := h.size; omega) (fun e => hn k hk e.symm))
  have hr1 : W3.ownsRow (w.heap.size + 2) 3 1 v1 cl.length (cl.map vI) := h.r1.kept hga (rows_apart h.r1 h.r2 (by decide))
  have hset := grownBy_setCell W3 (w.heap.size + 1) 1 v'
  have hnX : ∀ {v : Value} {e n : Nat} {xs : List Value}, W3.ownsRow (w.heap.size + 2) e 1 v n xs → v.ownBlock = none ∨ v.ownBlock ≠ some (w.heap.size + 1) := fun hr => .inr fun e => by have := (hr.lt _ e).1; omega
  refine ⟨?_, ?_, ?_, ?_, ?_, ?_, ?_, hr1.kept hset (hnX hr1), ?_, ?_⟩
  · exact (h.below.grown hga h.below.size (fun k e => by have := hb k e; omega)).setCell (p := ⟨w.heap.size + 1, 1, none⟩) (by show w.heap.size ≤ w.heap.size + 1; omega) _
  · refine (World.cell?_setCell_other W3 ⟨w.heap.size + 1, 1, none⟩ ⟨w.heap.size + 1, 0, none⟩ v' (by simp)).trans ?_
    exact (ck _ 0 (by omega)).trans h.x0
  · exact cell_same _ ((ck _ 1 (by omega)).trans h.x1)
  · intro i; rw [World.frozen?_setCell]; exact (fk _ i (by omega)).trans (h.f i)
  · exact (World.cell?_of_block (Below.heap_setCell _ _ _ _ (by show w.heap.size ≠ w.heap.size + 1; omega))).trans ((ck _ 0 (by omega)).trans h.y0)
  · exact (World.cell?_of_block (Below.heap_setCell _ _ _ _ (by show w.heap.size ≠ w.heap.size + 1; omega))).trans ((ck _ 1 (by omega)).trans h.y1)
  · intro i; rw [World.frozen?_setCell]; exact (fk _ i (by omega)).trans (h.g i)
  · have := hown.kept hset (hnX hown)
    simpa using this
  · have h1 := h.size
    have h2 := hga.size
    have h3 : (W3.setCell ⟨w.heap.size + 1, 1, none⟩ v').heap.size = W3.heap.size := by simp [World.setCell]
    omega

/-- The case is handed over. -/
theorem PG.ret {w W : World} {v1 v2 : Value} {cl : List Int} {hl : List Bool} (h : PG w v1 v2 cl hl W) : ∃ W', (W.setCell ⟨w.heap.size, 0, none⟩ v1).setCell ⟨w.heap.size, 1, none⟩ v2 = W' ∧ W'.cell? ⟨w.heap.size, 0, none⟩ = some v1 ∧ W'.cell? ⟨w.heap.size, 1, none⟩ = some v2 ∧ Below w.heap.size w W' ∧
    W'.ownsRow (w.heap.size + 2) 3 1 v1 cl.length (cl.map vI) ∧ W'.ownsRow (w.heap.size + 2) 4 1 v2 hl.length (hl.map Value.bool) := by
  have hg : W.grownBy ((W.setCell ⟨w.heap.size, 0, none⟩ v1).setCell ⟨w.heap.size, 1, none⟩ v2) (some w.heap.size) := (grownBy_setCell W w.heap.size 0 v1).trans (grownBy_setCell _ w.heap.size 1 v2)
  refine ⟨_, rfl, ?_, ?_, ?_, h.r1.kept hg (.inr fun e => by have := (h.r1.lt _ e).1; omega), h.r2.kept hg (.inr fun e => by have := (h.r2.lt _ e).1; omega)⟩
  · refine (World.cell?_setCell_other _ ⟨w.heap.size, 1, none⟩ ⟨w.heap.size, 0, none⟩ v2 (by simp)).trans ?_
    exact cell_same _ h.y0
  · refine cell_same _ (u := .slice none 0 0) ?_
    exact (World.cell?_setCell_other _ ⟨w.heap.size, 0, none⟩ ⟨w.heap.size, 1, none⟩ v1 (by simp)).trans h.y1
  · exact (h.below.setCell (p := ⟨w.heap.size, 0, none⟩) (Nat.le_refl _) _).setCell (p := ⟨w.heap.size, 1, none⟩) (Nat.le_refl _) _

end Go.Proofs.YthcppbmkacbbiaaGreat

namespace Go.Proofs.YthcppbmkacbbiaaGreat
open Go.RowKit
open Rdg (St put cut clsOf hldOf)

attribute [local go_sem] Oper.semAt_some

theorem step_own_at {P : Program} {Q : Exit → Act → World → Prop} {o : Oper} {a : Act} {w : World} {K : Act → World → Prop} (s x : Operand) (t : TypeId) (hop : o.op = Op.call { callee := Callee.builtin Builtin.append, args := #[s, x], argTypes := #[t, t] })
    (base : Nat) (e : TypeId) (i : TypeInfo) (z : Value) (size bytes : Nat) (ht : P.underlying t = some (.slice e)) (hi : P.info? e = some i) (hz : i.zero = some z)
    (hsize : i.size = size) (hby : i.bytes = bytes) (hzs : z.cells.size = size) (hsz : 0 < size)
    (v : Value) (n : Nat) (xs : List Value) (hs : a.eval s = v) (hown : w.ownsRow base e size v n xs)
    (ad : Addr) (m c : Nat) (news : List Value) (hx : a.eval x = .slice (some ad) m c) (hl : news.length = m * size) (hnews : ∀ j u, news[j]? = some u → w.cell? (ad.add j) = some u) (h1 : ∀ u ∈ news, u.oneCell' = true)
    (h63 : n + m ≤ maxLen) (hbytes : (n + m) * bytes ≤ 140737488355328) (hbase : base ≤ w.heap.size)
    (hK : ∀ v' w', w'.ownsRow base e size v' (n + m) (xs ++ news) → w.grownBy w' v.ownBlock → K (a.put o.dst v') w') : Oper.wp P o a w K Q := by
  obtain ⟨v', w', hr, h2, h3, _, _⟩ := run_append_own_at (P := P) w base t o.type e i z size bytes ht hi hz hsize hby hzs hsz v n xs hown ad m c news hl hnews h1 h63 hbytes hbase
  unfold Oper.wp
  simp [execOp, hop, resolve, invoke, builtin, hs, hx, hr, Result.andThen]
  exact hK v' w' h2 h3

theorem wrap_small' {a : Int} (h0 : 0 ≤ a) (h1 : a ≤ 1000000) : IntKind.i64.wrap a = a := by
  simp [IntKind.wrap, IntKind.bits, IntKind.signed]
  omega

theorem clsOf_step {l : List UInt8} {k : Nat} {most : Int} {acc : List Int} {c : UInt8} (hk : k < l.length) (hc : l[k] = c) (h : clsOf l (-1) = (clsOf (l.drop k) most).map (acc ++ ·)) :
    clsOf l (-1) = if (c.toNat : Int) - 48 < 0 ∨ most + 1 < (c.toNat : Int) - 48 then none else (clsOf (l.drop (k + 1)) (max most ((c.toNat : Int) - 48))).map ((acc ++ [(c.toNat : Int) - 48]) ++ ·) := by
  rw [h, List.drop_eq_getElem_cons hk, hc]
  simp only [clsOf]
  split
  · rfl
  · rw [Option.map_map]
    congr 1
    funext x
    simp

theorem hldOf_step {l : List UInt8} {k : Nat} {acc : List Bool} {c : UInt8} (hk : k < l.length) (hc : l[k] = c) (h : hldOf l = (hldOf (l.drop k)).map (acc ++ ·)) :
    hldOf l = if c ≠ 48 ∧ c ≠ 49 then none else (hldOf (l.drop (k + 1))).map ((acc ++ [decide (c = 49)]) ++ ·) := by
  rw [h, List.drop_eq_getElem_cons hk, hc]
  simp only [hldOf]
  split
  · rfl
  · rw [Option.map_map]
    congr 1
    funext x
    simp

/-- What Parse gives, of the classes and the truths that it read. -/
def PR (w : World) (oc : Option (List Int)) (oh : Option (List Bool)) (e : Ending) (w' : World) : Prop :=
  Below w.heap.size w w' ∧ ∃ a1 n1 c1 a2 n2 c2 ok, e = .returned (.tuple #[.agg #[.slice a1 n1 c1, .slice a2 n2 c2], .bool ok]) ∧ match oc, oh with
    | some cl, some hl => ok = true ∧ w'.ownsRow (w.heap.size + 2) 3 1 (.slice a1 n1 c1) cl.length (cl.map vI) ∧ w'.ownsRow (w.heap.size + 2) 4 1 (.slice a2 n2 c2) hl.length (hl.map Value.bool)
    | _, _ => ok = false

theorem PR.no {w w' : World} {oc : Option (List Int)} {oh : Option (List Bool)} {a1 a2 : Option Addr} {n1 c1 n2 c2 : Nat} (hb : Below w.heap.size w w') (h : oc = none ∨ oh = none) : PR w oc oh (.returned (.tuple #[.agg #[.slice a1 n1 c1, .slice a2 n2 c2], .bool false])) w' := by
  refine ⟨hb, a1, n1, c1, a2, n2, c2, false, rfl, ?_⟩
  rcases h with rfl | rfl
  · trivial
  · cases oc <;> trivial

set_option linter.unusedSimpArgs false in
set_option maxRecDepth 100000 in
set_option maxHeartbeats 1000000 in
theorem parse_case (w : World) (B : Nat) (s : ByteArray) (v4 v5 : Value) (T C : List (List UInt8)) (hT : T.length ≤ 7) (hC : C.length ≤ 4) (c4 : w.cell? ⟨B, 4, none⟩ = some v4) (c5 : w.cell? ⟨B, 5, none⟩ = some v5) (r4 : w.ownsRow 0 9 1 v4 T.length (T.map str)) (r5 : w.ownsRow 0 9 1 v5 C.length (C.map str))
    (heq : s.size = T.length + 1 + C.length) (hlt : T.length < s.size) (hsl : s[T.length]'hlt = 47) :
    Calls Tryz.prog 59 #[.pointer (some ⟨B, 0, none⟩), .string s] w (PR w (clsOf (s.data.toList.take T.length) (-1)) (hldOf (s.data.toList.drop (T.length + 1)))) := by
  obtain ⟨a4, p4, e4⟩ := own_slice r4
  obtain ⟨a5, p5, e5⟩ := own_slice r5
  subst e4
  subst e5
  have hBlt : B < w.heap.size := World.block_lt_of_cell? w _ c4
  have hb : ((s.size : Int) != (T.length : Int) + 1 + (C.length : Int)) = false := by simp; omega
  have hlt' : (T.length : Int) < (s.size : Int) := by omega
  have hb2 : (((s[T.length]'hlt).toNat : Int) != 47) = false := by rw [hsl]; rfl
  have hBne : B ≠ w.heap.size := by omega
  have hBne2 : B ≠ w.heap.size + 1 := by omega
  have hB2 : B < w.heap.size + 1 := by omega
  have HEQ := hide heq
  have HSL := hide hsl
  have hsd : s.data.toList.length = s.size := by simp
  have HSD := hide hsd
  clear heq hsl hsd
  obtain ⟨i0, hin, hz0, hz1, hz2⟩ := info_parts infoI
  obtain ⟨j0, hjn, hy0, hy1, hy2⟩ := info_parts infoL
  go_enter Tryz.func59, Tryz.ntmps59
  go_wp2_with fail
  clear hb2
  obtain ⟨w0, hw0⟩ : ∃ w0, (w.alloc (.cells #[.slice none 0 0, .slice none 0 0] 118)).alloc (.cells #[.slice none 0 0, .slice none 0 0] 118) = w0 := ⟨_, rfl⟩
  have hP0 : PG w (.slice none 0 0) (.slice none 0 0) [] [] w0 := by
    rw [← hw0]
    exact ⟨two_below _ _ _, by simp [go_sem], by simp [go_sem], fun i => by simp [go_sem], by simp [go_sem], by simp [go_sem], fun i => by simp [go_sem], World.ownsRow_nil _ _ _ _, World.ownsRow_nil _ _ _ _, by simp⟩
  rw [hw0]
  clear hw0
  have HLT := hide hlt
  go_loopw [8, 9] (fun m i wr => ∃ (most : Int) (acc : List Int) (v1 : Value), acc.length ≤ T.length ∧ i = .int .i64 acc.length ∧ m = .int .i64 most ∧ -1 ≤ most ∧ most ≤ 300 ∧ PG w v1 (.slice none 0 0) acc [] wr ∧ Hid (clsOf (s.data.toList.take T.length) (-1) = (clsOf ((s.data.toList.take T.length).drop acc.length) most).map (acc ++ ·))) (fun _ i _ => T.length - (intOf i).toNat)
  case atStart => exact ⟨-1, [], _, Nat.zero_le _, rfl, rfl, by omega, by omega, hP0, hide (by simp)⟩
  case round =>
    obtain ⟨most, acc, v1, hk, rfl, rfl, hm0, hm1, hpg, hcl⟩ := hrel
    by_cases hlk : acc.length < T.length
    · have hbd : (acc.length : Int) < (T.length : Int) := by omega
      have hks : acc.length < s.size := by omega
      have hkt : (acc.length : Int) < (s.size : Int) := by omega
      have hkl : acc.length < (s.data.toList.take T.length).length := by rw [List.length_take, unhide HSD]; omega
      obtain ⟨bt, hbt⟩ : ∃ bt : UInt8, s[acc.length]'hks = bt := ⟨_, rfl⟩
      have hbk : (s.data.toList.take T.length)[acc.length]'hkl = bt := by
        rw [← hbt, List.getElem_take]
        simp [ByteArray.getElem_eq_getElem_data]
      have hst := clsOf_step hkl hbk (unhide hcl)
      have hbl : (bt.toNat : Int) < 256 := by have := bt.toNat_lt; omega
      have hbl0 : (0 : Int) ≤ (bt.toNat : Int) := by omega
      obtain ⟨b1, p1, e1⟩ := own_any hpg.r1
      subst e1
      obtain ⟨wz, hwz, z0, z1, zb, _, _⟩ := hpg.ret
      have HST := hide hst
      have HPG := hide hpg
      have q0 := hpg.x0
      have q1 := hpg.x1
      have q2 := hpg.f 0
      have t0 := hpg.y0
      have t1 := hpg.y1
      have t2 := hpg.g 0
      have t3 := hpg.g 1
      clear hst hcl hbk hpg
      by_cases h1 : (bt.toNat : Int) - 48 < 0
      · have HC := unhide HST
        rw [if_pos (Or.inl h1)] at HC
        have HC2 := hide HC
        clear HC HST
        go_wp2_with fail
        exact bodyPost_ret (v := .tuple #[.agg #[.slice b1 acc.length p1, .slice none 0 0], .bool false]) (by simp [results, Tryz.results59, go_sem, z0, z1]) rfl (PR.no zb (Or.inl (unhide HC2)))
      · by_cases h2 : most + 1 < (bt.toNat : Int) - 48
        · have HC := unhide HST
          rw [if_pos (Or.inr h2)] at HC
          have HC2 := hide HC
          clear HC HST
          go_wp2_with fail
          exact bodyPost_ret (v := .tuple #[.agg #[.slice b1 acc.length p1, .slice none 0 0], .bool false]) (by simp [results, Tryz.results59, go_sem, z0, z1]) rfl (PR.no zb (Or.inl (unhide HC2)))
        · have HC := unhide HST
          rw [if_neg (by omega)] at HC
          have HC2 := hide HC
          clear HC HST hwz z0 z1 zb
          by_cases h3 : most < (bt.toNat : Int) - 48
          · have hmx : max most ((bt.toNat : Int) - 48) = (bt.toNat : Int) - 48 := by omega
            rw [hmx] at HC2
            clear hmx
            go_wp2_with (at_builtin; refine wpList_append_own_at _ rfl _ _ 58 rfl (w.heap.size + 2) 3 i0 (.int .i64 0) 1 8 Tryz.underlying58 hin hz0 hz1 hz2 rfl (by decide) (.slice b1 acc.length p1) acc.length (acc.map vI) rfl (by exact World.ownsRow.alloc (by exact (unhide HPG).r1) _) ⟨wr.heap.size, 0, none⟩ 1 1 [vI ((bt.toNat : Int) - 48)] rfl rfl (newsI_at _ _ _ _ rfl) (oneI _) (by unfold maxLen; omega) (by omega) (by have := (unhide HPG).size; simp; omega) ?_; intro v' w3 hown hgrow hnil hloc; obtain ⟨b2, p2, hv2⟩ := own_any hown; subst hv2; have hP3 := (unhide HPG).one hown hgrow; obtain ⟨m1, m2⟩ := (unhide HPG).mid1 hgrow)
            go_wp2_with fail
            exact ⟨⟨(bt.toNat : Int) - 48, acc ++ [(bt.toNat : Int) - 48], _, by rw [List.length_append, List.length_singleton]; omega, by simp, rfl, by omega, by omega, hP3, hide (by simpa using unhide HC2)⟩, by simp [intOf]; omega⟩
          · have hmx : max most ((bt.toNat : Int) - 48) = most := by omega
            rw [hmx] at HC2
            clear hmx
            go_wp2_with (at_builtin; refine wpList_append_own_at _ rfl _ _ 58 rfl (w.heap.size + 2) 3 i0 (.int .i64 0) 1 8 Tryz.underlying58 hin hz0 hz1 hz2 rfl (by decide) (.slice b1 acc.length p1) acc.length (acc.map vI) rfl (by exact World.ownsRow.alloc (by exact (unhide HPG).r1) _) ⟨wr.heap.size, 0, none⟩ 1 1 [vI ((bt.toNat : Int) - 48)] rfl rfl (newsI_at _ _ _ _ rfl) (oneI _) (by unfold maxLen; omega) (by omega) (by have := (unhide HPG).size; simp; omega) ?_; intro v' w3 hown hgrow hnil hloc; obtain ⟨b2, p2, hv2⟩ := own_any hown; subst hv2; have hP3 := (unhide HPG).one hown hgrow; obtain ⟨m1, m2⟩ := (unhide HPG).mid1 hgrow)
            go_wp2_with fail
            exact ⟨⟨most, acc ++ [(bt.toNat : Int) - 48], _, by rw [List.length_append, List.length_singleton]; omega, by simp, rfl, by omega, by omega, hP3, hide (by simpa using unhide HC2)⟩, by simp [intOf]; omega⟩
    · have hkk : acc.length = T.length := by omega
      have hbd : ¬ (acc.length : Int) < (T.length : Int) := by omega
      have hcl2 : clsOf (s.data.toList.take T.length) (-1) = some acc := by
        rw [unhide hcl, List.drop_eq_nil_of_le (by rw [List.length_take]; omega)]
        simp [clsOf]
      have HCL := hide hcl2
      have HKK := hide hkk
      obtain ⟨b1, p1, e1⟩ := own_any hpg.r1
      subst e1
      have HPG := hide hpg
      clear hcl2 hcl hkk hpg
      go_wp2_with fail
      go_loopw [11] (fun i wr => ∃ (hac : List Bool) (v2 : Value), hac.length ≤ C.length ∧ i = .int .i64 ((T.length : Int) + 1 + (hac.length : Int)) ∧ PG w (.slice b1 acc.length p1) v2 acc hac wr ∧ Hid (hldOf (s.data.toList.drop (T.length + 1)) = (hldOf ((s.data.toList.drop (T.length + 1)).drop hac.length)).map (hac ++ ·))) (fun i _ => s.size - (intOf i).toNat)
      case atStart => exact ⟨[], _, Nat.zero_le _, by simp, unhide HPG, hide (by simp)⟩
      case round =>
        obtain ⟨hac, v2, hk2, rfl, hpg, hcl⟩ := hrel
        clear HPG
        have heq := unhide HEQ
        by_cases hlh : hac.length < C.length
        · have hbd2 : (T.length : Int) + 1 + (hac.length : Int) < (s.size : Int) := by omega
          have hks : T.length + 1 + hac.length < s.size := by omega
          have hkl : hac.length < (s.data.toList.drop (T.length + 1)).length := by rw [List.length_drop, unhide HSD]; omega
          obtain ⟨bt, hbt⟩ : ∃ bt : UInt8, s[T.length + 1 + hac.length]'hks = bt := ⟨_, rfl⟩
          have hbk : (s.data.toList.drop (T.length + 1))[hac.length]'hkl = bt := by
            rw [← hbt, List.getElem_drop]
            simp [ByteArray.getElem_eq_getElem_data]
          have hst := hldOf_step hkl hbk (unhide hcl)
          obtain ⟨b2, p2, e2⟩ := own_any hpg.r2
          subst e2
          obtain ⟨wz, hwz, z0, z1, zb, _, _⟩ := hpg.ret
          have HBY : Hid (∀ W : World, (Instr.index 9 (.string s) (.int .i64 ((T.length : Int) + 1 + (hac.length : Int)))).run Tryz.prog W = .ok (.int .u8 (bt.toNat : Int)) W) := fun W => by
            have hcast : ((T.length : Int) + 1 + (hac.length : Int)) = ((T.length + 1 + hac.length : Nat) : Int) := by omega
            rw [hcast, run_index_string (P := Tryz.prog) _ _ _ _ _ Tryz.underlying9, dif_pos ⟨by omega, by omega⟩, ← hbt]
            rfl
          have HST := hide hst
          have HPG2 := hide hpg
          have q0 := hpg.x0
          have q1 := hpg.x1
          have q2 := hpg.f 1
          have t0 := hpg.y0
          have t1 := hpg.y1
          have t2 := hpg.g 0
          have t3 := hpg.g 1
          have HEQ3 := hide heq
          clear hst hcl hbk hpg hbt heq
          by_cases h48 : bt = 48
          · subst h48
            have hby : ∀ W : World, (Instr.index 9 (.string s) (.int .i64 ((T.length : Int) + 1 + (hac.length : Int)))).run Tryz.prog W = .ok (.int .u8 48) W := unhide HBY
            have HC := unhide HST
            rw [if_neg (by decide)] at HC
            have HC2 := hide HC
            clear HC HST hwz z0 z1 zb
            go_wp2_with fail
            have hS0 : wr.drew.cell? ⟨w.heap.size + 1, 1, none⟩ = some (.slice b2 hac.length p2) := q1
            refine wp_region_any rfl (wpAny_of_last (S := fun W' => W'.cell? ⟨w.heap.size + 1, 1, none⟩ = some (.slice b2 hac.length p2)) (z := 9) _ _ _ _ ?_)
            simp only [List.size_toArray, List.length_cons, List.length_nil, Nat.reduceAdd, Array.replicate_succ, Array.replicate_zero, List.push_toArray, List.nil_append, List.cons_append]
            change wpAnyL Tryz.prog .any _ _ _ _ _ _ _ wr.drew
            refine wpAnyL_take (i := 0) (v := .pointer (some ⟨w.heap.size + 1, 1, none⟩)) rfl (by kernel_rfl) (by kernel_rfl) (by kernel_rfl) (by kernel_rfl) (fun _ _ _ h => h) (by rfl) (fun w' hS => ?_) hS0 ?_
            · go_simp
            simp only [List.getElem_toArray, List.getElem_cons_zero, List.getElem_cons_succ, Act.put, List.setIfInBounds_toArray, List.set_cons_zero, List.set_cons_succ]
            refine wpAnyL_take (i := 1) (v := .slice b2 hac.length p2) rfl (by kernel_rfl) (by kernel_rfl) (by kernel_rfl) (by kernel_rfl) (fun _ _ _ h => h) (by rfl) (fun w' hS => ?_) hS0 ?_
            · go_simp
            simp only [List.getElem_toArray, List.getElem_cons_zero, List.getElem_cons_succ, Act.put, List.setIfInBounds_toArray, List.set_cons_zero, List.set_cons_succ]
            refine wpAnyL_take (i := 2) (v := .string s) rfl (by kernel_rfl) (by kernel_rfl) (by kernel_rfl) (by kernel_rfl) (fun _ _ _ h => h) (by rfl) (fun w' hS => ?_) hS0 ?_
            · go_simp
            simp only [List.getElem_toArray, List.getElem_cons_zero, List.getElem_cons_succ, Act.put, List.setIfInBounds_toArray, List.set_cons_zero, List.set_cons_succ]
            refine wpAnyL_take (i := 3) (v := .int .i64 ((T.length : Int) + 1 + (hac.length : Int))) rfl (by kernel_rfl) (by kernel_rfl) (by kernel_rfl) (by kernel_rfl) (fun _ _ _ h => h) (by rfl) (fun w' hS => ?_) hS0 ?_
            · go_simp
            simp only [List.getElem_toArray, List.getElem_cons_zero, List.getElem_cons_succ, Act.put, List.setIfInBounds_toArray, List.set_cons_zero, List.set_cons_succ]
            refine wpAnyL_take (i := 4) (v := .int .u8 48) rfl (by kernel_rfl) (by kernel_rfl) (by kernel_rfl) (by kernel_rfl) (fun _ _ _ h => h) (by rfl) (fun w' hS => ?_) hS0 ?_
            · go_simp
            simp only [List.getElem_toArray, List.getElem_cons_zero, List.getElem_cons_succ, Act.put, List.setIfInBounds_toArray, List.set_cons_zero, List.set_cons_succ]
            refine wpAnyL_take (i := 5) (v := .bool false) rfl (by kernel_rfl) (by kernel_rfl) (by kernel_rfl) (by kernel_rfl) (fun _ _ _ h => h) (by rfl) (fun w' hS => ?_) hS0 ?_
            · go_simp
            simp only [List.getElem_toArray, List.getElem_cons_zero, List.getElem_cons_succ, Act.put, List.setIfInBounds_toArray, List.set_cons_zero, List.set_cons_succ]
            have hg4 : wr.drew.grownBy (wr.drew.alloc (.cells #[.bool false] 4)) none := World.grownBy_alloc _ _ none
            refine wpAnyL_one (i := 6) (by kernel_rfl) rfl (by rfl) (fun K hK => ?_)
            go_simp
            refine hK.out _ _ (fun _ => hg4.cell hS0 (by simp)) ?_
            clear hK K
            simp only [List.getElem_toArray, List.getElem_cons_zero, List.getElem_cons_succ, Act.put, List.setIfInBounds_toArray, List.set_cons_zero, List.set_cons_succ]
            refine wpAnyL_one (i := 7) (by kernel_rfl) rfl (by rfl) (fun K hK => ?_)
            refine step_own_at (.tmp 85) (.tmp 90) 103 rfl (w.heap.size + 2) 4 j0 (.bool false) 1 1 Tryz.underlying103 hjn hy0 hy1 hy2 rfl (by decide) (.slice b2 hac.length p2) hac.length (hac.map Value.bool) rfl (by exact World.ownsRow.alloc (by exact (unhide HPG2).r2) _) ⟨wr.heap.size, 0, none⟩ 1 1 [.bool false] rfl rfl (newsB_at _ _ _ _ rfl) (oneB _) (by unfold maxLen; omega) (by omega) (by have := (unhide HPG2).size; simp; omega) ?_
            intro v' w3 hown hgrow
            obtain ⟨b3, p3, hv3⟩ := own_any hown
            subst hv3
            have hPd : PG w (.slice b1 acc.length p1) (.slice b2 hac.length p2) acc hac wr.drew := (unhide HPG2).drew
            have hP3 := hPd.two hown hgrow
            obtain ⟨m1, m2⟩ := hPd.mid2 hgrow
            refine hK.out _ _ (fun _ => m1) ?_
            clear hK K
            simp only [List.getElem_toArray, List.getElem_cons_zero, List.getElem_cons_succ, Act.put, List.setIfInBounds_toArray, List.set_cons_zero, List.set_cons_succ]
            refine wpAnyL_one (i := 8) (by kernel_rfl) rfl (by rfl) (fun K hK => ?_)
            go_simp
            refine hK.out _ _ (fun _ => m1) ?_
            clear hK K
            simp only [List.getElem_toArray, List.getElem_cons_zero, List.getElem_cons_succ, Act.put, List.setIfInBounds_toArray, List.set_cons_zero, List.set_cons_succ]
            refine wpAnyL_one (i := 9) (by kernel_rfl) rfl (by rfl) (fun K hK => ?_)
            go_simp
            refine hK.out _ _ (fun h => absurd rfl h) (wpAnyL_done (by kernel_rfl) ?_ _)
            clear hK K
            have hw1 : IntKind.i64.wrap ((T.length : Int) + 1 + (hac.length : Int) + 1) = (T.length : Int) + 1 + (hac.length : Int) + 1 := wrap_small' (by omega) (by omega)
            go_wp2_with fail
            refine ⟨⟨hac ++ [false], _, by rw [List.length_append, List.length_singleton]; omega, by rw [List.length_append, List.length_singleton]; go_num, hP3, hide (by simpa using unhide HC2)⟩, ?_⟩
            have hss := unhide HEQ3
            simp [intOf]
            omega
          · by_cases h49 : bt = 49
            · subst h49
              have hby : ∀ W : World, (Instr.index 9 (.string s) (.int .i64 ((T.length : Int) + 1 + (hac.length : Int)))).run Tryz.prog W = .ok (.int .u8 49) W := unhide HBY
              have HC := unhide HST
              rw [if_neg (by decide)] at HC
              have HC2 := hide HC
              clear HC HST hwz z0 z1 zb
              go_wp2_with fail
              have hS0 : wr.drew.cell? ⟨w.heap.size + 1, 1, none⟩ = some (.slice b2 hac.length p2) := q1
              refine wp_region_any rfl (wpAny_of_last (S := fun W' => W'.cell? ⟨w.heap.size + 1, 1, none⟩ = some (.slice b2 hac.length p2)) (z := 9) _ _ _ _ ?_)
              simp only [List.size_toArray, List.length_cons, List.length_nil, Nat.reduceAdd, Array.replicate_succ, Array.replicate_zero, List.push_toArray, List.nil_append, List.cons_append]
              change wpAnyL Tryz.prog .any _ _ _ _ _ _ _ wr.drew
              refine wpAnyL_take (i := 0) (v := .pointer (some ⟨w.heap.size + 1, 1, none⟩)) rfl (by kernel_rfl) (by kernel_rfl) (by kernel_rfl) (by kernel_rfl) (fun _ _ _ h => h) (by rfl) (fun w' hS => ?_) hS0 ?_
              · go_simp
              simp only [List.getElem_toArray, List.getElem_cons_zero, List.getElem_cons_succ, Act.put, List.setIfInBounds_toArray, List.set_cons_zero, List.set_cons_succ]
              refine wpAnyL_take (i := 1) (v := .slice b2 hac.length p2) rfl (by kernel_rfl) (by kernel_rfl) (by kernel_rfl) (by kernel_rfl) (fun _ _ _ h => h) (by rfl) (fun w' hS => ?_) hS0 ?_
              · go_simp
              simp only [List.getElem_toArray, List.getElem_cons_zero, List.getElem_cons_succ, Act.put, List.setIfInBounds_toArray, List.set_cons_zero, List.set_cons_succ]
              refine wpAnyL_take (i := 2) (v := .string s) rfl (by kernel_rfl) (by kernel_rfl) (by kernel_rfl) (by kernel_rfl) (fun _ _ _ h => h) (by rfl) (fun w' hS => ?_) hS0 ?_
              · go_simp
              simp only [List.getElem_toArray, List.getElem_cons_zero, List.getElem_cons_succ, Act.put, List.setIfInBounds_toArray, List.set_cons_zero, List.set_cons_succ]
              refine wpAnyL_take (i := 3) (v := .int .i64 ((T.length : Int) + 1 + (hac.length : Int))) rfl (by kernel_rfl) (by kernel_rfl) (by kernel_rfl) (by kernel_rfl) (fun _ _ _ h => h) (by rfl) (fun w' hS => ?_) hS0 ?_
              · go_simp
              simp only [List.getElem_toArray, List.getElem_cons_zero, List.getElem_cons_succ, Act.put, List.setIfInBounds_toArray, List.set_cons_zero, List.set_cons_succ]
              refine wpAnyL_take (i := 4) (v := .int .u8 49) rfl (by kernel_rfl) (by kernel_rfl) (by kernel_rfl) (by kernel_rfl) (fun _ _ _ h => h) (by rfl) (fun w' hS => ?_) hS0 ?_
              · go_simp
              simp only [List.getElem_toArray, List.getElem_cons_zero, List.getElem_cons_succ, Act.put, List.setIfInBounds_toArray, List.set_cons_zero, List.set_cons_succ]
              refine wpAnyL_take (i := 5) (v := .bool true) rfl (by kernel_rfl) (by kernel_rfl) (by kernel_rfl) (by kernel_rfl) (fun _ _ _ h => h) (by rfl) (fun w' hS => ?_) hS0 ?_
              · go_simp
              simp only [List.getElem_toArray, List.getElem_cons_zero, List.getElem_cons_succ, Act.put, List.setIfInBounds_toArray, List.set_cons_zero, List.set_cons_succ]
              have hg4 : wr.drew.grownBy (wr.drew.alloc (.cells #[.bool true] 4)) none := World.grownBy_alloc _ _ none
              refine wpAnyL_one (i := 6) (by kernel_rfl) rfl (by rfl) (fun K hK => ?_)
              go_simp
              refine hK.out _ _ (fun _ => hg4.cell hS0 (by simp)) ?_
              clear hK K
              simp only [List.getElem_toArray, List.getElem_cons_zero, List.getElem_cons_succ, Act.put, List.setIfInBounds_toArray, List.set_cons_zero, List.set_cons_succ]
              refine wpAnyL_one (i := 7) (by kernel_rfl) rfl (by rfl) (fun K hK => ?_)
              refine step_own_at (.tmp 85) (.tmp 90) 103 rfl (w.heap.size + 2) 4 j0 (.bool false) 1 1 Tryz.underlying103 hjn hy0 hy1 hy2 rfl (by decide) (.slice b2 hac.length p2) hac.length (hac.map Value.bool) rfl (by exact World.ownsRow.alloc (by exact (unhide HPG2).r2) _) ⟨wr.heap.size, 0, none⟩ 1 1 [.bool true] rfl rfl (newsB_at _ _ _ _ rfl) (oneB _) (by unfold maxLen; omega) (by omega) (by have := (unhide HPG2).size; simp; omega) ?_
              intro v' w3 hown hgrow
              obtain ⟨b3, p3, hv3⟩ := own_any hown
              subst hv3
              have hPd : PG w (.slice b1 acc.length p1) (.slice b2 hac.length p2) acc hac wr.drew := (unhide HPG2).drew
              have hP3 := hPd.two hown hgrow
              obtain ⟨m1, m2⟩ := hPd.mid2 hgrow
              refine hK.out _ _ (fun _ => m1) ?_
              clear hK K
              simp only [List.getElem_toArray, List.getElem_cons_zero, List.getElem_cons_succ, Act.put, List.setIfInBounds_toArray, List.set_cons_zero, List.set_cons_succ]
              refine wpAnyL_one (i := 8) (by kernel_rfl) rfl (by rfl) (fun K hK => ?_)
              go_simp
              refine hK.out _ _ (fun _ => m1) ?_
              clear hK K
              simp only [List.getElem_toArray, List.getElem_cons_zero, List.getElem_cons_succ, Act.put, List.setIfInBounds_toArray, List.set_cons_zero, List.set_cons_succ]
              refine wpAnyL_one (i := 9) (by kernel_rfl) rfl (by rfl) (fun K hK => ?_)
              go_simp
              refine hK.out _ _ (fun h => absurd rfl h) (wpAnyL_done (by kernel_rfl) ?_ _)
              clear hK K
              have hw1 : IntKind.i64.wrap ((T.length : Int) + 1 + (hac.length : Int) + 1) = (T.length : Int) + 1 + (hac.length : Int) + 1 := wrap_small' (by omega) (by omega)
              go_wp2_with fail
              refine ⟨⟨hac ++ [true], _, by rw [List.length_append, List.length_singleton]; omega, by rw [List.length_append, List.length_singleton]; go_num, hP3, hide (by simpa using unhide HC2)⟩, ?_⟩
              have hss := unhide HEQ3
              simp [intOf]
              omega
            · have HC := unhide HST
              rw [if_pos ⟨h48, h49⟩] at HC
              have HC2 := hide HC
              have hby := unhide HBY
              have hn1 : ((bt.toNat : Int) != 48) = true := by have := byte_ne h48; simpa [bne] using this
              have hn2 : ((bt.toNat : Int) != 49) = true := by have := byte_ne h49; simpa [bne] using this
              clear HC HST
              go_wp2_with fail
              exact bodyPost_ret (v := .tuple #[.agg #[.slice b1 acc.length p1, .slice b2 hac.length p2], .bool false]) (by simp [results, Tryz.results59, go_sem, z0, z1]) rfl (PR.no zb (Or.inr (unhide HC2)))
        · have hlh2 : hac.length = C.length := by omega
          have hbd2 : ¬ (T.length : Int) + 1 + (hac.length : Int) < (s.size : Int) := by omega
          have hcl2 : hldOf (s.data.toList.drop (T.length + 1)) = some hac := by
            rw [unhide hcl, List.drop_eq_nil_of_le (by rw [List.length_drop, unhide HSD]; omega)]
            simp [hldOf]
          obtain ⟨b2, p2, e2⟩ := own_any hpg.r2
          subst e2
          obtain ⟨wz, hwz, z0, z1, zb, zr1, zr2⟩ := hpg.ret
          have HCL2 := hide hcl2
          have q0 := hpg.x0
          have q1 := hpg.x1
          have t0 := hpg.y0
          have t1 := hpg.y1
          have t2 := hpg.g 0
          have t3 := hpg.g 1
          have ZR1 := hide zr1
          have ZR2 := hide zr2
          clear hcl2 hcl hpg hlh2 heq zr1 zr2
          go_wp2_with fail
          refine bodyPost_ret (v := .tuple #[.agg #[.slice b1 acc.length p1, .slice b2 hac.length p2], .bool true]) (by simp [results, Tryz.results59, go_sem, z0, z1]) rfl ⟨zb, _, _, _, _, _, _, true, rfl, ?_⟩
          rw [unhide HCL, unhide HCL2]
          exact ⟨rfl, unhide ZR1, unhide ZR2⟩

end Go.Proofs.YthcppbmkacbbiaaGreat

namespace Go.Proofs.YthcppbmkacbbiaaGreat
open Go.RowKit
open Rdg (St put cut clsOf hldOf)

theorem row_cs {W : World} {base e n : Nat} {v : Value} {xs : List Value} (h : W.ownsRow base e 1 v n xs) : ∃ a c, v = .slice a n c ∧ (0 < n → ∃ g, a = some ⟨g, 0, none⟩ ∧ g < W.heap.size ∧ ∀ j, j < n → W.cell? ⟨g, j, none⟩ = xs[j]?) := by
  obtain ⟨a, c, rfl⟩ := own_any h
  refine ⟨a, c, rfl, fun h0 => ?_⟩
  rcases h.2 with ⟨h1, h2⟩ | ⟨g, cap, cur, h1, _⟩
  · omega
  · injection h1 with h2 _ _
    subst h2
    exact ⟨g, rfl, (h.lt g rfl).2, fun j hj => h.cellAt j (by omega)⟩

theorem cs_of {W : World} {base : Nat} {k1 k2 : Value} {cl : List Int} {hl : List Bool} (h1 : W.ownsRow base 3 1 k1 cl.length (cl.map vI)) (h2 : W.ownsRow base 4 1 k2 hl.length (hl.map Value.bool)) : CS W W.heap.size k1 k2 cl hl := by
  obtain ⟨a1, c1, e1, f1⟩ := row_cs h1
  obtain ⟨a2, c2, e2, f2⟩ := row_cs h2
  refine ⟨⟨a1, c1, e1, fun h0 => ?_⟩, a2, c2, e2, fun h0 => ?_⟩
  · obtain ⟨g, r1, r2, r3⟩ := f1 h0
    exact ⟨g, r1, r2, fun j hj => by rw [r3 j hj]; simp [hj, vI]⟩
  · obtain ⟨g, r1, r2, r3⟩ := f2 h0
    exact ⟨g, r1, r2, fun j hj => by rw [r3 j hj]; simp [hj]⟩

/-- What Parse gives. -/
theorem parse_any (w : World) (B : Nat) (s : ByteArray) (v4 v5 : Value) (T C : List (List UInt8)) (hT : T.length ≤ 7) (hC : C.length ≤ 4) (hm : s.size ≤ maxLen) (c4 : w.cell? ⟨B, 4, none⟩ = some v4) (c5 : w.cell? ⟨B, 5, none⟩ = some v5) (r4 : w.ownsRow 0 9 1 v4 T.length (T.map str)) (r5 : w.ownsRow 0 9 1 v5 C.length (C.map str)) :
    Calls Tryz.prog 59 #[.pointer (some ⟨B, 0, none⟩), .string s] w fun e w' => Below w.heap.size w w' ∧ ∃ a1 n1 c1 a2 n2 c2 ok, e = .returned (.tuple #[.agg #[.slice a1 n1 c1, .slice a2 n2 c2], .bool ok]) ∧ ok = (Rdg.parse T.length C.length s.data.toList).isSome ∧ ∀ cl hl, Rdg.parse T.length C.length s.data.toList = some (cl, hl) → CS w' w'.heap.size (.slice a1 n1 c1) (.slice a2 n2 c2) cl hl := by
  have hsd : s.data.toList.length = s.size := by simp
  by_cases heq : s.size = T.length + 1 + C.length
  · have hlt : T.length < s.size := by omega
    have hgd : s.data.toList.getD T.length 0 = s[T.length]'hlt := by
      have h1 : T.length < s.data.toList.length := by rw [hsd]; exact hlt
      rw [List.getD_eq_getElem?_getD, List.getElem?_eq_getElem h1]
      simp [ByteArray.getElem_eq_getElem_data]
    by_cases hsl : s[T.length]'hlt = 47
    · refine (parse_case w B s v4 v5 T C hT hC c4 c5 r4 r5 heq hlt hsl).mono ?_
      rintro e w' ⟨hb, a1, n1, c1, a2, n2, c2, ok, he, hk⟩
      have hp : Rdg.parse T.length C.length s.data.toList = match clsOf (s.data.toList.take T.length) (-1) with | none => none | some cl => (hldOf (s.data.toList.drop (T.length + 1))).map fun hl => (cl, hl) := by
        unfold Rdg.parse
        rw [if_neg (by rw [hsd, hgd, hsl]; simp [heq])]
        rfl
      refine ⟨hb, a1, n1, c1, a2, n2, c2, ok, he, ?_⟩
      rw [hp]
      cases h1 : clsOf (s.data.toList.take T.length) (-1) with
      | none => rw [h1] at hk; exact ⟨hk, fun _ _ e => by cases e⟩
      | some cl =>
        cases h2 : hldOf (s.data.toList.drop (T.length + 1)) with
        | none => rw [h1, h2] at hk; exact ⟨hk, fun _ _ e => by cases e⟩
        | some hl =>
          rw [h1, h2] at hk
          obtain ⟨q1, q2, q3⟩ := hk
          exact ⟨q1, fun _ _ e => by cases e; exact cs_of q2 q3⟩
    · refine (parse_slash w B s v4 v5 T C hT hC c4 c5 r4 r5 heq hlt hsl).mono ?_
      rintro e w' ⟨⟨a1, n1, c1, a2, n2, c2, he⟩, hb⟩
      have hp : Rdg.parse T.length C.length s.data.toList = none := by
        unfold Rdg.parse
        rw [if_pos (Or.inr (by rw [hgd]; exact hsl))]
      rw [hp]
      exact ⟨hb, a1, n1, c1, a2, n2, c2, false, he, rfl, fun _ _ e => by cases e⟩
  · refine (parse_len w B s v4 v5 T C hT hC hm c4 c5 r4 r5 heq).mono ?_
    rintro e w' ⟨⟨a1, n1, c1, a2, n2, c2, he⟩, hb⟩
    have hp : Rdg.parse T.length C.length s.data.toList = none := by
      unfold Rdg.parse
      rw [if_pos (Or.inl (by rw [hsd]; exact heq))]
    rw [hp]
    exact ⟨hb, a1, n1, c1, a2, n2, c2, false, he, rfl, fun _ _ e => by cases e⟩

theorem clsOf_length : ∀ (l : List UInt8) (m : Int) (cl : List Int), clsOf l m = some cl → cl.length = l.length
  | [], _, cl, h => by simp [clsOf] at h; subst h; rfl
  | c :: r, m, cl, h => by
    simp only [clsOf] at h
    split at h
    · cases h
    · obtain ⟨x, h1, rfl⟩ := Option.map_eq_some_iff.1 h
      simp [clsOf_length r _ x h1]
theorem hldOf_length : ∀ (l : List UInt8) (hl : List Bool), hldOf l = some hl → hl.length = l.length
  | [], hl, h => by simp [hldOf] at h; subst h; rfl
  | c :: r, hl, h => by
    simp only [hldOf] at h
    split at h
    · cases h
    · obtain ⟨x, h1, rfl⟩ := Option.map_eq_some_iff.1 h
      simp [hldOf_length r x h1]

theorem parse_length {n c : Nat} {l : List UInt8} {cl : List Int} {hl : List Bool} (h : Rdg.parse n c l = some (cl, hl)) : cl.length = n ∧ hl.length = c ∧ l.length = n + 1 + c := by
  unfold Rdg.parse at h
  split at h
  · cases h
  · rename_i h0
    have h0' : l.length = n + 1 + c := by
      rcases Nat.lt_trichotomy l.length (n + 1 + c) with h1 | h1 | h1
      · exact absurd (Or.inl (by omega)) h0
      · exact h1
      · exact absurd (Or.inl (by omega)) h0
    split at h
    · cases h
    · rename_i x hx
      obtain ⟨y, hy, e⟩ := Option.map_eq_some_iff.1 h
      cases e
      have h1 := clsOf_length _ _ _ hx
      have h2 := hldOf_length _ _ hy
      rw [List.length_take] at h1
      rw [List.length_drop] at h2
      exact ⟨by omega, by omega, h0'⟩

end Go.Proofs.YthcppbmkacbbiaaGreat

namespace Go.Proofs.YthcppbmkacbbiaaGreat
open Rdg (Key put St InvP pvs)

/-- The document's truth of a right formula is its last piece's. -/
theorem tru_last (s : ByteArray) (cl : List Int) (hl : List Bool) (ts : List Key) (cs : List (Int × Nat)) (ps : List Key) (m : Nat) (h : Rdg.rdP (pk s) (s.size + 1) 0 0 [] [] [] = .ok (s.size, ts, cs, ps, m)) : tru s cl hl = (pvs cl hl ps).getD m false := by
  have hl' : s.data.toList.length = s.size := by simp
  have h0 : Rdg.Inv ([] : List Key) := Rdg.inv_nil
  have hv := Rdg.val_formula (cl := cl) (hl := hl) (l := s.data.toList) (s.size + 1) 0 0 [] [] [] (Nat.zero_le _) (by omega) h0 (fun x hx => absurd hx (by simp)) ⟨List.nodup_nil, fun i hi => absurd hi (by simp)⟩
  rw [← pk_pkl, h] at hv
  unfold tru
  exact hv

end Go.Proofs.YthcppbmkacbbiaaGreat
