import Derived.Test.YthcppbmkacbbiaaGreatPrs
namespace Go.Proofs.YthcppbmkacbbiaaGreat
open Go.RowKit Go.Maps Go.WideMaps
open Rdg (Key put)

theorem run_makeMap_hint {P : Program} {t k e : TypeId} (hu : P.underlying t = some (.map k e)) (q : IntKind) (z : Int) (w : World) : (Instr.makeMap t (some (.int q z))).run P w = .ok (.map (some w.heap.size)) (w.alloc (.map #[] 0)) := by
  simp [Instr.makeMap, run_underlying hu, asInt]
  rfl

def kvI (x : Nat) : Value := .int .i64 x
def kvB (x : UInt8) : Value := .int .u8 x.toNat
theorem kvI_inj {a b : Nat} (h : kvI a = kvI b) : a = b := by simp [kvI] at h; omega
theorem kvB_inj {a b : UInt8} (h : kvB a = kvB b) : a = b := by
  simp [kvB] at h
  exact UInt8.toNat_inj.1 (by omega)
theorem lawB : Keyed Tryz.prog 5 := int_keyed Tryz.underlying5
theorem keyB (x : UInt8) : keyOf Tryz.prog 5 (kvB x) = some (.int .u8 x.toNat) := by
  have hw : (Lit.int .u8 x.toNat).wf = true := WalkArith.wf_u8 (by have := UInt8.toNat_lt x; omega)
  simp [keyOf, mapKey, kvB, Tryz.underlying5, hw]

/-- Rows of keys. -/
def RowsT (w : World) (G : Nat) (ts : List Key) : Prop := G < w.heap.size ∧ ∀ i (hi : i < ts.length), w.cell? ⟨G, i * 3, none⟩ = some (.int .u8 ts[i].1) ∧ w.cell? ⟨G, i * 3 + 1, none⟩ = some (.int .i64 ts[i].2.1) ∧ w.cell? ⟨G, i * 3 + 2, none⟩ = some (.int .i64 ts[i].2.2)
def RowsC (w : World) (G : Nat) (cs : List (Int × Nat)) : Prop := G < w.heap.size ∧ ∀ i (hi : i < cs.length), w.cell? ⟨G, i * 2, none⟩ = some (.int .u8 cs[i].1) ∧ w.cell? ⟨G, i * 2 + 1, none⟩ = some (.int .i64 cs[i].2)
def RowsI (w : World) (G : Nat) (ks : List Nat) : Prop := G < w.heap.size ∧ ∀ i (hi : i < ks.length), w.cell? ⟨G, i, none⟩ = some (.int .i64 ks[i])
def RowsB (w : World) (G : Nat) (ks : List UInt8) : Prop := G < w.heap.size ∧ ∀ i (hi : i < ks.length), w.cell? ⟨G, i, none⟩ = some (.int .u8 ks[i].toNat)

theorem RowsT.below {w w' : World} {b G : Nat} {ts : List Key} (h : RowsT w G ts) (hb : Below b w w') (hlt : G < b) : RowsT w' G ts :=
  ⟨Nat.lt_of_lt_of_le h.1 hb.size, fun i hi => ⟨(hb.cell (p := ⟨G, _, none⟩) hlt).trans (h.2 i hi).1, (hb.cell (p := ⟨G, _, none⟩) hlt).trans (h.2 i hi).2.1, (hb.cell (p := ⟨G, _, none⟩) hlt).trans (h.2 i hi).2.2⟩⟩
theorem RowsC.below {w w' : World} {b G : Nat} {cs : List (Int × Nat)} (h : RowsC w G cs) (hb : Below b w w') (hlt : G < b) : RowsC w' G cs :=
  ⟨Nat.lt_of_lt_of_le h.1 hb.size, fun i hi => ⟨(hb.cell (p := ⟨G, _, none⟩) hlt).trans (h.2 i hi).1, (hb.cell (p := ⟨G, _, none⟩) hlt).trans (h.2 i hi).2⟩⟩
theorem RowsI.below {w w' : World} {b G : Nat} {ks : List Nat} (h : RowsI w G ks) (hb : Below b w w') (hlt : G < b) : RowsI w' G ks :=
  ⟨Nat.lt_of_lt_of_le h.1 hb.size, fun i hi => (hb.cell (p := ⟨G, _, none⟩) hlt).trans (h.2 i hi)⟩
theorem RowsB.below {w w' : World} {b G : Nat} {ks : List UInt8} (h : RowsB w G ks) (hb : Below b w w') (hlt : G < b) : RowsB w' G ks :=
  ⟨Nat.lt_of_lt_of_le h.1 hb.size, fun i hi => (hb.cell (p := ⟨G, _, none⟩) hlt).trans (h.2 i hi)⟩
theorem RowsT.same {w w' : World} {G : Nat} {ts : List Key} (h : RowsT w G ts) (hb : w'.heap[G]? = w.heap[G]?) : RowsT w' G ts :=
  ⟨by have h1 := h.1; rw [Array.getElem?_eq_getElem h1] at hb; exact (Array.getElem?_eq_some_iff.1 hb).1, fun i hi => ⟨(World.cell?_of_block hb).trans (h.2 i hi).1, (World.cell?_of_block hb).trans (h.2 i hi).2.1, (World.cell?_of_block hb).trans (h.2 i hi).2.2⟩⟩
theorem RowsC.same {w w' : World} {G : Nat} {cs : List (Int × Nat)} (h : RowsC w G cs) (hb : w'.heap[G]? = w.heap[G]?) : RowsC w' G cs :=
  ⟨by have h1 := h.1; rw [Array.getElem?_eq_getElem h1] at hb; exact (Array.getElem?_eq_some_iff.1 hb).1, fun i hi => ⟨(World.cell?_of_block hb).trans (h.2 i hi).1, (World.cell?_of_block hb).trans (h.2 i hi).2⟩⟩
theorem RowsI.same {w w' : World} {G : Nat} {ks : List Nat} (h : RowsI w G ks) (hb : w'.heap[G]? = w.heap[G]?) : RowsI w' G ks :=
  ⟨by have h1 := h.1; rw [Array.getElem?_eq_getElem h1] at hb; exact (Array.getElem?_eq_some_iff.1 hb).1, fun i hi => (World.cell?_of_block hb).trans (h.2 i hi)⟩
theorem RowsB.same {w w' : World} {G : Nat} {ks : List UInt8} (h : RowsB w G ks) (hb : w'.heap[G]? = w.heap[G]?) : RowsB w' G ks :=
  ⟨by have h1 := h.1; rw [Array.getElem?_eq_getElem h1] at hb; exact (Array.getElem?_eq_some_iff.1 hb).1, fun i hi => (World.cell?_of_block hb).trans (h.2 i hi)⟩

end Go.Proofs.YthcppbmkacbbiaaGreat
