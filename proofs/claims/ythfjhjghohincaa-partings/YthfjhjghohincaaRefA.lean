import Derived.Test.YthfjhjghohincaaRefO
import Derived.Test.YthfjhjghohincaaRefB
import Derived.Maps.AppendAt
import Derived.Lib.Strings
namespace Go.Proofs.Ythfjhjghohincaa
open Go.RowKit
open Rdg (St put)

theorem infoS : (Try.prog.info? 9).map (fun i => (i.zero, i.size, i.bytes)) = some (some (.string ⟨#[]⟩), 1, 16) := by kernel_rfl

theorem ext_str (s : ByteArray) (x y : Nat) : Value.string (s.extract x y) = str (Rdg.cut s.data.toList x y) := by
  unfold str Rdg.cut
  rw [← Lib.extract_data]

theorem str_one (t : List UInt8) : ∀ u ∈ [str t], u.oneCell' = true := by
  intro u hu
  simp at hu
  subst hu
  rfl

section
variable {w : World} {B : Nat} {s : ByteArray} {σ : St} {on : Bool} {k1 k2 : Value}

theorem own_ne {v4 v5 : Value} {W : Nat} (hb : ∀ k, v5.ownBlock = some k → k < W) (hne : v4.ownBlock = none ∨ v5.ownBlock = none ∨ v4.ownBlock ≠ v5.ownBlock) {v' : Value} (hl : v'.ownBlock = v4.ownBlock ∨ v'.ownBlock = some W) :
    v'.ownBlock = none ∨ v5.ownBlock = none ∨ v'.ownBlock ≠ v5.ownBlock := by
  rcases hl with e | e
  · rw [e]; exact hne
  · right
    cases h5 : v5.ownBlock with
    | none => exact Or.inl rfl
    | some k => right; rw [e]; intro e'; cases e'; exact absurd (hb _ h5) (Nat.lt_irrefl _)

/-- Behind an append to the terms: the reader with one term more. -/
theorem RI.app4 (h : RI w B s σ on k1 k2) {v4 v5 : Value} (r1 : w.cell? ⟨B, 4, none⟩ = some v4) (r2 : w.cell? ⟨B, 5, none⟩ = some v5) (r3 : w.ownsRow (B + 1) 9 1 v4 σ.T.length (σ.T.map str))
    (r4 : w.ownsRow (B + 1) 9 1 v5 σ.C.length (σ.C.map str)) (r5 : v4.ownBlock = none ∨ v5.ownBlock = none ∨ v4.ownBlock ≠ v5.ownBlock)
    {t : List UInt8} {o : Obj} {v' : Value} {w1 : World} (hown : w1.ownsRow (B + 1) 9 1 v' (σ.T.length + 1) (σ.T.map str ++ [str t])) (hg : (w.alloc o).grownBy w1 v4.ownBlock) (hl : v'.ownBlock = v4.ownBlock ∨ v'.ownBlock = some (w.alloc o).heap.size) :
    RI (w1.setCell ⟨B, 4, none⟩ v') B s { σ with T := σ.T ++ [t] } on k1 k2 ∧ Below B w (w1.setCell ⟨B, 4, none⟩ v') := by
  have hlt := h.lt
  have hge : ∀ k, v4.ownBlock = some k → B + 1 ≤ k := fun k e => (r3.lt k e).1
  have hBne : some B ≠ v4.ownBlock := fun e => by have := hge B e.symm; omega
  have hga := (World.grownBy_alloc w o v4.ownBlock).trans hg
  have hb : ∀ i, w1.cell? ⟨B, i, none⟩ = w.cell? ⟨B, i, none⟩ := fun i => World.cell?_of_block (hga.block B hlt hBne)
  have hf : ∀ i, w1.frozen? ⟨B, i, none⟩ = w.frozen? ⟨B, i, none⟩ := fun i => World.frozen?_of_block (hga.block B hlt hBne)
  have hc : ∀ i, i ≠ 4 → (w1.setCell ⟨B, 4, none⟩ v').cell? ⟨B, i, none⟩ = w.cell? ⟨B, i, none⟩ := fun i hi => (cell_other _ _ _ (Ne.symm hi)).trans (hb i)
  refine ⟨⟨(hc 0 (by omega)).trans h.c0, (hc 1 (by omega)).trans h.c1, (hc 2 (by omega)).trans h.c2, (hc 3 (by omega)).trans h.c3, (hc 6 (by omega)).trans h.c6, (hc 7 (by omega)).trans h.c7, (hc 8 (by omega)).trans h.c8,
    fun i => by rw [World.frozen?_setCell, hf]; exact h.fz i, v', v5, cell_same _ ((hb 4).trans r1), (hc 5 (by omega)).trans r2, ?_, ?_, ?_⟩, ?_⟩
  · have := row_set hown (a := ⟨B, 4, none⟩) (Nat.lt_succ_self _) v'
    simpa using this
  · refine row_set ?_ (Nat.lt_succ_self _) v'
    refine World.ownsRow.kept (r4.alloc o) hg ?_
    rcases r5 with e | e | e
    · cases h5 : v5.ownBlock with
      | none => exact Or.inl rfl
      | some k => right; rw [e]; simp
    · exact Or.inl e
    · exact Or.inr (Ne.symm e)
  · exact own_ne (fun k e => by have := (r4.lt k e).2; simp; omega) r5 hl
  · exact ((Below.refl B w).grown hga (Nat.le_of_lt hlt) (fun k e => by have := hge k e; omega)).trans (below_set _ _ _ _)

/-- Behind an append to the claims. -/
theorem RI.app5 (h : RI w B s σ on k1 k2) {v4 v5 : Value} (r1 : w.cell? ⟨B, 4, none⟩ = some v4) (r2 : w.cell? ⟨B, 5, none⟩ = some v5) (r3 : w.ownsRow (B + 1) 9 1 v4 σ.T.length (σ.T.map str))
    (r4 : w.ownsRow (B + 1) 9 1 v5 σ.C.length (σ.C.map str)) (r5 : v4.ownBlock = none ∨ v5.ownBlock = none ∨ v4.ownBlock ≠ v5.ownBlock)
    {t : List UInt8} {o : Obj} {v' : Value} {w1 : World} (hown : w1.ownsRow (B + 1) 9 1 v' (σ.C.length + 1) (σ.C.map str ++ [str t])) (hg : (w.alloc o).grownBy w1 v5.ownBlock) (hl : v'.ownBlock = v5.ownBlock ∨ v'.ownBlock = some (w.alloc o).heap.size) :
    RI (w1.setCell ⟨B, 5, none⟩ v') B s { σ with C := σ.C ++ [t] } on k1 k2 ∧ Below B w (w1.setCell ⟨B, 5, none⟩ v') := by
  have hlt := h.lt
  have hge : ∀ k, v5.ownBlock = some k → B + 1 ≤ k := fun k e => (r4.lt k e).1
  have hBne : some B ≠ v5.ownBlock := fun e => by have := hge B e.symm; omega
  have hga := (World.grownBy_alloc w o v5.ownBlock).trans hg
  have hb : ∀ i, w1.cell? ⟨B, i, none⟩ = w.cell? ⟨B, i, none⟩ := fun i => World.cell?_of_block (hga.block B hlt hBne)
  have hf : ∀ i, w1.frozen? ⟨B, i, none⟩ = w.frozen? ⟨B, i, none⟩ := fun i => World.frozen?_of_block (hga.block B hlt hBne)
  have hc : ∀ i, i ≠ 5 → (w1.setCell ⟨B, 5, none⟩ v').cell? ⟨B, i, none⟩ = w.cell? ⟨B, i, none⟩ := fun i hi => (cell_other _ _ _ (Ne.symm hi)).trans (hb i)
  have r5' : v5.ownBlock = none ∨ v4.ownBlock = none ∨ v5.ownBlock ≠ v4.ownBlock := by
    rcases r5 with e | e | e
    · exact Or.inr (Or.inl e)
    · exact Or.inl e
    · exact Or.inr (Or.inr (Ne.symm e))
  refine ⟨⟨(hc 0 (by omega)).trans h.c0, (hc 1 (by omega)).trans h.c1, (hc 2 (by omega)).trans h.c2, (hc 3 (by omega)).trans h.c3, (hc 6 (by omega)).trans h.c6, (hc 7 (by omega)).trans h.c7, (hc 8 (by omega)).trans h.c8,
    fun i => by rw [World.frozen?_setCell, hf]; exact h.fz i, v4, v', (hc 4 (by omega)).trans r1, cell_same _ ((hb 5).trans r2), ?_, ?_, ?_⟩, ?_⟩
  · refine row_set ?_ (Nat.lt_succ_self _) v'
    refine World.ownsRow.kept (r3.alloc o) hg ?_
    rcases r5' with e | e | e
    · cases h5 : v4.ownBlock with
      | none => exact Or.inl rfl
      | some k => right; rw [e]; simp
    · exact Or.inl e
    · exact Or.inr (Ne.symm e)
  · have := row_set hown (a := ⟨B, 5, none⟩) (Nat.lt_succ_self _) v'
    simpa using this
  · rcases own_ne (fun k e => by have := (r3.lt k e).2; simp; omega) r5' hl with e | e | e
    · exact Or.inr (Or.inl e)
    · exact Or.inl e
    · exact Or.inr (Or.inr (Ne.symm e))
  · exact ((Below.refl B w).grown hga (Nat.le_of_lt hlt) (fun k e => by have := hge k e; omega)).trans (below_set _ _ _ _)
end

end Go.Proofs.Ythfjhjghohincaa
