import Derived.Test.YthcppbmkacbbiaaGreatTruM
import Derived.Test.YthcppbmkacbbiaaGreatAlkTM
import Derived.Test.YthcppbmkacbbiaaGreatBld
import Derived.Laws.IdiomStrings
import Derived.Deep.OwnRows
namespace Go.Proofs.YthcppbmkacbbiaaGreat
open Go.RowKit Go.Maps Go.WideMaps
open Rdg (Key put okPc pv1 jn isJoint pvs InvP)

/-- The classes met among the first k terms. -/
def nums (f : Nat → Nat) : Nat → List Nat
  | 0 => []
  | k + 1 => put (nums f k) (f k)

/-- The digits of the first k terms. -/
def dgs (f : Nat → Nat) (k : Nat) : List UInt8 := (List.range k).map fun t => UInt8.ofNat (48 + (nums f t).idxOf (f t))

def bits (hl : List Bool) : List UInt8 := hl.map fun b => if b then 49 else 48

/-- A case, as it is written. -/
def wrt (f : Nat → Nat) (n : Nat) (hl : List Bool) : List UInt8 := dgs f n ++ [47] ++ bits hl

theorem builder_grown {T e B b m : Nat} {bs : List Value} {w w' : World} (h : Lib.IsBuilderF T e B b bs w) (hg : w.grownBy w' (some m)) (hm : m ≠ b) (hc : ∃ o : Obj, w.heap[m]? = some o ∧ ∀ c t fz, o ≠ .cells c t fz) : Lib.IsBuilderF T e B b bs w' := by
  have key : ∀ p, Lib.BuilderAtF T e B b p bs w → Lib.BuilderAtF T e B b p bs w' := by
    rintro p ⟨hB, v, hb, hown, hne⟩
    have hlt : b < w.heap.size := (Array.getElem?_eq_some_iff.1 hb).1
    refine ⟨hB, v, (hg.block b hlt (fun e => hm (Option.some.inj e).symm)).trans hb, hown.kept hg (Or.inr fun e => ?_), hne⟩
    obtain ⟨c, fz, h1⟩ := Lib.ownsRowF_kind hown m e
    obtain ⟨o, h2, h3⟩ := hc
    rw [h1] at h2
    exact h3 _ _ _ (Option.some.inj h2).symm
  exact h.elim (fun x => .inl (key _ x)) (fun x => .inr (key _ x))

theorem MapIs.obj {w : World} {k b : Nat} {kv : Nat → Value} {ts : List Nat} (h : MapIs w k b kv ts) : ∃ o : Obj, w.heap[b]? = some o ∧ ∀ c t fz, o ≠ .cells c t fz := by
  obtain ⟨D, ⟨es, clock, h1, h2⟩, h3⟩ := h
  exact ⟨_, h1, fun _ _ _ e => by cases e⟩

theorem nums_length (f : Nat → Nat) : ∀ k, (nums f k).length ≤ k
  | 0 => Nat.le_refl _
  | k + 1 => by
    have h := nums_length f k
    unfold nums put
    split
    · omega
    · simp; omega

theorem dgs_succ (f : Nat → Nat) (k : Nat) : dgs f (k + 1) = dgs f k ++ [UInt8.ofNat (48 + (nums f k).idxOf (f k))] := by
  simp [dgs, List.range_succ]

/-- What lies while a case is written. -/
structure WG (w : World) (b H nh : Nat) (acc : List UInt8) (l : List Nat) (W : World) : Prop where
  bld : Lib.IsBuilderF 217 5 w.heap.size (w.heap.size + 1 + 1) (Lib.byteCells acc) W
  s : W.heap[w.heap.size + 1]? = some (.cells #[.map (some b), .slice (some ⟨H, 0, none⟩) nh nh] 105 (0, 0))
  m : MapIs W 3 (w.heap.size + 1 + 1 + 1) kvI l
  below : Below w.heap.size w W

theorem WG.x0 {w W : World} {b H nh : Nat} {acc : List UInt8} {l : List Nat} (h : WG w b H nh acc l W) : W.cell? ⟨w.heap.size + 1, 0, none⟩ = some (.map (some b)) := by
  rw [Lib.cell_of_heap h.s]; rfl
theorem WG.x1 {w W : World} {b H nh : Nat} {acc : List UInt8} {l : List Nat} (h : WG w b H nh acc l W) : W.cell? ⟨w.heap.size + 1, 1, none⟩ = some (.slice (some ⟨H, 0, none⟩) nh nh) := by
  rw [Lib.cell_of_heap h.s]; rfl

/-- A byte is written. -/
theorem WG.write {w W W' : World} {b H nh : Nat} {acc : List UInt8} {l : List Nat} {x : UInt8} (h : WG w b H nh acc l W)
    (h1 : Lib.BuilderAtF 217 5 w.heap.size (w.heap.size + 1 + 1) (.pointer (some ⟨w.heap.size + 1 + 1, 0, none⟩)) (Lib.byteCells acc ++ [.int .u8 x.toNat]) W') (h2 : Below w.heap.size W W') (h3 : Lib.OthersKept 5 (some (w.heap.size + 1 + 1)) W W') : WG w b H nh (acc ++ [x]) l W' where
  bld := by rw [Lib.byteCells_append]; exact Or.inr h1
  s := h3 _ _ h.s (by simp) (fun c fz e => by cases e)
  m := by
    obtain ⟨o, h4, h5⟩ := h.m.obj
    exact h.m.kept ((h3 _ _ h4 (by simp) (fun c fz => h5 c _ fz)).trans h4.symm)
  below := h.below.trans h2

/-- A number is asked for. -/
theorem WG.ask {w W W' : World} {b H nh x : Nat} {acc : List UInt8} {l : List Nat} (h : WG w b H nh acc l W) (h1 : MapIs W' 3 (w.heap.size + 1 + 1 + 1) kvI (put l x)) (h2 : W.grownBy W' (some (w.heap.size + 1 + 1 + 1))) : WG w b H nh acc (put l x) W' where
  bld := builder_grown h.bld h2 (by omega) h.m.obj
  s := (h2.block _ (Array.getElem?_eq_some_iff.1 h.s).1 (by simp)).trans h.s
  m := h1
  below := h.below.grown h2 h.below.size (fun k e => by cases e; omega)

theorem WG.call {w W : World} {b H nh : Nat} {acc : List UInt8} {l : List Nat} (h : WG w b H nh acc l W) (x : UInt8) (c : Int) (hc : c = x.toNat) (hl : acc.length ≤ 100) :
    Calls Tryz.prog 138 #[.pointer (some ⟨w.heap.size + 1 + 1, 0, none⟩), .int .u8 c] W fun e W' => e = .returned .nilIface ∧ WG w b H nh (acc ++ [x]) l W' := by
  subst hc
  refine (Tryz.bWrite w.heap.size (w.heap.size + 1 + 1) _ _ W h.bld (by rw [Lib.byteCells_length]; omega) h.below.size).mono ?_
  rintro e W' ⟨rfl, h1, h2, h3⟩
  exact ⟨rfl, h.write h1 h2 h3⟩

set_option linter.unusedSimpArgs false in
set_option maxRecDepth 100000 in
set_option maxHeartbeats 2000000 in
theorem written_any (GT GC GP nt nc np b c H : Nat) (f : Nat → Nat) (hl : List Bool) (w : World) (h7 : nt ≤ 7) (h4 : hl.length ≤ 4) (hf : ∀ i, i < nt → f i ≤ i ∧ f (f i) = f i) (hM : CMap w b f nt c) (hH : RowsH w H hl) :
    Calls Tryz.prog 89 #[fv GT GC GP nt nc np, sv b H hl.length] w fun e w' => e = .returned (.string ⟨(wrt f nt hl).toArray⟩) ∧ Below w.heap.size w w' := by
  unfold fv sv
  have hmm := @run_makeMap Tryz.prog
  obtain ⟨w0, hw0⟩ : ∃ w0, (((w.alloc (.cells #[.slice (some ⟨GT, 0, none⟩) nt nt, .slice (some ⟨GC, 0, none⟩) nc nc, .slice (some ⟨GP, 0, none⟩) np np] 54)).alloc (.cells #[.map (some b), .slice (some ⟨H, 0, none⟩) hl.length hl.length] 105)).alloc (.cells #[.pointer none, .slice none 0 0] 217)).alloc (.map #[] 0) = w0 := ⟨_, rfl⟩
  have hW0 : WG w b H hl.length [] [] w0 := by
    rw [← hw0]
    have hsz : ((w.alloc (.cells #[.slice (some ⟨GT, 0, none⟩) nt nt, .slice (some ⟨GC, 0, none⟩) nc nc, .slice (some ⟨GP, 0, none⟩) np np] 54)).alloc (.cells #[.map (some b), .slice (some ⟨H, 0, none⟩) hl.length hl.length] 105)).heap.size = w.heap.size + 1 + 1 := by simp
    refine ⟨?_, ?_, ?_, ?_⟩
    · have h := Lib.fresh_isBuilder 217 5 ((w.alloc (.cells #[.slice (some ⟨GT, 0, none⟩) nt nt, .slice (some ⟨GC, 0, none⟩) nc nc, .slice (some ⟨GP, 0, none⟩) np np] 54)).alloc (.cells #[.map (some b), .slice (some ⟨H, 0, none⟩) hl.length hl.length] 105))
      rw [hsz] at h
      have h2 : Lib.IsBuilderF 217 5 (w.heap.size + 1 + 1) (w.heap.size + 1 + 1) [] _ := Lib.IsBuilderF.of h
      have h3 : Lib.IsBuilderF 217 5 w.heap.size (w.heap.size + 1 + 1) [] (((w.alloc (.cells #[.slice (some ⟨GT, 0, none⟩) nt nt, .slice (some ⟨GC, 0, none⟩) nc nc, .slice (some ⟨GP, 0, none⟩) np np] 54)).alloc (.cells #[.map (some b), .slice (some ⟨H, 0, none⟩) hl.length hl.length] 105)).alloc (.cells #[.pointer none, .slice none 0 0] 217)) := by
        refine Or.inl ⟨by omega, .slice none 0 0, ?_, ⟨by simp, .inl ⟨rfl, rfl⟩⟩, by simp [Value.ownBlock]⟩
        rw [← hsz]; exact heap_alloc_new _ _
      exact h3.alloc _
    · rw [Below.heap_alloc _ _ _ (by simp), Below.heap_alloc _ _ _ (by simp)]
      have h := heap_alloc_new (w.alloc (.cells #[.slice (some ⟨GT, 0, none⟩) nt nt, .slice (some ⟨GC, 0, none⟩) nc nc, .slice (some ⟨GP, 0, none⟩) np np] 54)) (.cells #[.map (some b), .slice (some ⟨H, 0, none⟩) hl.length hl.length] 105)
      simpa using h
    · have h := mapIs_made (((w.alloc (.cells #[.slice (some ⟨GT, 0, none⟩) nt nt, .slice (some ⟨GC, 0, none⟩) nc nc, .slice (some ⟨GP, 0, none⟩) np np] 54)).alloc (.cells #[.map (some b), .slice (some ⟨H, 0, none⟩) hl.length hl.length] 105)).alloc (.cells #[.pointer none, .slice none 0 0] 217)) 3 kvI
      have e : (((w.alloc (.cells #[.slice (some ⟨GT, 0, none⟩) nt nt, .slice (some ⟨GC, 0, none⟩) nc nc, .slice (some ⟨GP, 0, none⟩) np np] 54)).alloc (.cells #[.map (some b), .slice (some ⟨H, 0, none⟩) hl.length hl.length] 105)).alloc (.cells #[.pointer none, .slice none 0 0] 217)).heap.size = w.heap.size + 1 + 1 + 1 := by simp
      rw [e] at h
      exact h
    · exact ((((Below.refl _ _).alloc (Nat.le_refl _) _).alloc (by simp) _).alloc (by simp; omega) _).alloc (by simp; omega) _
  have HW := hide hw0
  have hc0 : w0.cell? ⟨w.heap.size, 0, none⟩ = some (.slice (some ⟨GT, 0, none⟩) nt nt) := by rw [← hw0]; simp [go_sem]
  have hlM := hM.lt
  have hlH := hH.1
  have HM := hide hM
  have HH := hide hH
  have HF := hide hf
  clear hM hH hf hw0
  go_enter Tryz.func89, Tryz.ntmps89
  go_wp2_with fail
  rw [unhide HW]
  go_loopw [14] (fun i wr => ∃ k : Nat, k ≤ nt ∧ i = .int .i64 k ∧ WG w b H hl.length (dgs f k) (nums f k) wr) (fun i _ => nt - (intOf i).toNat)
  case atStart => exact ⟨0, Nat.zero_le _, rfl, hW0⟩
  case round =>
    obtain ⟨k, hk, rfl, hwg⟩ := hrel
    by_cases hlt : k < nt
    · have hbd : (k : Int) < (nt : Int) := by omega
      have hx0 := hwg.x0
      have hof := of_any wr b nt c f k ((unhide HM).kept (hwg.below.block b hlM)) hlt (by omega) (unhide HF k hlt).1 (unhide HF k hlt).2
      have hnl := nums_length f k
      have hfk : f k ≤ 1000 := Nat.le_trans (unhide HF k hlt).1 (by omega)
      have hnum := numI_any (w.heap.size + 1 + 1 + 1) (nums f k) (f k) wr hfk (by omega) hwg.m
      have hds := dgs_succ f k
      have hdl : (dgs f k).length ≤ 100 := by simp [dgs]; omega
      have hns : nums f (k + 1) = put (nums f k) (f k) := rfl
      have hil : (nums f k).idxOf (f k) ≤ 7 := Nat.le_trans List.idxOf_le_length (by omega)
      have HD := hide hds
      have HN := hide hns
      have HWG := hide hwg
      have HDL := hide hdl
      have HNUM := hide hnum
      clear hwg hns hds hnl hdl hnum
      generalize (nums f k).idxOf (f k) = ix at HD HNUM hil
      generalize f k = fk at hof HN HNUM
      go_wp2_with fail
      refine hof.mono ?_
      rintro e w1 ⟨rfl, rfl⟩
      go_wp2_with fail
      refine (unhide HNUM).mono ?_
      rintro e w2 ⟨rfl, hm2, hg2⟩
      have hwg2 := (unhide HWG).ask hm2 hg2
      go_wp2_with fail
      refine (hwg2.call (UInt8.ofNat (48 + ix)) (48 + ix) (by simp [UInt8.toNat_ofNat']; omega) (unhide HDL)).mono ?_
      rintro e w3 ⟨rfl, hwg3⟩
      go_wp2_with fail
      exact ⟨⟨k + 1, hlt, by go_num, by rw [unhide HD, unhide HN]; exact hwg3⟩, by simp [intOf]; omega⟩
    · have hkk : k = nt := by omega
      subst hkk
      have hbd : ¬ (k : Int) < (k : Int) := by omega
      have hdl : (dgs f k).length ≤ 100 := by simp [dgs]; omega
      have HWG := hide hwg
      have HDL := hide hdl
      clear hwg hdl
      go_wp2_with fail
      refine ((unhide HWG).call 47 47 rfl (unhide HDL)).mono ?_
      rintro e w1 ⟨rfl, hwg1⟩
      have hx1 := hwg1.x1
      have HWG1 := hide hwg1
      clear hwg1
      go_wp2_with fail
      go_loopw [31] (fun i wr => ∃ j : Nat, j ≤ hl.length ∧ i = .int .i64 j ∧ WG w b H hl.length (dgs f k ++ [47] ++ bits (hl.take j)) (nums f k) wr) (fun i _ => hl.length - (intOf i).toNat)
      case atStart => exact ⟨0, Nat.zero_le _, rfl, by simpa [bits] using unhide HWG1⟩
      case round =>
        obtain ⟨j, hj, rfl, hwg⟩ := hrel
        by_cases hjt : j < hl.length
        · have hjd : (j : Int) < (hl.length : Int) := by omega
          have hcj := ((unhide HH).same (hwg.below.block H hlH)).2 j hjt
          have hbl : (dgs f k ++ [47] ++ bits (hl.take j)).length ≤ 100 := by rw [List.length_append, List.length_append, bits, List.length_map, List.length_take, dgs, List.length_map, List.length_range, List.length_singleton]; omega
          have hbs : bits (hl.take (j + 1)) = bits (hl.take j) ++ [if hl[j] then 49 else 48] := by unfold bits; rw [List.take_add_one, List.getElem?_eq_getElem hjt, List.map_append]; rfl
          have HBS := hide hbs
          have HWG := hide hwg
          have HBL := hide hbl
          clear hwg hbl hbs
          generalize hl[j] = bj at hcj HBS
          cases bj
          · go_wp2_with fail
            refine ((unhide HWG).call 48 48 rfl (unhide HBL)).mono ?_
            rintro e w3 ⟨rfl, hwg3⟩
            go_wp2_with fail
            exact ⟨⟨j + 1, hjt, by go_num, by rw [unhide HBS, ← List.append_assoc]; exact hwg3⟩, by simp [intOf]; omega⟩
          · go_wp2_with fail
            refine ((unhide HWG).call 49 49 rfl (unhide HBL)).mono ?_
            rintro e w3 ⟨rfl, hwg3⟩
            go_wp2_with fail
            exact ⟨⟨j + 1, hjt, by go_num, by rw [unhide HBS, ← List.append_assoc]; exact hwg3⟩, by simp [intOf]; omega⟩
        · have hjj : j = hl.length := by omega
          subst hjj
          have hjd : ¬ (hl.length : Int) < (hl.length : Int) := by omega
          have hbs := Tryz.bString w.heap.size (w.heap.size + 1 + 1) _ wr hwg.bld hwg.below.size
          have hbw := hwg.below
          have e1 : dgs f k ++ [47] ++ bits (hl.take hl.length) = wrt f k hl := by rw [List.take_length]; rfl
          rw [e1] at hbs
          clear hwg e1
          go_wp2_with fail
          refine hbs.mono ?_
          rintro e w3 ⟨rfl, _, hb3, _⟩
          have hb4 := hbw.trans hb3
          go_wp2_with fail
          go_ret
          exact ⟨rfl, hb4⟩

end Go.Proofs.YthcppbmkacbbiaaGreat

namespace Go.Proofs.YthcppbmkacbbiaaGreat
open Go.RowKit Go.Maps Go.WideMaps
open Rdg (Key put okPc pv1 jn isJoint pvs InvP)

attribute [local go_sem] Oper.semAt_some

/-- What has been laid so far for a case: the text's bytes, the classes, the truths, the case. -/
structure Inv4 (w0 : World) (keys : List UInt8) (nc : Nat) (o3 o4 o6 o8 : Option Nat) (W : World) : Prop where
  below : Below w0.heap.size w0 W
  i3 : ∀ G, o3 = some G → w0.heap.size ≤ G ∧ RowsB W G keys
  i4 : ∀ b, o4 = some b → w0.heap.size ≤ b ∧ CMap W b (fi keys) keys.length 100
  i6 : ∀ H, o6 = some H → w0.heap.size ≤ H ∧ W.heap[H]? = some (.cells (madeCells #[.bool false] nc) 4)
  i8 : ∀ X, o8 = some X → w0.heap.size ≤ X ∧ W.heap[X]? = some (.cells #[.map none, .slice none 0 0] 105)

theorem Inv4.grow {w0 : World} {keys : List UInt8} {nc : Nat} {o3 o4 o6 o8 : Option Nat} {W W' : World} (h : Inv4 w0 keys nc o3 o4 o6 o8 W) (hb : Below W.heap.size W W') : Inv4 w0 keys nc o3 o4 o6 o8 W' where
  below := h.below.trans ⟨hb.os, hb.tape, hb.output, hb.size, fun j hj => hb.block j (Nat.lt_of_lt_of_le hj h.below.size)⟩
  i3 := fun G e => ⟨(h.i3 G e).1, (h.i3 G e).2.same (hb.block G (h.i3 G e).2.1)⟩
  i4 := fun b e => ⟨(h.i4 b e).1, (h.i4 b e).2.kept (hb.block b (h.i4 b e).2.lt)⟩
  i6 := fun H e => ⟨(h.i6 H e).1, (hb.block H (Array.getElem?_eq_some_iff.1 (h.i6 H e).2).1).trans (h.i6 H e).2⟩
  i8 := fun X e => ⟨(h.i8 X e).1, (hb.block X (Array.getElem?_eq_some_iff.1 (h.i8 X e).2).1).trans (h.i8 X e).2⟩

theorem cell_other' {w : World} {p q : Addr} {v : Value} (h : p ≠ q) : (w.setCell p v).cell? q = w.cell? q := by
  apply World.cell?_setCell_other; exact h

theorem below_alloc_one (W : World) (o : Obj) : Below W.heap.size W (W.alloc o) := (Below.refl _ _).alloc (Nat.le_refl _) _

theorem Inv4.s8 {w0 : World} {keys : List UInt8} {nc : Nat} {o3 o4 o6 : Option Nat} {W : World} (h : Inv4 w0 keys nc o3 o4 o6 none W) : Inv4 w0 keys nc o3 o4 o6 (some W.heap.size) (W.alloc (.cells #[.map none, .slice none 0 0] 105)) := by
  have h2 := h.grow (below_alloc_one W (.cells #[.map none, .slice none 0 0] 105))
  exact ⟨h2.below, h2.i3, h2.i4, h2.i6, fun X e => by cases e; exact ⟨h.below.size, heap_alloc_new _ _⟩⟩

theorem Inv4.s6 {w0 : World} {keys : List UInt8} {nc : Nat} {o3 o4 o8 : Option Nat} {W : World} (h : Inv4 w0 keys nc o3 o4 none o8 W) : Inv4 w0 keys nc o3 o4 (some W.heap.size) o8 (W.alloc (.cells (madeCells #[.bool false] nc) 4)) := by
  have h2 := h.grow (below_alloc_one W (.cells (madeCells #[.bool false] nc) 4))
  exact ⟨h2.below, h2.i3, h2.i4, fun X e => (by cases e; exact ⟨h.below.size, heap_alloc_new _ _⟩), h2.i8⟩

theorem Inv4.s3 {w0 : World} {t : ByteArray} {nc cap : Nat} {o6 o8 : Option Nat} {W : World} {fz : Nat × Nat} (h : Inv4 w0 t.data.toList nc none none o6 o8 W) : Inv4 w0 t.data.toList nc (some W.heap.size) none o6 o8 (W.drew.alloc (.cells (bytesRow t cap) 5 fz)) := by
  have hb : Below W.heap.size W (W.drew.alloc (.cells (bytesRow t cap) 5 fz)) := ((Below.refl _ W).drew).alloc (Nat.le_refl _) _
  have h2 := h.grow hb
  refine ⟨h2.below, fun G e => ?_, fun b e => (by cases e), h2.i6, h2.i8⟩
  cases e
  have hn : (W.drew.alloc (.cells (bytesRow t cap) 5 fz)).heap[W.heap.size]? = some (.cells (bytesRow t cap) 5 fz) := heap_alloc_new W.drew _
  refine ⟨h.below.size, (Array.getElem?_eq_some_iff.1 hn).1, fun i hi => ?_⟩
  rw [Lib.cell_of_heap hn]
  have hi2 : i < t.data.size := by simpa using hi
  have h3 := bytesRow_at t cap i hi2
  simpa using h3

theorem Inv4.s4 {w0 : World} {keys : List UInt8} {nc b G : Nat} {o6 o8 : Option Nat} {W W' : World} (h : Inv4 w0 keys nc (some G) none o6 o8 W) (hb : Below W.heap.size W W') (h1 : W.heap.size ≤ b) (h2 : CMap W' b (fi keys) keys.length 100) : Inv4 w0 keys nc (some G) (some b) o6 o8 W' := by
  have h3 := h.grow hb
  exact ⟨h3.below, h3.i3, fun c e => (by cases e; exact ⟨Nat.le_trans h.below.size h1, h2⟩), h3.i6, h3.i8⟩

set_option linter.unusedSimpArgs false in
set_option maxRecDepth 100000 in
set_option maxHeartbeats 2000000 in
theorem situation_len (GT GC GP nt nc np : Nat) (s : ByteArray) (w : World) (h7 : nt ≤ 7) (h4 : nc ≤ 4) (hs : s.size ≠ nt + 1 + nc) :
    Calls Tryz.prog 54 #[fv GT GC GP nt nc np, .string s] w fun e w' => e = .returned (.tuple #[.agg #[.map none, .slice none 0 0], .bool false]) ∧ Below w.heap.size w w' := by
  unfold fv
  go_enter Tryz.func54, Tryz.ntmps54
  go_wp2_with fail
  obtain ⟨w0, hw0⟩ : ∃ w0, (w.alloc (.cells #[.slice (some ⟨GT, 0, none⟩) nt nt, .slice (some ⟨GC, 0, none⟩) nc nc, .slice (some ⟨GP, 0, none⟩) np np] 54)).alloc (.cells #[.map none, .slice none 0 0] 105) = w0 := ⟨_, rfl⟩
  have hb0 : Below w.heap.size w w0 := by rw [← hw0]; exact two_below _ _ _
  have hz0 : w0.heap.size = w.heap.size + 2 := by rw [← hw0]; simp
  have hk0 : w0.cell? ⟨w.heap.size, 0, none⟩ = some (.slice (some ⟨GT, 0, none⟩) nt nt) := by rw [← hw0]; simp [go_sem]
  have hk1 : w0.cell? ⟨w.heap.size, 1, none⟩ = some (.slice (some ⟨GC, 0, none⟩) nc nc) := by rw [← hw0]; simp [go_sem]
  have hk2 : w0.cell? ⟨w.heap.size, 2, none⟩ = some (.slice (some ⟨GP, 0, none⟩) np np) := by rw [← hw0]; simp [go_sem]
  have hr0 : w0.cell? ⟨w.heap.size + 1, 0, none⟩ = some (.map none) := by rw [← hw0]; simp [go_sem]
  have hr1 : w0.cell? ⟨w.heap.size + 1, 1, none⟩ = some (.slice none 0 0) := by rw [← hw0]; simp [go_sem]
  have hq0 : w0.frozen? ⟨w.heap.size + 1, 0, none⟩ = false := by rw [← hw0]; simp [go_sem]
  have hq1 : w0.frozen? ⟨w.heap.size + 1, 1, none⟩ = false := by rw [← hw0]; simp [go_sem]
  rw [hw0]
  clear hw0
  have hS0 : w0.drew.cell? ⟨w.heap.size, 0, none⟩ = some (.slice (some ⟨GT, 0, none⟩) nt nt) ∧ w0.drew.cell? ⟨w.heap.size, 1, none⟩ = some (.slice (some ⟨GC, 0, none⟩) nc nc) := ⟨hk0, hk1⟩
  refine wp_region_held (S := fun W' => W'.cell? ⟨w.heap.size, 0, none⟩ = some (.slice (some ⟨GT, 0, none⟩) nt nt) ∧ W'.cell? ⟨w.heap.size, 1, none⟩ = some (.slice (some ⟨GC, 0, none⟩) nc nc)) rfl ?_
  simp only [List.size_toArray, List.length_cons, List.length_nil, Nat.reduceAdd, Array.replicate_succ, Array.replicate_zero, List.push_toArray, List.nil_append, List.cons_append]
  change wpAnyH Tryz.prog .any _ _ _ _ _ _ w0.drew
  refine wpAnyH_take (i := 0) (v := .pointer (some ⟨w.heap.size, 0, none⟩)) rfl (by kernel_rfl) (by kernel_rfl) (by kernel_rfl) (fun _ _ _ h => h) (Or.inl ⟨by rfl, fun w' hS => ?_⟩) hS0 ?_
  · obtain ⟨s1, s2⟩ := hS
    go_simp
  simp only [List.getElem_toArray, List.getElem_cons_zero, List.getElem_cons_succ, Act.put, List.setIfInBounds_toArray, List.set_cons_zero, List.set_cons_succ]
  refine wpAnyH_take (i := 1) (v := .slice (some ⟨GT, 0, none⟩) nt nt) rfl (by kernel_rfl) (by kernel_rfl) (by kernel_rfl) (fun _ _ _ h => h) (Or.inl ⟨by rfl, fun w' hS => ?_⟩) hS0 ?_
  · obtain ⟨s1, s2⟩ := hS
    go_simp
  simp only [List.getElem_toArray, List.getElem_cons_zero, List.getElem_cons_succ, Act.put, List.setIfInBounds_toArray, List.set_cons_zero, List.set_cons_succ]
  refine wpAnyH_take (i := 2) (v := .int .i64 nt) rfl (by kernel_rfl) (by kernel_rfl) (by kernel_rfl) (fun _ _ _ h => h) (Or.inl ⟨by rfl, fun w' hS => ?_⟩) hS0 ?_
  · obtain ⟨s1, s2⟩ := hS
    go_simp
  simp only [List.getElem_toArray, List.getElem_cons_zero, List.getElem_cons_succ, Act.put, List.setIfInBounds_toArray, List.set_cons_zero, List.set_cons_succ]
  refine wpAnyH_take (i := 3) (v := .pointer (some ⟨w.heap.size, 1, none⟩)) rfl (by kernel_rfl) (by kernel_rfl) (by kernel_rfl) (fun _ _ _ h => h) (Or.inl ⟨by rfl, fun w' hS => ?_⟩) hS0 ?_
  · obtain ⟨s1, s2⟩ := hS
    go_simp
  simp only [List.getElem_toArray, List.getElem_cons_zero, List.getElem_cons_succ, Act.put, List.setIfInBounds_toArray, List.set_cons_zero, List.set_cons_succ]
  refine wpAnyH_take (i := 4) (v := .slice (some ⟨GC, 0, none⟩) nc nc) rfl (by kernel_rfl) (by kernel_rfl) (by kernel_rfl) (fun _ _ _ h => h) (Or.inl ⟨by rfl, fun w' hS => ?_⟩) hS0 ?_
  · obtain ⟨s1, s2⟩ := hS
    go_simp
  simp only [List.getElem_toArray, List.getElem_cons_zero, List.getElem_cons_succ, Act.put, List.setIfInBounds_toArray, List.set_cons_zero, List.set_cons_succ]
  refine wpAnyH_take (i := 5) (v := .int .i64 nc) rfl (by kernel_rfl) (by kernel_rfl) (by kernel_rfl) (fun _ _ _ h => h) (Or.inl ⟨by rfl, fun w' hS => ?_⟩) hS0 ?_
  · obtain ⟨s1, s2⟩ := hS
    go_simp
  simp only [List.getElem_toArray, List.getElem_cons_zero, List.getElem_cons_succ, Act.put, List.setIfInBounds_toArray, List.set_cons_zero, List.set_cons_succ]
  refine wpAnyH_one (i := 6) (by kernel_rfl) rfl (by rfl) (fun K hK => ?_)
  go_simp
  refine hK.out _ _ hS0 ?_
  clear hK K
  simp only [List.getElem_toArray, List.getElem_cons_zero, List.getElem_cons_succ, Act.put, List.setIfInBounds_toArray, List.set_cons_zero, List.set_cons_succ]
  refine wpAnyH_one (i := 7) (by kernel_rfl) rfl (by rfl) (fun K hK => ?_)
  go_simp
  refine hK.out _ _ hS0 (wpAnyH_done (by kernel_rfl) ?_ _)
  clear hK K hS0
  have hne : decide ((s.size : Int) = (nt : Int) + 1 + (nc : Int)) = false := by simp; omega
  have hne2 : ¬ ((s.size : Int) = (nt : Int) + 1 + (nc : Int)) := by omega
  have hd0 : w0.drew.cell? ⟨w.heap.size + 1, 0, none⟩ = some (.map none) := hr0
  have hd1 : w0.drew.cell? ⟨w.heap.size + 1, 1, none⟩ = some (.slice none 0 0) := hr1
  have he0 : w0.drew.frozen? ⟨w.heap.size + 1, 0, none⟩ = false := hq0
  have he1 : w0.drew.frozen? ⟨w.heap.size + 1, 1, none⟩ = false := hq1
  go_wp2_with fail
  obtain ⟨wz, hwz⟩ : ∃ wz, ((w0.setCell ⟨w.heap.size + 1, 0, none⟩ (Value.map none)).setCell ⟨w.heap.size + 1, 1, none⟩ (Value.slice none 0 0)).drew = wz := ⟨_, rfl⟩
  have z0 : wz.cell? ⟨w.heap.size + 1, 0, none⟩ = some (.map none) := by
    rw [← hwz]
    show ((w0.setCell ⟨w.heap.size + 1, 0, none⟩ (Value.map none)).setCell ⟨w.heap.size + 1, 1, none⟩ (Value.slice none 0 0)).cell? _ = _
    rw [cell_other' (by simp)]
    exact cell_same _ hr0
  have z1 : wz.cell? ⟨w.heap.size + 1, 1, none⟩ = some (.slice none 0 0) := by
    rw [← hwz]
    show ((w0.setCell ⟨w.heap.size + 1, 0, none⟩ (Value.map none)).setCell ⟨w.heap.size + 1, 1, none⟩ (Value.slice none 0 0)).cell? _ = _
    exact cell_same _ ((cell_other' (by simp)).trans hr1)
  have zb : Below w.heap.size w wz := by
    rw [← hwz]
    exact ((hb0.setCell (p := ⟨w.heap.size + 1, 0, none⟩) (by show w.heap.size ≤ w.heap.size + 1; omega) _).setCell (p := ⟨w.heap.size + 1, 1, none⟩) (by show w.heap.size ≤ w.heap.size + 1; omega) _).drew
  rw [hwz]
  exact bodyPost_ret (v := .tuple #[.agg #[.map none, .slice none 0 0], .bool false]) (by simp [results, Tryz.results54, go_sem, z0, z1]) rfl ⟨rfl, zb⟩


end Go.Proofs.YthcppbmkacbbiaaGreat
