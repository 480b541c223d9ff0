import Derived.Test.YthfjhjghohincaaNum
import Derived.Test.YthfjhjghohincaaSeq
import Derived.Shelf.Abstract
import Derived.Shelf.RegionOpen
import Derived.OwnWalkIn
import Derived.TacticsInMore
import Derived.LoopNIn
import Derived.LoopIn
import Derived.Sort.MapsRangeIn
import Derived.Maps.OwnIn
namespace Go.Proofs.Ythfjhjghohincaa
open Go.RowKit Go.Maps Go.WideMaps
open Rdg (Key put)

/-- A key of whatever numbers. -/
def mkT (x : Int × Int × Int) : Value := .agg #[.int .u8 x.1, .int .i64 x.2.1, .int .i64 x.2.2]
def mkC (x : Int × Int) : Value := .agg #[.int .u8 x.1, .int .i64 x.2]

theorem keyLits_int {P : Program} {t : TypeId} {q : IntKind} (hu : P.underlying t = some (.int q)) {d : Nat} {v : Value} {ls : List Lit} (h : P.keyLits d t [v] = some ls) : ∃ a, v = .int q a := by
  cases d with
  | zero => simp [Program.keyLits] at h
  | succ d =>
    unfold Program.keyLits at h
    rw [hu] at h
    cases v <;> simp at h
    exact ⟨_, by rw [h.1.1]⟩

theorem keyOf_struct_inv {P : Program} {k : TypeId} {fs : Array Field} {v : Value} {l : Lit} (hu : P.underlying k = some (.struct fs)) (h : keyOf P k v = some l) : v.formed P k = true ∧ ∃ ls, P.keyLits (P.types.size + 1) k v.cells.toList = some ls := by
  unfold keyOf at h
  rw [hu] at h
  simp only at h
  split at h
  · rename_i hf
    simp at hf
    obtain ⟨ls, hls, _⟩ := Option.map_eq_some_iff.1 h
    exact ⟨hf.2, ls, hls⟩
  · cases h

theorem arr3 {α : Type} {cs : Array α} (h : cs.size = 3) : ∃ a b c, cs = #[a, b, c] := by
  obtain ⟨l⟩ := cs
  match l, h with
  | [a, b, c], _ => exact ⟨a, b, c, rfl⟩
theorem arr2 {α : Type} {cs : Array α} (h : cs.size = 2) : ∃ a b, cs = #[a, b] := by
  obtain ⟨l⟩ := cs
  match l, h with
  | [a, b], _ => exact ⟨a, b, rfl⟩

theorem keyT_inv {key : Value} {kl : Lit} (h : keyOf Try.prog 97 key = some kl) : ∃ x, key = mkT x := by
  obtain ⟨hf2, ls, hls⟩ := keyOf_struct_inv Try.underlying97 h
  cases key with
  | agg cs =>
    have hs : cs.size = 3 := by
      simp only [Value.formed, Try.underlying97, cellsT] at hf2
      simpa using hf2
    obtain ⟨c0, c1, c2, rfl⟩ := arr3 hs
    · simp only [Value.cells] at hls
      obtain ⟨n, hn⟩ := typesN
      rw [hn] at hls
      unfold Program.keyLits at hls
      simp only [Try.underlying97, cellsT] at hls
      rw [if_pos ⟨rfl, by kernel_rfl⟩] at hls
      obtain ⟨lss, hm, _⟩ := Option.map_eq_some_iff.1 hls
      simp only [List.mapM_cons, List.mapM_nil, cellsI, cellsU, List.drop, List.take] at hm
      obtain ⟨l0, h0, hm⟩ := Option.bind_eq_some_iff.1 hm
      obtain ⟨r1, hm, _⟩ := Option.bind_eq_some_iff.1 hm
      obtain ⟨l1, h1, hm⟩ := Option.bind_eq_some_iff.1 hm
      obtain ⟨r2, hm, _⟩ := Option.bind_eq_some_iff.1 hm
      obtain ⟨l2, h2, hm⟩ := Option.bind_eq_some_iff.1 hm
      obtain ⟨a, rfl⟩ := keyLits_int Try.underlying5 h0
      obtain ⟨b, rfl⟩ := keyLits_int Try.underlying3 h1
      obtain ⟨c, rfl⟩ := keyLits_int Try.underlying3 h2
      exact ⟨(a, b, c), rfl⟩
  | _ => simp [Value.formed, Try.underlying97] at hf2

theorem keyC_inv {key : Value} {kl : Lit} (h : keyOf Try.prog 80 key = some kl) : ∃ x, key = mkC x := by
  obtain ⟨hf2, ls, hls⟩ := keyOf_struct_inv Try.underlying80 h
  cases key with
  | agg cs =>
    have hs : cs.size = 2 := by
      simp only [Value.formed, Try.underlying80, cellsC] at hf2
      simpa using hf2
    obtain ⟨c0, c1, rfl⟩ := arr2 hs
    · simp only [Value.cells] at hls
      obtain ⟨n, hn⟩ := typesN
      rw [hn] at hls
      unfold Program.keyLits at hls
      simp only [Try.underlying80, cellsC] at hls
      rw [if_pos ⟨rfl, by kernel_rfl⟩] at hls
      obtain ⟨lss, hm, _⟩ := Option.map_eq_some_iff.1 hls
      simp only [List.mapM_cons, List.mapM_nil, cellsI, cellsU, List.drop, List.take] at hm
      obtain ⟨l0, h0, hm⟩ := Option.bind_eq_some_iff.1 hm
      obtain ⟨r1, hm, _⟩ := Option.bind_eq_some_iff.1 hm
      obtain ⟨l1, h1, hm⟩ := Option.bind_eq_some_iff.1 hm
      obtain ⟨a, rfl⟩ := keyLits_int Try.underlying5 h0
      obtain ⟨b, rfl⟩ := keyLits_int Try.underlying3 h1
      exact ⟨(a, b), rfl⟩
  | _ => simp [Value.formed, Try.underlying80] at hf2

/-- What a round must keep: the cells of blocks from m0 on. -/
def KCells (m0 : Nat) (W W' : World) : Prop := ∀ k o, m0 ≤ k → W.heap[k]? = some o → o.isCells = true → W'.heap[k]? = some o

theorem KCells.trans {m0 : Nat} {A B C : World} (h : KCells m0 A B) (g : KCells m0 B C) : KCells m0 A C := fun k o hk ho hc => g k o hk (h k o hk ho hc) hc

theorem infoT : (Try.prog.info? 97).map (fun i => (i.zero, i.size, i.bytes)) = some (some (.agg #[.int .u8 0, .int .i64 0, .int .i64 0]), 3, 24) := by kernel_rfl
theorem infoC : (Try.prog.info? 80).map (fun i => (i.zero, i.size, i.bytes)) = some (some (.agg #[.int .u8 0, .int .i64 0]), 2, 16) := by kernel_rfl

/-- The map's entries, by what is still to come: each entry that has come is a key of ts with its number. -/
theorem entry_is {α : Type} [BEq α] [LawfulBEq α] {k : Nat} {kv : α → Value} {ts : List α} {D : DataW Unit} (K : Keyed Try.prog k)
    (hall : ∀ x l, keyOf Try.prog k (kv x) = some l → Maps.has D l = ts.contains x ∧ (ts.contains x = true → D.atKey l (.lit (.int .i64 0)) = .lit (.int .i64 (ts.idxOf x))))
    (hback : ∀ l, Maps.has D l = true → ∃ x, ts.contains x = true ∧ keyOf Try.prog k (kv x) = some l)
    {key : Value} {kl : Lit} (hkey : keyOf Try.prog k key = some kl) {c : Int} (hat : ∀ zd, D.atKey kl zd = .lit (.int .i64 c)) :
    ∃ x, x ∈ ts ∧ key = kv x ∧ c = ts.idxOf x := by
  obtain ⟨x, hx, hk⟩ := hback kl (has_true_of_atKey hat)
  refine ⟨x, by simpa using hx, K.inj hkey hk, ?_⟩
  have h1 := (hall x kl hk).2 hx
  rw [hat] at h1
  simpa using h1

end Go.Proofs.Ythfjhjghohincaa
