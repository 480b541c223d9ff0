import Derived.Test.YthcppbmkacbbiaaGreatRefR
import Derived.Test.YthcppbmkacbbiaaGreatRefVpM
import Derived.Deep.RegionWith
import Derived.Test.YthcppbmkacbbiaaGreatEqaM
import Derived.Test.YthcppbmkacbbiaaGreatRdnM
namespace Go.Proofs.YthcppbmkacbbiaaGreat
open Go.RowKit
open Rdg (St put cut)

namespace Rdg
/-- The place of the first comma outside of brackets. -/
def fc : List UInt8 → Int → Option Nat
  | [], _ => none
  | c :: r, d => if c = 40 then (fc r (d + 1)).map (· + 1) else if c = 41 then (fc r (d - 1)).map (· + 1) else if c = 44 ∧ d = 0 then some 0 else (fc r d).map (· + 1)

/-- What stands in the brackets, cut at its comma. -/
def inn (l : List UInt8) : List UInt8 × List UInt8 :=
  match fc (cut l 2 (l.length - 1)) 0 with
  | some p => (cut l 2 (2 + p), cut l (3 + p) (l.length - 1))
  | none => (cut l 2 (l.length - 1), [])

section
variable {m : List UInt8} {k : Nat} {d : Int} {x : Option Nat}

theorem fc_at (hk : k < m.length) : fc (m.drop k) d = if m[k] = 40 then (fc (m.drop (k + 1)) (d + 1)).map (· + 1) else if m[k] = 41 then (fc (m.drop (k + 1)) (d - 1)).map (· + 1) else if m[k] = 44 ∧ d = 0 then some 0 else (fc (m.drop (k + 1)) d).map (· + 1) := by
  rw [List.drop_eq_getElem_cons hk, fc]

theorem map_more (y : Option Nat) (k : Nat) : (y.map (· + 1)).map (· + k) = y.map (· + (k + 1)) := by
  cases y <;> simp; omega

theorem fc_open (h : x = (fc (m.drop k) d).map (· + k)) (hk : k < m.length) (hc : m[k] = 40) : x = (fc (m.drop (k + 1)) (d + 1)).map (· + (k + 1)) := by
  rw [h, fc_at hk, if_pos hc, map_more]
theorem fc_shut (h : x = (fc (m.drop k) d).map (· + k)) (hk : k < m.length) (hc : m[k] = 41) : x = (fc (m.drop (k + 1)) (d - 1)).map (· + (k + 1)) := by
  rw [h, fc_at hk, if_neg (by rw [hc]; decide), if_pos hc, map_more]
theorem fc_else (h : x = (fc (m.drop k) d).map (· + k)) (hk : k < m.length) (h1 : m[k] ≠ 40) (h2 : m[k] ≠ 41) (h3 : ¬ (m[k] = 44 ∧ d = 0)) : x = (fc (m.drop (k + 1)) d).map (· + (k + 1)) := by
  rw [h, fc_at hk, if_neg h1, if_neg h2, if_neg h3, map_more]
theorem fc_comma (h : x = (fc (m.drop k) d).map (· + k)) (hk : k < m.length) (hc : m[k] = 44) (hd : d = 0) : x = some k := by
  rw [h, fc_at hk, if_neg (by rw [hc]; decide), if_neg (by rw [hc]; decide), if_pos ⟨hc, hd⟩]; simp
end
end Rdg

theorem byte_eq {a : UInt8} {n : Nat} (h : a.toNat = n) : ((a.toNat : Int) == (n : Int)) = true := by simp [h]
theorem byte_ne {a c : UInt8} (h : a ≠ c) : ((a.toNat : Int) == (c.toNat : Int)) = false := by
  simp only [beq_eq_false_iff_ne, ne_eq]
  intro e
  exact h (UInt8.toNat_inj.1 (by omega))

theorem inn_some {s : ByteArray} {m : List UInt8} {k : Nat} (hm : cut s.data.toList 2 (s.size - 1) = m) (h : Rdg.fc m 0 = some k) : Rdg.inn s.data.toList = (cut s.data.toList 2 (k + 2), cut s.data.toList (k + 2 + 1) (s.size - 1)) := by
  have hl : s.data.toList.length = s.size := by simp
  unfold Rdg.inn
  rw [hl, hm, h]
  simp only [Nat.add_comm 2 k, show 3 + k = k + 2 + 1 by omega]
theorem inn_none {s : ByteArray} {m : List UInt8} (hm : cut s.data.toList 2 (s.size - 1) = m) (h : Rdg.fc m 0 = none) : Rdg.inn s.data.toList = (cut s.data.toList 2 (s.size - 1), []) := by
  have hl : s.data.toList.length = s.size := by simp
  unfold Rdg.inn
  rw [hl, hm, h]

set_option maxRecDepth 100000 in
set_option maxHeartbeats 1000000 in
theorem inner_any (w : World) (s : ByteArray) (h3 : 3 ≤ s.size) (hs : s.size ≤ 100) :
    Calls Tryz.prog 102 #[.string s] w fun e w' => e = .returned (.tuple #[str (Rdg.inn s.data.toList).1, str (Rdg.inn s.data.toList).2]) ∧ Below w.heap.size w w' := by
  obtain ⟨m, hm⟩ : ∃ m, cut s.data.toList 2 (s.size - 1) = m := ⟨_, rfl⟩
  have hml : m.length + 3 = s.size := by rw [← hm]; unfold cut; simp; omega
  have hget : ∀ k (hk : k < m.length), m[k] = s[k + 2]'(by omega) := by
    intro k hk
    subst hm
    simp [cut, ByteArray.getElem_eq_getElem_data, Nat.add_comm]
  have HM := hide hm
  clear hm
  go_enter Tryz.func102, Tryz.ntmps102
  go_wp2_with fail
  go_loop [4, 5] (fun x i => ∃ (k : Nat) (d : Int), k ≤ m.length ∧ -(k : Int) ≤ d ∧ d ≤ k ∧ x = .int .i64 d ∧ i = .int .i64 ((k : Int) + 2) ∧ Rdg.fc m 0 = (Rdg.fc (m.drop k) d).map (· + k)) (fun _ i => m.length + 2 - (intOf i).toNat)
  case atStart => exact ⟨0, 0, Nat.zero_le _, by omega, by omega, rfl, rfl, by simp⟩
  case round =>
    obtain ⟨k, d, hk, hd1, hd2, rfl, rfl, hfc⟩ := hrel
    have HFC := hide hfc
    clear hfc
    by_cases hlt : k < m.length
    · have hbd : decide ((k : Int) + 2 < (s.size : Int) - 1) = true := by simp; omega
      have hgk := hget k hlt
      have hix : k + 2 < s.size := by omega
      have hn1 : ∀ c : UInt8, m[k] = c → (((s[k + 2]'hix).toNat : Int) == (c.toNat : Int)) = true := fun c hc => by rw [← hgk, hc]; simp
      have hn2 : ∀ c : UInt8, m[k] ≠ c → (((s[k + 2]'hix).toNat : Int) == (c.toNat : Int)) = false := fun c hc => by rw [← hgk]; exact byte_ne hc
      clear hget hgk
      by_cases h40 : m[k] = 40
      · have b1 : (((s[k + 2]'hix).toNat : Int) == 40) = true := hn1 40 h40
        have HK := hide h40
        clear h40 hn1 hn2
        go_wp2_with fail
        go_round
        case rel => exact ⟨k + 1, d + 1, by omega, by omega, by omega, rfl, by go_num, Rdg.fc_open (unhide HFC) hlt (unhide HK)⟩
        case measure => simp [intOf]; omega
      · have b1 : (((s[k + 2]'hix).toNat : Int) == 40) = false := hn2 40 h40
        by_cases h41 : m[k] = 41
        · have b2 : (((s[k + 2]'hix).toNat : Int) == 41) = true := hn1 41 h41
          have HK := hide h41
          clear h40 h41 hn1 hn2
          go_wp2_with fail
          go_round
          case rel => exact ⟨k + 1, d - 1, by omega, by omega, by omega, rfl, by go_num, Rdg.fc_shut (unhide HFC) hlt (unhide HK)⟩
          case measure => simp [intOf]; omega
        · have b2 : (((s[k + 2]'hix).toNat : Int) == 41) = false := hn2 41 h41
          by_cases h44 : m[k] = 44
          · have b3 : (((s[k + 2]'hix).toNat : Int) == 44) = true := hn1 44 h44
            by_cases hd0 : d = 0
            · have b4 : (d == 0) = true := by simpa using hd0
              have HK := hide h44
              have HD := hide hd0
              clear h40 h41 h44 hn1 hn2 hd0
              go_wp2_with fail
              go_quiet (fail)
              go_wp2_with fail
              go_ret2
              refine ⟨?_, below_drewN _ _ _⟩
              show Ending.returned (.tuple #[.string (s.extract 2 (k + 2)), .string (s.extract (k + 2 + 1) (s.size - 1))]) = _
              rw [inn_some (unhide HM) (Rdg.fc_comma (unhide HFC) hlt (unhide HK) (unhide HD)), ext_str, ext_str]
            · have b4 : (d == 0) = false := by simpa using hd0
              have HA := hide h40
              have HB := hide h41
              have HD := hide hd0
              clear h40 h41 h44 hn1 hn2 hd0
              go_wp2_with fail
              go_round
              case rel => exact ⟨k + 1, d, by omega, by omega, by omega, rfl, by go_num, Rdg.fc_else (unhide HFC) hlt (unhide HA) (unhide HB) (fun e => unhide HD e.2)⟩
              case measure => simp [intOf]; omega
          · have b3 : (((s[k + 2]'hix).toNat : Int) == 44) = false := hn2 44 h44
            have HA := hide h40
            have HB := hide h41
            have HD := hide h44
            clear h40 h41 h44 hn1 hn2
            go_wp2_with fail
            go_round
            case rel => exact ⟨k + 1, d, by omega, by omega, by omega, rfl, by go_num, Rdg.fc_else (unhide HFC) hlt (unhide HA) (unhide HB) (fun e => unhide HD e.1)⟩
            case measure => simp [intOf]; omega
    · have hbd : decide ((k : Int) + 2 < (s.size : Int) - 1) = false := by simp; omega
      clear hget
      go_wp2_with fail
      go_ret2
      refine ⟨?_, Below.refl _ _⟩
      show Ending.returned (.tuple #[.string (s.extract 2 (s.size - 1)), .string ⟨#[]⟩]) = _
      have hkm : k = m.length := by omega
      have hfn : Rdg.fc m 0 = none := by
        have h := unhide HFC
        rw [hkm, List.drop_length] at h
        exact h
      rw [inn_none (unhide HM) hfn, ext_str]
      rfl

end Go.Proofs.YthcppbmkacbbiaaGreat

namespace Go.Proofs.YthcppbmkacbbiaaGreat
open Go.RowKit
open Rdg (St put cut)

/-- Are two texts equal in a case? -/
def eqB (T : List (List UInt8)) (cl : List Int) (x y : List UInt8) : Bool := if x = [] ∨ y = [] then decide (x = y) else decide (cl.getD (T.idxOf x) 0 = cl.getD (T.idxOf y) 0)

theorem atIdx_mem {T : List (List UInt8)} {t : List UInt8} (h : t ∈ T) : atIdx T t = (T.idxOf t : Nat) := atIdx_old (by simpa using h)

set_option maxRecDepth 100000 in
set_option maxHeartbeats 1000000 in
theorem equal_empty (w : World) (r k1 k2 : Value) (x y : List UInt8) (h : x = [] ∨ y = []) :
    Calls Tryz.prog 103 #[r, .agg #[k1, k2], str x, str y] w fun e w' => e = .returned (.bool (decide (x = y))) ∧ Below w.heap.size w w' := by
  unfold str
  by_cases hx : x = []
  · subst hx
    go_enter Tryz.func103, Tryz.ntmps103
    go_wp2_with fail
    go_ret
    refine ⟨ret_bool ?_, (Below.refl _ w).alloc (Nat.le_refl _) _⟩
    cases y <;> rfl
  · have hy : y = [] := h.resolve_left hx
    subst hy
    have hq : (x == []) = false := by simpa using hx
    go_enter Tryz.func103, Tryz.ntmps103
    go_wp2_with fail
    go_ret
    refine ⟨ret_bool ?_, (Below.refl _ w).alloc (Nat.le_refl _) _⟩
    cases x <;> rfl

set_option maxRecDepth 100000 in
set_option maxHeartbeats 1000000 in
theorem equal_in (w : World) (B : Nat) (k1 k2 v4 : Value) (T : List (List UInt8)) (base : Nat) (cl : List Int) (hl : List Bool) (x y : List UInt8) (hx0 : x ≠ []) (hy0 : y ≠ []) (hx : x ∈ T) (hy : y ∈ T) (hT : T.length ≤ 7) (hTc : T.length ≤ cl.length)
    (c4 : w.cell? ⟨B, 4, none⟩ = some v4) (ho : w.ownsRow base 9 1 v4 T.length (T.map str)) (hC : CS w w.heap.size k1 k2 cl hl) :
    Calls Tryz.prog 103 #[.pointer (some ⟨B, 0, none⟩), .agg #[k1, k2], str x, str y] w fun e w' => e = .returned (.bool (decide (cl.getD (T.idxOf x) 0 = cl.getD (T.idxOf y) 0))) ∧ Below w.heap.size w w' := by
  have hix := List.idxOf_lt_length_of_mem hx
  have hiy := List.idxOf_lt_length_of_mem hy
  have hBlt : B < w.heap.size := World.block_lt_of_cell? w _ c4
  obtain ⟨g, cp, hk1, hg5, hg7⟩ := hC.both1 (show T.idxOf x < cl.length by omega) (show T.idxOf y < cl.length by omega)
  obtain ⟨a2, cp2, hk2, _⟩ := hC.r2
  subst hk1
  subst hk2
  have A1 := hide (atIdx_mem hx)
  have A2 := hide (atIdx_mem hy)
  have hi5 : ((T.idxOf x : Nat) : Int) < (cl.length : Int) := by omega
  have hi7 : ((T.idxOf y : Nat) : Int) < (cl.length : Int) := by omega
  have hglt : g < w.heap.size := World.block_lt_of_cell? w _ hg5
  have hq1 : (x == []) = false := by simpa using hx0
  have hq2 : (y == []) = false := by simpa using hy0
  have Q1 : Hid (∀ w' : World, w'.ownsRow base 9 1 v4 T.length (T.map str) → Calls Tryz.prog 154 #[v4, .string ⟨x.toArray⟩] w' fun e w2 => e = .returned (.int .i64 (T.idxOf x : Nat)) ∧ w2 = w') := fun w' h => by
    have g := at_any w' x T v4 base (by omega) h
    rw [unhide A1] at g
    exact g
  have Q2 : Hid (∀ w' : World, w'.ownsRow base 9 1 v4 T.length (T.map str) → Calls Tryz.prog 154 #[v4, .string ⟨y.toArray⟩] w' fun e w2 => e = .returned (.int .i64 (T.idxOf y : Nat)) ∧ w2 = w') := fun w' h => by
    have g := at_any w' y T v4 base (by omega) h
    rw [unhide A2] at g
    exact g
  have ho2 := ho.alloc (.cells #[.slice (some ⟨g, 0, none⟩) cl.length cp, .slice a2 hl.length cp2] 118)
  unfold str
  generalize T.idxOf x = i at *
  generalize T.idxOf y = j at *
  generalize cl.getD i 0 = p at *
  generalize cl.getD j 0 = q at *
  clear A1 A2 hC
  have hBne : B ≠ w.heap.size := by omega
  have hgne : g ≠ w.heap.size := by omega
  go_enter Tryz.func103, Tryz.ntmps103
  go_wp2_with fail
  go_quiet (first | (go_at_call_of 154 (Value.string ⟨x.toArray⟩); exact Calls.quiet_of_same ((unhide Q1) _ (by exact ho2))) | (go_at_call_of 154 (Value.string ⟨y.toArray⟩); exact Calls.quiet_of_same ((unhide Q2) _ (by exact ho2))))
  go_wp2_with fail
  go_ret
  refine ⟨ret_bool (by rw [Bool.eq_iff_iff]; simp), ((Below.refl _ w).alloc (Nat.le_refl _) _).trans (below_drewN _ _ _)⟩

end Go.Proofs.YthcppbmkacbbiaaGreat

namespace Go.Proofs.YthcppbmkacbbiaaGreat
open Go.RowKit
open Rdg (St put cut)

/-- Texts that lie in a reader: terms, and what is made of them. -/
structure GoodT (T C : List (List UInt8)) : Prop where
  ne : ∀ t ∈ T, t ≠ []
  len : ∀ t ∈ T, t.length ≤ 100
  long : ∀ t ∈ T, 1 < t.length → 3 ≤ t.length
  in1 : ∀ t ∈ T, 1 < t.length → (Rdg.inn t).1 = [] ∨ (Rdg.inn t).1 ∈ T
  in2 : ∀ t ∈ T, 1 < t.length → (Rdg.inn t).2 = [] ∨ (Rdg.inn t).2 ∈ T
  clen : ∀ t ∈ C, 3 ≤ t.length ∧ t.length ≤ 100
  cin : ∀ t ∈ C, (Rdg.inn t).1 = [] ∨ (Rdg.inn t).1 ∈ T

theorem equal_any (w : World) (B : Nat) (k1 k2 v4 : Value) (T : List (List UInt8)) (base : Nat) (cl : List Int) (hl : List Bool) (x y : List UInt8) (hx : x = [] ∨ x ∈ T) (hy : y = [] ∨ y ∈ T) (hT : T.length ≤ 7) (hTc : T.length ≤ cl.length)
    (c4 : w.cell? ⟨B, 4, none⟩ = some v4) (ho : w.ownsRow base 9 1 v4 T.length (T.map str)) (hC : CS w w.heap.size k1 k2 cl hl) :
    Calls Tryz.prog 103 #[.pointer (some ⟨B, 0, none⟩), .agg #[k1, k2], str x, str y] w fun e w' => e = .returned (.bool (eqB T cl x y)) ∧ Below w.heap.size w w' := by
  unfold eqB
  by_cases h : x = [] ∨ y = []
  · rw [if_pos h]; exact equal_empty w _ k1 k2 x y h
  · rw [if_neg h]
    have h1 : x ≠ [] := fun e => h (Or.inl e)
    have h2 : y ≠ [] := fun e => h (Or.inr e)
    exact equal_in w B k1 k2 v4 T base cl hl x y h1 h2 (hx.resolve_left h1) (hy.resolve_left h2) hT hTc c4 ho hC

theorem inner_str (w : World) (t : List UInt8) (h3 : 3 ≤ t.length) (hs : t.length ≤ 100) :
    Calls Tryz.prog 102 #[.string ⟨t.toArray⟩] w fun e w' => e = .returned (.tuple #[str (Rdg.inn t).1, str (Rdg.inn t).2]) ∧ Below w.heap.size w w' := by
  have h := inner_any w ⟨t.toArray⟩ (by simpa [ByteArray.size] using h3) (by simpa [ByteArray.size] using hs)
  simpa using h

/-- Two terms that soundness bars. -/
def badT (T : List (List UInt8)) (cl : List Int) (i k : Nat) : Bool :=
  decide (1 < (T.getD i []).length) && decide (1 < (T.getD k []).length) && decide ((T.getD i []).headD 0 = (T.getD k []).headD 0) && decide (cl.getD i 0 ≠ cl.getD k 0) &&
    eqB T cl (Rdg.inn (T.getD i [])).1 (Rdg.inn (T.getD k [])).1 && eqB T cl (Rdg.inn (T.getD i [])).2 (Rdg.inn (T.getD k [])).2
def badC (T C : List (List UInt8)) (cl : List Int) (hl : List Bool) (i k : Nat) : Bool :=
  decide ((C.getD i []).headD 0 = (C.getD k []).headD 0) && decide (hl.getD i false ≠ hl.getD k false) && eqB T cl (Rdg.inn (C.getD i [])).1 (Rdg.inn (C.getD k [])).1

/-- Is a case sound? -/
def snd (T C : List (List UInt8)) (cl : List Int) (hl : List Bool) : Bool :=
  ((List.range T.length).all fun i => (List.range T.length).all fun k => !badT T cl i k) && ((List.range C.length).all fun i => (List.range C.length).all fun k => !badC T C cl hl i k)

theorem snd_badT {T C : List (List UInt8)} {cl : List Int} {hl : List Bool} {i k : Nat} (hi : i < T.length) (hk : k < T.length) (h : badT T cl i k = true) : snd T C cl hl = false := by
  unfold snd
  rw [Bool.and_eq_false_iff]
  left
  rw [List.all_eq_false]
  refine ⟨i, by simpa using hi, ?_⟩
  rw [Bool.not_eq_true, List.all_eq_false]
  exact ⟨k, by simpa using hk, by rw [h]; decide⟩
theorem snd_badC {T C : List (List UInt8)} {cl : List Int} {hl : List Bool} {i k : Nat} (hi : i < C.length) (hk : k < C.length) (h : badC T C cl hl i k = true) : snd T C cl hl = false := by
  unfold snd
  rw [Bool.and_eq_false_iff]
  right
  rw [List.all_eq_false]
  refine ⟨i, by simpa using hi, ?_⟩
  rw [Bool.not_eq_true, List.all_eq_false]
  exact ⟨k, by simpa using hk, by rw [h]; decide⟩
theorem snd_good {T C : List (List UInt8)} {cl : List Int} {hl : List Bool} (h1 : ∀ i k, i < T.length → k < T.length → badT T cl i k = false) (h2 : ∀ i k, i < C.length → k < C.length → badC T C cl hl i k = false) : snd T C cl hl = true := by
  unfold snd
  rw [Bool.and_eq_true, List.all_eq_true, List.all_eq_true]
  refine ⟨fun i hi => ?_, fun i hi => ?_⟩
  · rw [List.all_eq_true]
    exact fun k hk => by rw [h1 i k (by simpa using hi) (by simpa using hk)]; rfl
  · rw [List.all_eq_true]
    exact fun k hk => by rw [h2 i k (by simpa using hi) (by simpa using hk)]; rfl

end Go.Proofs.YthcppbmkacbbiaaGreat

namespace Go.Proofs.YthcppbmkacbbiaaGreat.Rdg

/-- Brackets close, no comma stands outside of them. -/
def Bal (t : List UInt8) : Prop := ∀ (r : List UInt8) (d : Int), 0 ≤ d → fc (t ++ r) d = (fc r d).map (· + t.length)

theorem fc_plain {c : UInt8} (h1 : c ≠ 40) (h2 : c ≠ 41) (h3 : c ≠ 44) (r : List UInt8) (d : Int) : fc (c :: r) d = (fc r d).map (· + 1) := by
  rw [fc, if_neg h1, if_neg h2, if_neg (fun e => h3 e.1)]
theorem fc_op (r : List UInt8) (d : Int) : fc (40 :: r) d = (fc r (d + 1)).map (· + 1) := by rw [fc, if_pos rfl]
theorem fc_cl (r : List UInt8) (d : Int) : fc (41 :: r) d = (fc r (d - 1)).map (· + 1) := by rw [fc, if_neg (by decide), if_pos rfl]
theorem fc_co (r : List UInt8) {d : Int} (h : d ≠ 0) : fc (44 :: r) d = (fc r d).map (· + 1) := by rw [fc, if_neg (by decide), if_neg (by decide), if_neg (fun e => h e.2)]
theorem fc_c0 (r : List UInt8) : fc (44 :: r) 0 = some 0 := by rw [fc, if_neg (by decide), if_neg (by decide), if_pos ⟨rfl, rfl⟩]

theorem mm (x : Option Nat) (a b : Nat) : (x.map (· + a)).map (· + b) = x.map (· + (a + b)) := by cases x <;> simp; omega

theorem bal_name {c : UInt8} (h1 : c ≠ 40) (h2 : c ≠ 41) (h3 : c ≠ 44) : Bal [c] := fun r d _ => by
  show fc (c :: r) d = _
  rw [fc_plain h1 h2 h3]; rfl

theorem bal_f {c : UInt8} (h1 : c ≠ 40) (h2 : c ≠ 41) (h3 : c ≠ 44) {t : List UInt8} (h : Bal t) : Bal (c :: 40 :: (t ++ [41])) := fun r d hd => by
  have e : (c :: 40 :: (t ++ [41])) ++ r = c :: 40 :: (t ++ (41 :: r)) := by simp
  rw [e, fc_plain h1 h2 h3, fc_op, h _ _ (by omega), fc_cl, mm, mm, mm]
  have : d + 1 - 1 = d := by omega
  rw [this]
  congr 2
  funext n
  simp
  omega

theorem bal_g {c : UInt8} (h1 : c ≠ 40) (h2 : c ≠ 41) (h3 : c ≠ 44) {t u : List UInt8} (h : Bal t) (g : Bal u) : Bal (c :: 40 :: (t ++ 44 :: (u ++ [41]))) := fun r d hd => by
  have e : (c :: 40 :: (t ++ 44 :: (u ++ [41]))) ++ r = c :: 40 :: (t ++ (44 :: (u ++ (41 :: r)))) := by simp
  rw [e, fc_plain h1 h2 h3, fc_op, h _ _ (by omega), fc_co _ (by omega), g _ _ (by omega), fc_cl, mm, mm, mm, mm, mm]
  have : d + 1 - 1 = d := by omega
  rw [this]
  congr 2
  funext n
  simp
  omega

theorem inn_one {c : UInt8} {t : List UInt8} (h : Bal t) : inn (c :: 40 :: (t ++ [41])) = (t, []) := by
  have hm : cut (c :: 40 :: (t ++ [41])) 2 ((c :: 40 :: (t ++ [41])).length - 1) = t := by simp [cut]
  have hf : fc t 0 = none := by have := h [] 0 (by omega); simpa [fc] using this
  unfold inn
  rw [hm, hf]

theorem inn_two {c : UInt8} {t u : List UInt8} (h : Bal t) : inn (c :: 40 :: (t ++ 44 :: (u ++ [41]))) = (t, u) := by
  have hx : ∀ x : List UInt8, cut (c :: 40 :: (x ++ [41])) 2 ((c :: 40 :: (x ++ [41])).length - 1) = x := fun x => by simp [cut]
  have el : c :: 40 :: (t ++ 44 :: (u ++ [41])) = c :: 40 :: ((t ++ 44 :: u) ++ [41]) := by simp
  have hm : cut (c :: 40 :: (t ++ 44 :: (u ++ [41]))) 2 ((c :: 40 :: (t ++ 44 :: (u ++ [41]))).length - 1) = t ++ 44 :: u := by rw [el]; exact hx _
  have hf : fc (t ++ 44 :: u) 0 = some t.length := by rw [h _ 0 (by omega), fc_c0]; simp
  unfold inn
  rw [hm, hf]
  have e1 : cut (c :: 40 :: (t ++ 44 :: (u ++ [41]))) 2 (2 + t.length) = t := by
    unfold cut
    simp only [List.drop_succ_cons, List.drop_zero]
    rw [show 2 + t.length - 2 = t.length by omega, List.take_append_of_le_length (Nat.le_refl _), List.take_length]
  have e2 : cut (c :: 40 :: (t ++ 44 :: (u ++ [41]))) (3 + t.length) ((c :: 40 :: (t ++ 44 :: (u ++ [41]))).length - 1) = u := by
    have e3 : c :: 40 :: (t ++ 44 :: (u ++ [41])) = (c :: 40 :: (t ++ [44])) ++ (u ++ [41]) := by simp
    unfold cut
    have hlen : (c :: 40 :: (t ++ 44 :: (u ++ [41]))).length - 1 - (3 + t.length) = u.length := by simp; omega
    rw [hlen, e3, List.drop_left' (by simp; omega), List.take_left']
    rfl
  simp only [e1, e2]

theorem name_byte {c : Int} (h1 : 97 ≤ c) (h2 : c ≤ 101) : (UInt8.ofNat c.toNat).toNat = c.toNat := by simp; omega

theorem byte_not {c : UInt8} {n : Nat} (h : c.toNat = n) {b : UInt8} (hb : b.toNat ≠ n) : c ≠ b := fun e => hb (by rw [← e]; exact h)

/-- A key's text, by what the key is. -/
theorem rend_cases {T : List (List UInt8)} {k : Key} {n : Nat} (h : okKey n k) :
    (∃ c : UInt8, rend T k = [c] ∧ c ≠ 40 ∧ c ≠ 41 ∧ c ≠ 44) ∨ (k.1 = 102 ∧ k.2.1 < n ∧ rend T k = 102 :: 40 :: (T.getD k.2.1 [] ++ [41])) ∨
    (k.1 = 103 ∧ k.2.1 < n ∧ k.2.2 < n ∧ rend T k = 103 :: 40 :: (T.getD k.2.1 [] ++ 44 :: (T.getD k.2.2 [] ++ [41]))) := by
  rcases h with ⟨h1, h2, h3, h4⟩ | ⟨h1, h2, h3⟩ | ⟨h1, h2, h3⟩
  · left
    have hb := name_byte h1 h2
    refine ⟨UInt8.ofNat k.1.toNat, ?_, byte_not hb ?_, byte_not hb ?_, byte_not hb ?_⟩
    · unfold rend; rw [if_neg (by omega), if_neg (by omega)]
    · have : (40 : UInt8).toNat = 40 := rfl
      omega
    · have : (41 : UInt8).toNat = 41 := rfl
      omega
    · have : (44 : UInt8).toNat = 44 := rfl
      omega
  · right; left
    exact ⟨h1, h2, by unfold rend; rw [if_pos h1]⟩
  · right; right
    exact ⟨h1, h2, h3, by unfold rend; rw [if_neg (by omega), if_pos h1]⟩

theorem Inv.bal {ts : List Key} (h : Inv ts) : ∀ (n i : Nat), i < n → i < ts.length → Bal ((texts ts).getD i []) := by
  intro n
  induction n with
  | zero => intro i hi; omega
  | succ n ih =>
    intro i hi hl
    rw [h.get i hl]
    rcases rend_cases (T := texts ts) (h.key i hl) with ⟨c, e, n1, n2, n3⟩ | ⟨_, hk, e⟩ | ⟨_, hk, hk2, e⟩
    · rw [e]; exact bal_name n1 n2 n3
    · rw [e]; exact bal_f (by decide) (by decide) (by decide) (ih _ (by omega) (by omega))
    · rw [e]; exact bal_g (by decide) (by decide) (by decide) (ih _ (by omega) (by omega)) (ih _ (by omega) (by omega))

theorem text_at {ts : List Key} (h : Inv ts) {t : List UInt8} (ht : t ∈ texts ts) : ∃ i, ∃ hi : i < ts.length, t = rend (texts ts) ts[i] := by
  obtain ⟨i, hi, e⟩ := List.getElem_of_mem ht
  rw [texts_length] at hi
  refine ⟨i, hi, ?_⟩
  rw [← h.get i hi, ← e]
  simp [List.getD_eq_getElem?_getD, texts_length, hi]

end Go.Proofs.YthcppbmkacbbiaaGreat.Rdg

namespace Go.Proofs.YthcppbmkacbbiaaGreat
open Rdg (Key Inv InvC texts)

theorem good_texts {ts : List Key} {cs : List (Int × Nat)} (h : Inv ts) (hc : InvC ts cs) (hT : ∀ t ∈ texts ts, t.length ≤ 100) (hC : ∀ t ∈ ctx ts cs, t.length ≤ 100) : GoodT (texts ts) (ctx ts cs) := by
  have mem : ∀ j, j < ts.length → (texts ts).getD j [] ∈ texts ts := fun j hj => Rdg.getD_mem (by rw [Rdg.texts_length]; exact hj)
  have bal : ∀ j, j < ts.length → Rdg.Bal ((texts ts).getD j []) := fun j hj => h.bal (j + 1) j (by omega) hj
  refine ⟨fun t ht => ?_, hT, fun t ht hl => ?_, fun t ht hl => ?_, fun t ht hl => ?_, fun t ht => ?_, fun t ht => ?_⟩
  · obtain ⟨i, hi, rfl⟩ := Rdg.text_at h ht
    rcases Rdg.rend_cases (T := texts ts) (h.key i hi) with ⟨c, e, _⟩ | ⟨_, _, e⟩ | ⟨_, _, _, e⟩ <;> rw [e] <;> simp
  · obtain ⟨i, hi, rfl⟩ := Rdg.text_at h ht
    rcases Rdg.rend_cases (T := texts ts) (h.key i hi) with ⟨c, e, _⟩ | ⟨_, _, e⟩ | ⟨_, _, _, e⟩
    · rw [e] at hl; simp at hl
    · rw [e]; simp
    · rw [e]; simp; omega
  · obtain ⟨i, hi, rfl⟩ := Rdg.text_at h ht
    rcases Rdg.rend_cases (T := texts ts) (h.key i hi) with ⟨c, e, _⟩ | ⟨_, hk, e⟩ | ⟨_, hk, hk2, e⟩
    · rw [e] at hl; simp at hl
    · rw [e, Rdg.inn_one (bal _ (by omega))]; exact Or.inr (mem _ (by omega))
    · rw [e, Rdg.inn_two (bal _ (by omega))]; exact Or.inr (mem _ (by omega))
  · obtain ⟨i, hi, rfl⟩ := Rdg.text_at h ht
    rcases Rdg.rend_cases (T := texts ts) (h.key i hi) with ⟨c, e, _⟩ | ⟨_, hk, e⟩ | ⟨_, hk, hk2, e⟩
    · rw [e] at hl; simp at hl
    · rw [e, Rdg.inn_one (bal _ (by omega))]; exact Or.inl rfl
    · rw [e, Rdg.inn_two (bal _ (by omega))]; exact Or.inr (mem _ (by omega))
  · obtain ⟨c, hcm, rfl⟩ := List.mem_map.1 ht
    exact ⟨by simp [Rdg.rendC], hC _ ht⟩
  · obtain ⟨c, hcm, rfl⟩ := List.mem_map.1 ht
    unfold Rdg.rendC
    rw [Rdg.inn_one (bal _ (hc c hcm).2)]
    exact Or.inr (mem _ (hc c hcm).2)

end Go.Proofs.YthcppbmkacbbiaaGreat

namespace Go.Proofs.YthcppbmkacbbiaaGreat
open Go.RowKit
open Rdg (St put cut)

namespace Rdg
/-- The classes that digits tell, numbered as they should be. -/
def clsOf : List UInt8 → Int → Option (List Int)
  | [], _ => some []
  | c :: r, most => if (c.toNat : Int) - 48 < 0 ∨ most + 1 < (c.toNat : Int) - 48 then none else (clsOf r (max most ((c.toNat : Int) - 48))).map (((c.toNat : Int) - 48) :: ·)
def hldOf : List UInt8 → Option (List Bool)
  | [] => some []
  | c :: r => if c ≠ 48 ∧ c ≠ 49 then none else (hldOf r).map (decide (c = 49) :: ·)
/-- A written case. -/
def parse (n c : Nat) (s : List UInt8) : Option (List Int × List Bool) :=
  if s.length ≠ n + 1 + c ∨ s.getD n 0 ≠ 47 then none else
  match clsOf (s.take n) (-1) with
  | none => none
  | some cl => (hldOf (s.drop (n + 1))).map fun hl => (cl, hl)
end Rdg

set_option maxRecDepth 100000 in
set_option maxHeartbeats 1000000 in
theorem parse_len (w : World) (B : Nat) (s : ByteArray) (v4 v5 : Value) (T C : List (List UInt8)) (hT : T.length ≤ 7) (hC : C.length ≤ 4) (_hm : s.size ≤ maxLen) (c4 : w.cell? ⟨B, 4, none⟩ = some v4) (c5 : w.cell? ⟨B, 5, none⟩ = some v5) (r4 : w.ownsRow 0 9 1 v4 T.length (T.map str)) (r5 : w.ownsRow 0 9 1 v5 C.length (C.map str))
    (hne : s.size ≠ T.length + 1 + C.length) :
    Calls Tryz.prog 59 #[.pointer (some ⟨B, 0, none⟩), .string s] w fun e w' => (∃ a1 n1 c1 a2 n2 c2, e = .returned (.tuple #[.agg #[.slice a1 n1 c1, .slice a2 n2 c2], .bool false])) ∧ Below w.heap.size w w' := by
  obtain ⟨a4, p4, e4⟩ := own_slice r4
  obtain ⟨a5, p5, e5⟩ := own_slice r5
  subst e4
  subst e5
  have hBlt : B < w.heap.size := World.block_lt_of_cell? w _ c4
  have hb : ((s.size : Int) != (T.length : Int) + 1 + (C.length : Int)) = true := by simp; omega
  have hBne : B ≠ w.heap.size := by omega
  have hBne2 : B ≠ w.heap.size + 1 := by omega
  have hB2 : B < w.heap.size + 1 := by omega
  go_enter Tryz.func59, Tryz.ntmps59
  go_wp2_with fail
  refine bodyPost_ret (v := .tuple #[.agg #[.slice none 0 0, .slice none 0 0], .bool false]) (by simp [results, Tryz.results59, go_sem]) rfl ⟨⟨_, _, _, _, _, _, rfl⟩, ?_⟩
  exact ((Below.refl _ w).alloc (Nat.le_refl _) _).alloc (by simp) _

set_option maxRecDepth 100000 in
set_option maxHeartbeats 1000000 in
theorem parse_slash (w : World) (B : Nat) (s : ByteArray) (v4 v5 : Value) (T C : List (List UInt8)) (hT : T.length ≤ 7) (hC : C.length ≤ 4) (c4 : w.cell? ⟨B, 4, none⟩ = some v4) (c5 : w.cell? ⟨B, 5, none⟩ = some v5) (r4 : w.ownsRow 0 9 1 v4 T.length (T.map str)) (r5 : w.ownsRow 0 9 1 v5 C.length (C.map str))
    (heq : s.size = T.length + 1 + C.length) (hlt : T.length < s.size) (hsl : s[T.length]'hlt ≠ 47) :
    Calls Tryz.prog 59 #[.pointer (some ⟨B, 0, none⟩), .string s] w fun e w' => (∃ a1 n1 c1 a2 n2 c2, e = .returned (.tuple #[.agg #[.slice a1 n1 c1, .slice a2 n2 c2], .bool false])) ∧ Below w.heap.size w w' := by
  obtain ⟨a4, p4, e4⟩ := own_slice r4
  obtain ⟨a5, p5, e5⟩ := own_slice r5
  subst e4
  subst e5
  have hBlt : B < w.heap.size := World.block_lt_of_cell? w _ c4
  have hb : ((s.size : Int) != (T.length : Int) + 1 + (C.length : Int)) = false := by simp; omega
  have hlt' : (T.length : Int) < (s.size : Int) := by omega
  have hb2 : (((s[T.length]'hlt).toNat : Int) != 47) = true := by
    have := byte_ne hsl
    simpa [bne] using this
  have hBne : B ≠ w.heap.size := by omega
  have hBne2 : B ≠ w.heap.size + 1 := by omega
  have hB2 : B < w.heap.size + 1 := by omega
  clear heq
  go_enter Tryz.func59, Tryz.ntmps59
  go_wp2_with fail
  refine bodyPost_ret (v := .tuple #[.agg #[.slice none 0 0, .slice none 0 0], .bool false]) (by simp [results, Tryz.results59, go_sem]) rfl ⟨⟨_, _, _, _, _, _, rfl⟩, ?_⟩
  exact ((Below.refl _ w).alloc (Nat.le_refl _) _).alloc (by simp) _

end Go.Proofs.YthcppbmkacbbiaaGreat
