import Derived.Test.YthcppbmkacbbiaaGreatSio
import Derived.Test.YthcppbmkacbbiaaGreatRefKM
import Derived.Test.YthcppbmkacbbiaaGreatRefS
import Derived.Test.YthcppbmkacbbiaaGreatCandK
import Derived.Test.YthcppbmkacbbiaaGreatCandX
import Derived.Test.YthcppbmkacbbiaaGreatLawC
import Derived.Test.YthcppbmkacbbiaaGreatTruM
namespace Go.Proofs.YthcppbmkacbbiaaGreat
open Rdg (put clsOf hldOf)

/-! The truths. -/
theorem hldOf_bits : ∀ l : List UInt8, hldOf l = if bits (l.map (· == 49)) = l then some (l.map (· == 49)) else none
  | [] => by simp [hldOf, bits]
  | c :: r => by
    have ih := hldOf_bits r
    simp only [hldOf]
    by_cases h : c ≠ 48 ∧ c ≠ 49
    · rw [if_pos h, if_neg]
      intro e
      simp only [bits, List.map_cons, List.cons.injEq] at e
      have e1 := e.1
      have h2 : (c == 49) = false := beq_eq_false_iff_ne.2 h.2
      rw [h2] at e1
      exact h.1 e1.symm
    · rw [if_neg h, ih]
      have hc : (if (c == 49) = true then (49 : UInt8) else 48) = c := by
        by_cases h2 : c = 49
        · subst h2; rfl
        · have h3 : c = 48 := Classical.byContradiction fun h3 => h ⟨h3, h2⟩
          subst h3; rfl
      by_cases hb : bits (r.map (· == 49)) = r
      · rw [if_pos hb, if_pos]
        · simp
          by_cases h2 : c = 49
          · subst h2; rfl
          · simp [h2]
        · simp only [bits, List.map_cons, List.cons.injEq]
          exact ⟨hc, hb⟩
      · rw [if_neg hb, if_neg]
        · rfl
        · intro e
          simp only [bits, List.map_cons, List.cons.injEq] at e
          exact hb e.2

theorem hlo_drop (s : ByteArray) (n c : Nat) (h : s.size = n + 1 + c) : hlo s n c = (s.data.toList.drop (n + 1)).map (· == 49) := by
  have hl : s.data.toList.length = s.size := by simp
  refine List.ext_getElem ?_ ?_
  · simp only [hlo, List.length_map, List.length_range, List.length_drop]; omega
  · intro i h1 h2
    have h3 : n + 1 + i < s.data.toList.length := by simp only [hlo, List.length_map, List.length_range] at h1; omega
    simp only [hlo, List.getElem_map, List.getElem_range, List.getElem_drop]
    rw [List.getD_eq_getElem?_getD, List.getElem?_eq_getElem h3]
    rfl

/-! The digits. -/
/-- The digits so far are as they should be: every number below the next stands among them, and none other. -/
structure Can (keys : List UInt8) (k : Nat) : Prop where
  eq : dgs (fi keys) k = keys.take k
  all : ∀ v, v < (nums (fi keys) k).length → ∃ j, ∃ _ : j < keys.length, j < k ∧ keys[j].toNat = 48 + v
  lt : ∀ j (_ : j < keys.length), j < k → 48 ≤ keys[j].toNat ∧ keys[j].toNat < 48 + (nums (fi keys) k).length

theorem mem_put {l : List Nat} {x y : Nat} : y ∈ put l x ↔ y ∈ l ∨ y = x := by
  unfold put
  split
  · rename_i h
    have h1 : x ∈ l := by simpa using h
    constructor
    · exact .inl
    · rintro (h2 | rfl)
      · exact h2
      · exact h1
  · simp

theorem mem_nums (f : Nat → Nat) : ∀ (k x : Nat), x ∈ nums f k ↔ ∃ j, j < k ∧ f j = x
  | 0, x => by simp [nums]
  | k + 1, x => by
    unfold nums
    rw [mem_put, mem_nums f k x]
    constructor
    · rintro (⟨j, h1, h2⟩ | rfl)
      · exact ⟨j, by omega, h2⟩
      · exact ⟨k, by omega, rfl⟩
    · rintro ⟨j, h1, h2⟩
      by_cases e : j = k
      · subst e; exact .inr h2.symm
      · exact .inl ⟨j, by omega, h2⟩

theorem put_idx {l : List Nat} {x y : Nat} (h : y ∈ l) : (put l x).idxOf y = l.idxOf y := by
  unfold put
  split
  · rfl
  · rw [List.idxOf_append, if_pos h]

theorem put_new {l : List Nat} {x : Nat} : (put l x).idxOf x = l.idxOf x := by
  by_cases h : x ∈ l
  · exact put_idx h
  · have h2 : put l x = l ++ [x] := by unfold put; rw [if_neg (by simpa using h)]
    rw [h2, List.idxOf_eq_length h, List.idxOf_append, if_neg h]
    simp

theorem nums_idx (f : Nat → Nat) (j : Nat) : ∀ k, j < k → (nums f k).idxOf (f j) = (nums f j).idxOf (f j)
  | 0, h => by omega
  | k + 1, h => by
    show (put (nums f k) (f k)).idxOf (f j) = _
    by_cases e : j = k
    · subst e; exact put_new
    · rw [put_idx ((mem_nums f k _).2 ⟨j, by omega, rfl⟩)]
      exact nums_idx f j k (by omega)

theorem can_zero (keys : List UInt8) : Can keys 0 := ⟨by simp [dgs], fun v h => by simp [nums] at h, fun j _ h => by omega⟩

theorem dgs_at (f : Nat → Nat) (k j : Nat) (h : j < k) : (dgs f k)[j]? = some (UInt8.ofNat (48 + (nums f j).idxOf (f j))) := by simp [dgs, h]

/-- An old key. -/
theorem Can.old {keys : List UInt8} {k j : Nat} (h : Can keys k) (hk : k < keys.length) (hj : j < k) (he : keys[j]'(by omega) = keys[k]) : Can keys (k + 1) ∧ nums (fi keys) (k + 1) = nums (fi keys) k := by
  have hf : fi keys k = fi keys j := (fi_eq hk (by omega)).2 he.symm
  have hm : fi keys k ∈ nums (fi keys) k := (mem_nums _ _ _).2 ⟨j, hj, hf.symm⟩
  have hn : nums (fi keys) (k + 1) = nums (fi keys) k := by
    show put (nums (fi keys) k) (fi keys k) = _
    unfold put
    rw [if_pos (by simpa using hm)]
  refine ⟨⟨?_, ?_, ?_⟩, hn⟩
  · rw [dgs_succ, h.eq, List.take_add_one, List.getElem?_eq_getElem hk, ← he]
    have h1 := dgs_at (fi keys) k j hj
    rw [h.eq, List.getElem?_take, if_pos hj, List.getElem?_eq_getElem (by omega)] at h1
    rw [Option.some.inj h1, hf, nums_idx _ _ _ hj]
    rfl
  · intro v hv
    rw [hn] at hv
    obtain ⟨i, h1, h2, h3⟩ := h.all v hv
    exact ⟨i, h1, by omega, h3⟩
  · intro i h1 h2
    rw [hn]
    by_cases e : i = k
    · subst e; rw [← he]; exact h.lt j (by omega) hj
    · exact h.lt i h1 (by omega)

/-- A new key. -/
theorem can_new {keys : List UInt8} {k : Nat} (hk : k < keys.length) (hj : ¬ ∃ j, ∃ hj : j < k, keys[j]'(by omega) = keys[k]) : (nums (fi keys) k).idxOf (fi keys k) = (nums (fi keys) k).length ∧ (nums (fi keys) (k + 1)).length = (nums (fi keys) k).length + 1 := by
  have hnm : fi keys k ∉ nums (fi keys) k := fun hm => by
    obtain ⟨j, h1, h2⟩ := (mem_nums _ _ _).1 hm
    exact hj ⟨j, h1, (fi_eq (by omega) hk).1 h2⟩
  refine ⟨List.idxOf_eq_length hnm, ?_⟩
  show (put (nums (fi keys) k) (fi keys k)).length = _
  unfold put
  rw [if_neg (by simpa using hnm)]
  simp

theorem Can.next {keys : List UInt8} {k : Nat} (h : Can keys k) (hk : k < keys.length) (hj : ¬ ∃ j, ∃ hj : j < k, keys[j]'(by omega) = keys[k]) (hc : keys[k].toNat = 48 + (nums (fi keys) k).length) : Can keys (k + 1) := by
  obtain ⟨h1, h2⟩ := can_new hk hj
  refine ⟨?_, ?_, ?_⟩
  · rw [dgs_succ, h.eq, List.take_add_one, List.getElem?_eq_getElem hk, h1, ← hc]
    simp
  · intro v hv
    rw [h2] at hv
    by_cases e : v = (nums (fi keys) k).length
    · subst e; exact ⟨k, hk, by omega, hc⟩
    · obtain ⟨i, q1, q2, q3⟩ := h.all v (by omega)
      exact ⟨i, q1, by omega, q3⟩
  · intro i q1 q2
    rw [h2]
    by_cases e : i = k
    · subst e; omega
    · have := h.lt i q1 (by omega); omega

theorem u8_ext {a b : UInt8} (h : a.toNat = b.toNat) : a = b := UInt8.toNat.inj h

/-- The digits that the document takes are those that the program would write. -/
theorem cls_from (keys : List UInt8) (hl : keys.length ≤ 100) : ∀ (n k : Nat), n + k = keys.length → Can keys k → clsOf (keys.drop k) (((nums (fi keys) k).length : Int) - 1) = if dgs (fi keys) keys.length = keys then some ((keys.drop k).map fun c => (c.toNat : Int) - 48) else none
  | 0, k, hn, h => by
    have hk : k = keys.length := by omega
    subst hk
    have h1 := h.eq
    rw [List.take_length] at h1
    rw [if_pos h1, List.drop_length]
    rfl
  | n + 1, k, hn, h => by
    have hk : k < keys.length := by omega
    have hnl : (nums (fi keys) k).length ≤ k := nums_length _ _
    rw [List.drop_eq_getElem_cons hk]
    simp only [clsOf]
    by_cases hj : ∃ j, ∃ hj : j < k, keys[j]'(by omega) = keys[k]
    · obtain ⟨j, hj, he⟩ := hj
      obtain ⟨h1, h2⟩ := h.old hk hj he
      have h3 := h.lt j (by omega) hj
      rw [he] at h3
      rw [if_neg (by omega)]
      have hm : max (((nums (fi keys) k).length : Int) - 1) ((keys[k].toNat : Int) - 48) = ((nums (fi keys) (k + 1)).length : Int) - 1 := by rw [h2]; omega
      rw [hm, cls_from keys hl n (k + 1) (by omega) h1]
      by_cases e : dgs (fi keys) keys.length = keys
      · rw [if_pos e, if_pos e]; rfl
      · rw [if_neg e, if_neg e]; rfl
    · obtain ⟨h1, h2⟩ := can_new hk hj
      by_cases hc : keys[k].toNat = 48 + (nums (fi keys) k).length
      · rw [if_neg (by omega)]
        have hm : max (((nums (fi keys) k).length : Int) - 1) ((keys[k].toNat : Int) - 48) = ((nums (fi keys) (k + 1)).length : Int) - 1 := by rw [h2]; omega
        rw [hm, cls_from keys hl n (k + 1) (by omega) (h.next hk hj hc)]
        by_cases e : dgs (fi keys) keys.length = keys
        · rw [if_pos e, if_pos e]; rfl
        · rw [if_neg e, if_neg e]; rfl
      · have hne : dgs (fi keys) keys.length ≠ keys := fun e => hc (by
          have h3 := dgs_at (fi keys) keys.length k hk
          rw [e, List.getElem?_eq_getElem hk, h1] at h3
          rw [Option.some.inj h3]
          simp
          omega)
        rw [if_neg hne]
        by_cases hd : (keys[k].toNat : Int) - 48 < 0 ∨ ((nums (fi keys) k).length : Int) - 1 + 1 < (keys[k].toNat : Int) - 48
        · rw [if_pos hd]
        · exfalso
          obtain ⟨j, q1, q2, q3⟩ := h.all (keys[k].toNat - 48) (by omega)
          exact hj ⟨j, q2, u8_ext (by omega)⟩

theorem cls_iff (keys : List UInt8) (hl : keys.length ≤ 100) : clsOf keys (-1) = if dgs (fi keys) keys.length = keys then some (keys.map fun c => (c.toNat : Int) - 48) else none := by
  have h := cls_from keys hl keys.length 0 rfl (can_zero keys)
  simpa [nums] using h

theorem dgs_len (f : Nat → Nat) (k : Nat) : (dgs f k).length = k := by simp [dgs]

/-- A text is a written case, as the document reads it, just if what it means is written so. -/
theorem parse_iff (m : ByteArray) (n c : Nat) (hn : n ≤ 100) (hs : m.size = n + 1 + c) : Rdg.parse n c m.data.toList = if wrt (fi (m.data.toList.take n)) n (hlo m n c) = m.data.toList then some ((m.data.toList.take n).map fun c => (c.toNat : Int) - 48, hlo m n c) else none := by
  have hl : m.data.toList.length = n + 1 + c := by rw [← hs]; simp
  rw [hlo_drop m n c hs]
  generalize m.data.toList = l at *
  have hlk : (l.take n).length = n := by rw [List.length_take]; omega
  have hsp : l = l.take n ++ [l.getD n 0] ++ l.drop (n + 1) := by
    have h1 : n < l.length := by omega
    rw [List.getD_eq_getElem?_getD, List.getElem?_eq_getElem h1]
    have h2 := List.take_append_drop n l
    rw [List.drop_eq_getElem_cons h1] at h2
    simp
  have hcl := cls_iff (l.take n) (by omega)
  rw [hlk] at hcl
  have hho := hldOf_bits (l.drop (n + 1))
  have key : wrt (fi (l.take n)) n ((l.drop (n + 1)).map (· == 49)) = l ↔ dgs (fi (l.take n)) n = l.take n ∧ l.getD n 0 = 47 ∧ bits ((l.drop (n + 1)).map (· == 49)) = l.drop (n + 1) := by
    unfold wrt
    constructor
    · intro e
      have e1 := e.trans hsp
      rw [List.append_assoc, List.append_assoc] at e1
      obtain ⟨e2, e3⟩ := List.append_inj e1 (by rw [dgs_len, hlk])
      obtain ⟨e4, e5⟩ := List.append_inj e3 rfl
      exact ⟨e2, (List.cons.inj e4).1.symm, e5⟩
    · rintro ⟨e1, e2, e3⟩
      rw [e1, e3, ← e2]
      exact hsp.symm
  unfold Rdg.parse
  by_cases h47 : l.getD n 0 = 47
  · rw [if_neg (by rw [h47]; simp [hl])]
    rw [hcl, hho]
    by_cases h1 : dgs (fi (l.take n)) n = l.take n
    · rw [if_pos h1]
      by_cases h2 : bits ((l.drop (n + 1)).map (· == 49)) = l.drop (n + 1)
      · rw [if_pos h2, if_pos (key.2 ⟨h1, h47, h2⟩)]; rfl
      · rw [if_neg h2, if_neg (fun e => h2 (key.1 e).2.2)]; rfl
    · rw [if_neg h1, if_neg (fun e => h1 (key.1 e).1)]
  · rw [if_pos (Or.inr h47), if_neg (fun e => h47 (key.1 e).2.1)]

end Go.Proofs.YthcppbmkacbbiaaGreat

namespace Go.Proofs.YthcppbmkacbbiaaGreat
open Go.RowKit
open Rdg (St put cut clsOf hldOf)

set_option maxHeartbeats 1000000 in
theorem Rholds_bad (w : World) (s m : ByteArray) (hm : s.size ≤ maxLen) (hE : (rchk s).1 ≠ 0) :
    Calls Tryz.prog 39 #[.string s, .string m] w fun e w' => e = .returned (.tuple #[.bool false, .int .i64 (rchk s).1]) ∧ Below w.heap.size w w' := by
  have HR := hide (fun w => Rread_chk w s hm)
  generalize rchk s = c at HR hE
  have hb : (c.1 != 0) = true := by simpa using hE
  go_enter Tryz.func39, Tryz.ntmps39
  go_wp2_with fail
  refine ((unhide HR) _).mono ?_
  rintro e w1 ⟨rfl, h1⟩
  go_wp2_with fail
  go_ret2
  exact ⟨rfl, h1⟩

/-- What the document says of a text, by the formula's terms and claims. -/
def rhld (s m : ByteArray) (T C : List (List UInt8)) : Bool × Int :=
  match Rdg.parse T.length C.length m.data.toList with
  | none => (false, 6)
  | some (cl, hl) => (snd T C cl hl && tru s cl hl, 0)

set_option maxHeartbeats 1000000 in
theorem Rholds_ok (w : World) (s m : ByteArray) (hs : s.size ≤ 100) (hm : m.size ≤ maxLen) (τ : St) (HT : Hid (rall s = τ)) (hE : τ.E = 0) (hlt : ¬ τ.a < s.size) (h7 : τ.T.length ≤ 7) (h4 : τ.C.length ≤ 4) (hG : GoodT τ.T τ.C) :
    Calls Tryz.prog 39 #[.string s, .string m] w fun e w' => e = .returned (.tuple #[.bool (rhld s m τ.T τ.C).1, .int .i64 (rhld s m τ.T τ.C).2]) ∧ Below w.heap.size w w' := by
  have HR := hide (Rread_ok w s hs τ HT hE hlt h7 h4)
  have HP := hide (fun (w1 : World) (v4 v5 : Value) c4 c5 r4 r5 => parse_any w1 w.heap.size m v4 v5 τ.T τ.C h7 h4 hm c4 c5 r4 r5)
  have HS := hide (fun (w1 : World) (cl : List Int) (hl : List Bool) (k1 k2 v4 v5 : Value) h1 h2 h => sound_walk w1 w.heap.size τ.T τ.C cl hl k1 k2 v4 v5 hG h7 h4 h1 h2 h)
  have HV := hide (fun (w1 : World) (cl : List Int) (hl : List Bool) (k1 k2 : Value) h1 h2 h => true_any w1 s k1 k2 cl hl hs (by rw [unhide HT]; exact hE) (by rw [unhide HT]; exact h1) (by rw [unhide HT]; exact h2) h)
  obtain ⟨r, hr⟩ : ∃ r, rhld s m τ.T τ.C = r := ⟨_, rfl⟩
  rw [hr]
  have HRS := hide hr
  clear hr
  go_enter Tryz.func39, Tryz.ntmps39
  go_wp2_with fail
  refine (unhide HR).mono ?_
  rintro e w1 ⟨rfl, h1, hI⟩
  obtain ⟨v4, v5, c4, c5, r4, r5, _⟩ := hI.rows
  have hlt1 := hI.lt
  have R4 := hide (row_base r4 (Nat.zero_le _))
  have R5 := hide (row_base r5 (Nat.zero_le _))
  clear hI HR r4 r5
  go_wp2_with fail
  refine (unhide HP w1 v4 v5 c4 c5 (unhide R4) (unhide R5)).mono ?_
  rintro e w2 ⟨h2, a1, n1, e1, a2, n2, e2, ok, rfl, hok, hcs⟩
  have hb2 : Below w.heap.size w w2 := h1.trans ⟨h2.os, h2.tape, h2.output, h2.size, fun j hj => h2.block j (by have := h1.size; omega)⟩
  have d4 := (h2.cell (p := ⟨w.heap.size, 4, none⟩) hlt1).trans c4
  have d5 := (h2.cell (p := ⟨w.heap.size, 5, none⟩) hlt1).trans c5
  have hg2 : w1.grownBy w2 none := ⟨h2.os, h2.tape, h2.output, h2.size, fun j hj _ => h2.block j hj⟩
  have HCS := hide hcs
  clear hcs
  cases hp : Rdg.parse τ.T.length τ.C.length m.data.toList with
  | none =>
    rw [hp] at hok
    simp only [Option.isSome] at hok
    subst hok
    have HPN := hide hp
    clear hp
    go_wp2_with fail
    go_ret2
    have hr := unhide HRS
    unfold rhld at hr
    rw [unhide HPN] at hr
    exact ⟨by rw [← hr]; rfl, hb2.alloc hb2.size _⟩
  | some x =>
    obtain ⟨cl, hl⟩ := x
    rw [hp] at hok
    simp only [Option.isSome] at hok
    subst hok
    have hcs := unhide HCS cl hl hp
    obtain ⟨l1, l2, _⟩ := parse_length hp
    have HPN := hide hp
    clear hp
    go_wp2_with fail
    obtain ⟨w3, hw3⟩ : ∃ w3, w2.alloc (.cells #[.slice a1 n1 e1, .slice a2 n2 e2] 118) = w3 := ⟨_, rfl⟩
    have h3 : Below w2.heap.size w2 w3 := by rw [← hw3]; exact (Below.refl _ _).alloc (Nat.le_refl _) _
    have y0 : w3.cell? ⟨w2.heap.size, 0, none⟩ = some (.slice a1 n1 e1) := by rw [← hw3]; simp [go_sem]
    have y1 : w3.cell? ⟨w2.heap.size, 1, none⟩ = some (.slice a2 n2 e2) := by rw [← hw3]; simp [go_sem]
    have hs3 : w2.heap.size < w3.heap.size := by rw [← hw3]; simp
    rw [hw3]
    clear hw3
    have hg3 : w1.grownBy w3 none := hg2.trans ⟨h3.os, h3.tape, h3.output, h3.size, fun j hj _ => h3.block j hj⟩
    have hlt2 : w.heap.size < w2.heap.size := Nat.lt_of_lt_of_le hlt1 h2.size
    have hSn : SndIn (w3.alloc (.cells #[.slice a1 n1 e1, .slice a2 n2 e2] 118)) w.heap.size w3.heap.size τ.T τ.C cl hl (.slice a1 n1 e1) (.slice a2 n2 e2) v4 v5 := by
      have hg4 : w1.grownBy (w3.alloc (.cells #[.slice a1 n1 e1, .slice a2 n2 e2] 118)) none := hg3.trans (World.grownBy_alloc _ _ none)
      have hb4 : Below w2.heap.size w2 (w3.alloc (.cells #[.slice a1 n1 e1, .slice a2 n2 e2] 118)) := h3.alloc h3.size _
      refine ⟨hg4.cell c4 (by simp), hg4.cell c5 (by simp), by simp [go_sem], by simp [go_sem], (unhide R4).kept hg4 (Classical.em _), (unhide R5).kept hg4 (Classical.em _), (hcs.below hb4).up (by omega)⟩
    refine (unhide HS w3 cl hl (.slice a1 n1 e1) (.slice a2 n2 e2) v4 v5 (by omega) (by omega) hSn).mono ?_
    rintro e w4 ⟨rfl, h4'⟩
    have hb24 : Below w2.heap.size w2 w4 := h3.trans ⟨h4'.os, h4'.tape, h4'.output, h4'.size, fun j hj => h4'.block j (by omega)⟩
    have y0' := (h4'.cell (p := ⟨w2.heap.size, 0, none⟩) hs3).trans y0
    have y1' := (h4'.cell (p := ⟨w2.heap.size, 1, none⟩) hs3).trans y1
    have hcs4 : CS w4 w4.heap.size (.slice a1 n1 e1) (.slice a2 n2 e2) cl hl := (hcs.below hb24).up hb24.size
    clear hSn
    have HV2 := hide (unhide HV w4 cl hl (.slice a1 n1 e1) (.slice a2 n2 e2) (by omega) (by omega) hcs4)
    have hr := unhide HRS
    unfold rhld at hr
    rw [unhide HPN] at hr
    simp only at hr
    have HR3 := hide hr
    clear hr HRS
    generalize snd τ.T τ.C cl hl = q1 at HR3 ⊢
    generalize tru s cl hl = q2 at HR3 HV2
    clear HV HS hcs4
    go_wp2_with fail
    refine (unhide HV2).mono ?_
    rintro e w5 ⟨rfl, h5⟩
    have hb5 : Below w.heap.size w w5 := (hb2.trans ⟨hb24.os, hb24.tape, hb24.output, hb24.size, fun j hj => hb24.block j (by omega)⟩).trans ⟨h5.os, h5.tape, h5.output, h5.size, fun j hj => h5.block j (by have := hb24.size; omega)⟩
    cases q1
    · go_wp2_with fail
      go_ret2
      exact ⟨by rw [← unhide HR3]; simp, hb5⟩
    · go_wp2_with fail
      go_ret2
      exact ⟨by rw [← unhide HR3]; simp, hb5⟩

end Go.Proofs.YthcppbmkacbbiaaGreat

namespace Go.Proofs.YthcppbmkacbbiaaGreat
open Go.RowKit Go.Maps Go.WideMaps
open Rdg (Key put St InvP pvs)

set_option maxHeartbeats 400000 in
theorem holds_bad (w : World) (s m : ByteArray) (hm : s.size ≤ maxLen) (hE : (chk s).1 ≠ 0) :
    Calls Tryz.prog 34 #[.string s, .string m] w fun e w' => e = .returned (.tuple #[.bool false, .int .i64 (chk s).1]) ∧ Below w.heap.size w w' := by
  have HR := hide (fun w => read_chk w s hm)
  generalize chk s = c at HR hE
  have hb : (c.1 != 0) = true := by simpa using hE
  go_enter Tryz.func34, Tryz.ntmps34
  go_wp2_with fail
  refine ((unhide HR) _).mono ?_
  rintro e w1 ⟨⟨p0, n0, c0, p1, n1, c1, p2, n2, c2, rfl⟩, h1⟩
  go_wp2_with fail
  go_ret2
  exact ⟨rfl, h1.alloc h1.size _⟩

/-- What the program says of a text, by what was read of the formula. -/
def hld (m : ByteArray) (ts : List Key) (cs : List (Int × Nat)) (ps : List Key) (cl : List Int) : Bool × Int :=
  if m.size = ts.length + 1 + cs.length ∧ wrt (fi (m.data.toList.take ts.length)) ts.length (hlo m ts.length cs.length) = m.data.toList then (isM (fi (m.data.toList.take ts.length)) ts cs ps cl (hlo m ts.length cs.length), 0) else (false, 6)

set_option linter.unusedSimpArgs false in
set_option maxHeartbeats 1000000 in
theorem holds_ok (w : World) (s m : ByteArray) (cl : List Int) (hs : s.size ≤ 100) (ts : List Key) (cs : List (Int × Nat)) (ps : List Key) (mm : Nat) (HR : Rdg.rdP (pk s) (s.size + 1) 0 0 [] [] [] = .ok (s.size, ts, cs, ps, mm)) (h7 : ts.length ≤ 7) (h4 : cs.length ≤ 4) (hi : Rdg.Inv ts) (hic : Rdg.InvC ts cs)
    (hnd : cs.Nodup) (hip : Rdg.InvP ts.length cs.length ps) (hp0 : 0 < ps.length) (hp : ps.length ≤ 100) (hicc : ∀ x ∈ cs, (x.1 = 80 ∨ x.1 = 81) ∧ x.2 < ts.length)
    (hcl : m.size = ts.length + 1 + cs.length → ∀ i j, i < ts.length → j < ts.length → (fi (m.data.toList.take ts.length) i = fi (m.data.toList.take ts.length) j ↔ cl.getD i 0 = cl.getD j 0)) :
    Calls Tryz.prog 34 #[.string s, .string m] w fun e w' => e = .returned (.tuple #[.bool (hld m ts cs ps cl).1, .int .i64 (hld m ts cs ps cl).2]) ∧ Below w.heap.size w w' := by
  have HO := hide (read_right w s hs ts cs ps mm HR h7 h4 hi hic hnd hip hp)
  have hhlen : (hlo m ts.length cs.length).length = cs.length := by simp [hlo]
  have HM : Hid (m.size = ts.length + 1 + cs.length → ∀ (GT GC GP b H : Nat) (W : World), RowsT W GT ts → RowsC W GC cs → RowsT W GP ps → CMap W b (fi (m.data.toList.take ts.length)) ts.length 100 → RowsH W H (hlo m ts.length cs.length) →
      Calls Tryz.prog 55 #[fv GT GC GP ts.length cs.length ps.length, sv b H cs.length] W fun e w' => e = .returned (.bool (isM (fi (m.data.toList.take ts.length)) ts cs ps cl (hlo m ts.length cs.length))) ∧ Below W.heap.size W w') := fun he GT GC GP b H W r1 r2 r3 r4 r5 => by
    have hl2 : (m.data.toList.take ts.length).length = ts.length := by
      have : m.data.toList.length = m.size := by simp
      rw [List.length_take]; omega
    have h := isModel_any GT GC GP b 100 H (fi (m.data.toList.take ts.length)) ts cs ps cl (hlo m ts.length cs.length) W h7 h4 hp0 hp hhlen r1 r2 r3 hi hicc hip (fun i hi => ⟨fi_le _ i (by omega), fi_fi _ i (by omega)⟩) (hcl he) r4 r5
    rw [hhlen] at h
    exact h
  have HS1 := hide (fun (GT GC GP : Nat) (W : World) (he : m.size ≠ ts.length + 1 + cs.length) => situation_len GT GC GP ts.length cs.length ps.length m W h7 h4 he)
  have HS2 := hide (fun (GT GC GP : Nat) (W : World) (he : m.size = ts.length + 1 + cs.length) => situation_ok GT GC GP ts.length cs.length ps.length m W h7 h4 he)
  have hhld : hld m ts cs ps cl = hld m ts cs ps cl := rfl
  unfold hld
  generalize isM (fi (m.data.toList.take ts.length)) ts cs ps cl (hlo m ts.length cs.length) = bm at HM ⊢
  generalize wrt (fi (m.data.toList.take ts.length)) ts.length (hlo m ts.length cs.length) = wt at HS2 ⊢
  obtain ⟨r, hr⟩ : ∃ r : Bool × Int, (if m.size = ts.length + 1 + cs.length ∧ wt = m.data.toList then (bm, (0 : Int)) else (false, 6)) = r := ⟨_, rfl⟩
  rw [hr]
  have HRS := hide hr
  clear hi hic HR hip hcl hhlen hicc hnd hhld hr
  unfold fv at HO HM HS1 HS2
  unfold sv at HM HS2
  go_enter Tryz.func34, Tryz.ntmps34
  go_wp2_with fail
  refine (unhide HO).mono ?_
  rintro e w1 ⟨GT, GC, GP, rfl, h1, hfr⟩
  have hT1 := rowT_of hfr.t
  have hC1 := rowC_of hfr.c
  have hP1 := rowT_of hfr.p
  have M1 := hide hT1
  have M2 := hide hC1
  have M3 := hide hP1
  clear hT1 hC1 hP1 HO hfr
  go_wp2_with fail
  obtain ⟨w2, hw2⟩ : ∃ w2, w1.alloc (.cells #[.slice (some ⟨GT, 0, none⟩) ts.length ts.length, .slice (some ⟨GC, 0, none⟩) cs.length cs.length, .slice (some ⟨GP, 0, none⟩) ps.length ps.length] 54) = w2 := ⟨_, rfl⟩
  have hbn : Below w1.heap.size w1 w2 := by rw [← hw2]; exact (Below.refl w1.heap.size w1).alloc (Nat.le_refl _) _
  have hs2 : w2.heap.size = w1.heap.size + 1 := by rw [← hw2]; simp
  have q0 : w2.cell? ⟨w1.heap.size, 0, none⟩ = some (.slice (some ⟨GT, 0, none⟩) ts.length ts.length) := by rw [← hw2]; simp [go_sem]
  have q1 : w2.cell? ⟨w1.heap.size, 1, none⟩ = some (.slice (some ⟨GC, 0, none⟩) cs.length cs.length) := by rw [← hw2]; simp [go_sem]
  have q2 : w2.cell? ⟨w1.heap.size, 2, none⟩ = some (.slice (some ⟨GP, 0, none⟩) ps.length ps.length) := by rw [← hw2]; simp [go_sem]
  rw [hw2]
  have hb2 : Below w.heap.size w w2 := h1.trans ⟨hbn.os, hbn.tape, hbn.output, hbn.size, fun j hj => hbn.block j (by have := h1.size; omega)⟩
  clear hw2
  by_cases he : m.size = ts.length + 1 + cs.length
  · refine (unhide HS2 GT GC GP w2 he).mono ?_
    rintro e w3 ⟨b, H, rfl, lb, lh, hcm, hrh, h3⟩
    have c0 := (h3.cell (p := ⟨w1.heap.size, 0, none⟩) (by show w1.heap.size < _; omega)).trans q0
    have c1 := (h3.cell (p := ⟨w1.heap.size, 1, none⟩) (by show w1.heap.size < _; omega)).trans q1
    have c2 := (h3.cell (p := ⟨w1.heap.size, 2, none⟩) (by show w1.heap.size < _; omega)).trans q2
    have hs3 : w1.heap.size < w3.heap.size := by have := h3.size; omega
    have CM := hide hcm
    have RH := hide hrh
    have hb3 : Below w.heap.size w w3 := hb2.trans ⟨h3.os, h3.tape, h3.output, h3.size, fun j hj => h3.block j (by have := h1.size; omega)⟩
    have lM := hcm.lt
    have lR := hrh.1
    clear hcm hrh
    by_cases hw : wt = m.data.toList
    · have HW := hide hw
      rw [decide_eq_true hw]
      clear hw
      go_wp2_with fail
      have hb4 : Below w3.heap.size w3 (w3.alloc (.cells #[.map (some b), .slice (some ⟨H, 0, none⟩) cs.length cs.length] 105)) := (Below.refl _ _).alloc (Nat.le_refl _) _
      have hrow : ∀ j, j < w1.heap.size → (w3.alloc (.cells #[.map (some b), .slice (some ⟨H, 0, none⟩) cs.length cs.length] 105)).heap[j]? = w1.heap[j]? := fun j hj => (hb4.block j (by omega)).trans ((h3.block j (by omega)).trans (hbn.block j hj))
      refine (unhide HM he GT GC GP b H _ ((unhide M1).same (hrow _ (unhide M1).1)) ((unhide M2).same (hrow _ (unhide M2).1)) ((unhide M3).same (hrow _ (unhide M3).1)) ((unhide CM).kept (hb4.block _ lM)) ((unhide RH).same (hb4.block _ lR))).mono ?_
      rintro e w5 ⟨rfl, h5⟩
      have hb5 : Below w.heap.size w w5 := (hb3.trans ⟨hb4.os, hb4.tape, hb4.output, hb4.size, fun j hj => hb4.block j (by have := h1.size; omega)⟩).trans ⟨h5.os, h5.tape, h5.output, h5.size, fun j hj => h5.block j (by have := h1.size; simp; omega)⟩
      have hr := unhide HRS
      rw [if_pos ⟨he, unhide HW⟩] at hr
      have HR2 := hide hr
      clear hr
      go_wp2_with fail
      go_ret2
      exact ⟨by rw [← unhide HR2]; rfl, hb5⟩
    · have HW := hide hw
      rw [decide_eq_false hw]
      clear hw
      go_wp2_with fail
      go_ret2
      have hr := unhide HRS
      rw [if_neg (fun h => unhide HW h.2)] at hr
      exact ⟨by rw [← hr]; rfl, hb3.alloc hb3.size _⟩
  · refine (unhide HS1 GT GC GP w2 he).mono ?_
    rintro e w3 ⟨rfl, h3⟩
    have hb3 : Below w.heap.size w w3 := hb2.trans ⟨h3.os, h3.tape, h3.output, h3.size, fun j hj => h3.block j (by have := h1.size; omega)⟩
    have HE := hide he
    clear he
    go_wp2_with fail
    go_ret2
    have hr := unhide HRS
    rw [if_neg (fun h => unhide HE h.1)] at hr
    exact ⟨by rw [← hr]; rfl, hb3.alloc hb3.size _⟩

end Go.Proofs.YthcppbmkacbbiaaGreat

namespace Go.Proofs.YthcppbmkacbbiaaGreat
open Rdg (Key Inv InvC texts rend rendC okKey Bal inn inn_one inn_two pvs)

theorem badC_iff {ts : List Key} {cs : List (Int × Nat)} (h : Inv ts) (hc : InvC ts cs) {cl : List Int} {hl : List Bool} {f : Nat → Nat} (hcl : ∀ i j, i < ts.length → j < ts.length → (f i = f j ↔ cl.getD i 0 = cl.getD j 0)) {i k : Nat} (hi : i < cs.length) (hk : k < cs.length) :
    badC (texts ts) (ctx ts cs) cl hl i k = true ↔ (cs[i].1 = cs[k].1 ∧ f cs[i].2 = f cs[k].2) ∧ hl.getD i false ≠ hl.getD k false := by
  have b : ∀ x, x < ts.length → Bal ((texts ts).getD x []) := fun x hx => h.bal (x + 1) x (by omega) hx
  have e : ∀ j (hj : j < cs.length), (ctx ts cs).getD j [] = UInt8.ofNat cs[j].1.toNat :: 40 :: ((texts ts).getD cs[j].2 [] ++ [41]) := fun j hj => by
    rw [List.getD_eq_getElem?_getD]
    simp [ctx, hj, rendC]
  obtain ⟨p1, p2⟩ := hc _ (List.getElem_mem hi)
  obtain ⟨q1, q2⟩ := hc _ (List.getElem_mem hk)
  unfold badC
  rw [e i hi, e k hk, inn_one (b _ p2), inn_one (b _ q2), eqB_at h cl p2 q2, hcl _ _ p2 q2]
  have hh : ((UInt8.ofNat cs[i].1.toNat :: 40 :: ((texts ts).getD cs[i].2 [] ++ [41])).headD 0 = (UInt8.ofNat cs[k].1.toNat :: 40 :: ((texts ts).getD cs[k].2 [] ++ [41])).headD 0) ↔ cs[i].1 = cs[k].1 := by
    simp only [List.headD_cons]
    rcases p1 with p1 | p1 <;> rcases q1 with q1 | q1 <;> rw [p1, q1] <;> decide
  simp only [Bool.and_eq_true, decide_eq_true_eq]
  rw [hh]
  constructor
  · rintro ⟨⟨a, b⟩, c⟩; exact ⟨⟨a, c⟩, b⟩
  · rintro ⟨⟨a, c⟩, b⟩; exact ⟨⟨a, b⟩, c⟩

theorem snd_keys {ts : List Key} {cs : List (Int × Nat)} (h : Inv ts) (hc : InvC ts cs) {cl : List Int} {hl : List Bool} {f : Nat → Nat} (hcl : ∀ i j, i < ts.length → j < ts.length → (f i = f j ↔ cl.getD i 0 = cl.getD j 0)) :
    snd (texts ts) (ctx ts cs) cl hl = (decide (∀ p ∈ prs (mkd f ts) ts.length, f p.1 = f p.2) && decide (∀ p ∈ prs (mkc f cs) cs.length, hl.getD p.1 false = hl.getD p.2 false)) := by
  have hA := prs_all (mkd f ts) (fun i j => f i = f j) (fun _ => rfl) (fun _ _ e => e.symm) (fun _ _ _ e1 e2 => e1.trans e2)
  have hB := prs_all (mkc f cs) (fun i j => hl.getD i false = hl.getD j false) (fun _ => rfl) (fun _ _ e => e.symm) (fun _ _ _ e1 e2 => e1.trans e2)
  rw [mkd_length] at hA
  rw [mkc_length] at hB
  have ctxl : (ctx ts cs).length = cs.length := by simp [ctx]
  rw [Bool.eq_iff_iff, Bool.and_eq_true, decide_eq_true_eq, decide_eq_true_eq, hA, hB]
  unfold snd
  rw [Bool.and_eq_true, List.all_eq_true, List.all_eq_true, Rdg.texts_length, ctxl]
  constructor
  · rintro ⟨s1, s2⟩
    refine ⟨fun i j hi hj e => ?_, fun i j hi hj e => ?_⟩
    · have h1 := List.all_eq_true.1 (s1 i (List.mem_range.2 hi)) j (List.mem_range.2 hj)
      have h2 : ¬ badT (texts ts) cl i j = true := by simpa using h1
      rw [badT_iff h hcl hi hj] at h2
      simp only [mkd, List.getElem?_map, List.getElem?_eq_getElem hi, List.getElem?_eq_getElem hj, Option.map_some, Option.some.injEq, Prod.mk.injEq] at e
      exact Classical.byContradiction fun n => h2 ⟨e, n⟩
    · have h1 := List.all_eq_true.1 (s2 i (List.mem_range.2 hi)) j (List.mem_range.2 hj)
      have h2 : ¬ badC (texts ts) (ctx ts cs) cl hl i j = true := by simpa using h1
      rw [badC_iff h hc hcl hi hj] at h2
      simp only [mkc, List.getElem?_map, List.getElem?_eq_getElem hi, List.getElem?_eq_getElem hj, Option.map_some, Option.some.injEq, Prod.mk.injEq] at e
      exact Classical.byContradiction fun n => h2 ⟨e, n⟩
  · rintro ⟨s1, s2⟩
    refine ⟨fun i hi => List.all_eq_true.2 fun j hj => ?_, fun i hi => List.all_eq_true.2 fun j hj => ?_⟩
    · have hi' := List.mem_range.1 hi
      have hj' := List.mem_range.1 hj
      have h2 : ¬ badT (texts ts) cl i j = true := by
        rw [badT_iff h hcl hi' hj']
        rintro ⟨e, n⟩
        exact n (s1 i j hi' hj' (by simp [mkd, hi', hj', e]))
      simpa using h2
    · have hi' := List.mem_range.1 hi
      have hj' := List.mem_range.1 hj
      have h2 : ¬ badC (texts ts) (ctx ts cs) cl hl i j = true := by
        rw [badC_iff h hc hcl hi' hj']
        rintro ⟨e, n⟩
        exact n (s2 i j hi' hj' (by simp [mkc, hi', hj', e]))
      simpa using h2

/-- The classes that a text's digits tell. -/
def dig (m : ByteArray) (n : Nat) : List Int := (m.data.toList.take n).map fun c => (c.toNat : Int) - 48

theorem dig_cl (m : ByteArray) (n c : Nat) (hs : m.size = n + 1 + c) : ∀ i j, i < n → j < n → (fi (m.data.toList.take n) i = fi (m.data.toList.take n) j ↔ (dig m n).getD i 0 = (dig m n).getD j 0) := by
  intro i j hi hj
  have hl : (m.data.toList.take n).length = n := by
    have : m.data.toList.length = m.size := by simp
    rw [List.length_take]; omega
  have hi' : i < (m.data.toList.take n).length := by omega
  have hj' : j < (m.data.toList.take n).length := by omega
  rw [fi_eq hi' hj']
  unfold dig
  rw [List.getD_eq_getElem?_getD, List.getD_eq_getElem?_getD, List.getElem?_map, List.getElem?_map, List.getElem?_eq_getElem hi', List.getElem?_eq_getElem hj']
  simp only [Option.map_some, Option.getD_some]
  constructor
  · intro e; rw [e]
  · intro e; exact u8_ext (by omega)

/-- The program and the document say the same of every text. -/
theorem hld_rhld (s m : ByteArray) (ts : List Key) (cs : List (Int × Nat)) (ps : List Key) (hR : Rdg.rdP (pk s) (s.size + 1) 0 0 [] [] [] = .ok (s.size, ts, cs, ps, ps.length - 1)) (h7 : ts.length ≤ 7) (hi : Inv ts) (hic : InvC ts cs) :
    rhld s m (texts ts) (ctx ts cs) = hld m ts cs ps (dig m ts.length) := by
  have ctxl : (ctx ts cs).length = cs.length := by simp [ctx]
  unfold rhld hld
  rw [Rdg.texts_length, ctxl]
  by_cases hs : m.size = ts.length + 1 + cs.length
  · rw [parse_iff m ts.length cs.length (by omega) hs]
    by_cases hw : wrt (fi (m.data.toList.take ts.length)) ts.length (hlo m ts.length cs.length) = m.data.toList
    · rw [if_pos hw, if_pos ⟨hs, hw⟩]
      simp only
      have hcl := dig_cl m ts.length cs.length hs
      have e1 := snd_keys hi hic (hl := hlo m ts.length cs.length) hcl
      have e2 := tru_last s (dig m ts.length) (hlo m ts.length cs.length) ts cs ps _ hR
      unfold dig at e1 e2
      rw [e1, e2]
      rfl
    · rw [if_neg hw, if_neg (fun h => hw h.2)]
  · have hp : Rdg.parse ts.length cs.length m.data.toList = none := by
      unfold Rdg.parse
      rw [if_pos (Or.inl (by simpa using hs))]
    rw [hp, if_neg (fun h => hs h.1)]

end Go.Proofs.YthcppbmkacbbiaaGreat

namespace Go.Proofs.YthcppbmkacbbiaaGreat
open Go.RowKit
open Rdg (St put Key)

/-- What Holds tells. -/
def mtell (s m : ByteArray) : Bool × Int := if s.size ≤ 100 ∧ (chk s).1 = 0 then rhld s m (rall s).T (rall s).C else (false, (chk s).1)

theorem chk_long {s : ByteArray} (h : ¬ (s.size ≤ 100 ∧ (chk s).1 = 0)) : (chk s).1 ≠ 0 := by
  intro h0
  refine h ⟨?_, h0⟩
  unfold chk at h0
  by_cases h1 : 100 < s.size
  · rw [if_pos h1] at h0; simp at h0
  · omega

theorem holds_any (w : World) (s m : ByteArray) (hm : s.size ≤ maxLen) :
    Calls Tryz.prog 34 #[.string s, .string m] w fun e w' => e = .returned (.tuple #[.bool (mtell s m).1, .int .i64 (mtell s m).2]) ∧ Below w.heap.size w w' := by
  unfold mtell
  by_cases h : s.size ≤ 100 ∧ (chk s).1 = 0
  · rw [if_pos h]
    obtain ⟨ts, cs, ps, h1, h2, h3, h4, h5, h6, h7, h8, h9, h10, h11, h12⟩ := right_parts s h.1 h.2
    have g := holds_ok w s m (dig m ts.length) h.1 ts cs ps _ h1 h2 h3 h4 h5 h9 h10 h11 h12 (fun x hx => h5 x hx) (fun he => dig_cl m ts.length cs.length he)
    rw [← hld_rhld s m ts cs ps h1 h2 h4 h5] at g
    rw [h6]
    exact g
  · rw [if_neg h]
    exact holds_bad w s m hm (chk_long h)

theorem Rholds_any (w : World) (s m : ByteArray) (hm : s.size ≤ maxLen) (hmm : m.size ≤ maxLen) :
    Calls Tryz.prog 39 #[.string s, .string m] w fun e w' => e = .returned (.tuple #[.bool (mtell s m).1, .int .i64 (mtell s m).2]) ∧ Below w.heap.size w w' := by
  unfold mtell
  by_cases h : s.size ≤ 100 ∧ (chk s).1 = 0
  · rw [if_pos h]
    obtain ⟨ts, cs, ps, h1, h2, h3, h4, h5, h6, h7, h8, h9, h10, _, h12⟩ := right_parts s h.1 h.2
    have hT : (rall s).T = Rdg.texts ts := by rw [h6]
    have hC : (rall s).C = ctx ts cs := by rw [h6]
    exact Rholds_ok w s m h.1 hmm (rall s) (hide rfl) (by rw [h6]) (by rw [h6]; simp) (by rw [hT, Rdg.texts_length]; exact h2) (by rw [hC, show (ctx ts cs).length = cs.length by simp [ctx]]; exact h3) (by rw [hT, hC]; exact good_texts h4 h5 h7 h8)
  · rw [if_neg h]
    have g := Rholds_bad w s m hm (by rw [rchk_chk]; exact chk_long h)
    rw [rchk_chk] at g
    exact g

set_option maxRecDepth 100000 in
set_option maxHeartbeats 1000000 in
theorem plays_holds (w : World) (n : Int) (s t : ByteArray) (hm : s.size ≤ maxLen) (ht : t.size ≤ maxLen) :
    Calls Tryz.prog 29 #[.agg #[.int .i64 3, .int .i64 n, .string s, .string t]] w fun e w' => e = .returned (.bool true) ∧ Below w.heap.size w w' := by
  have H1 := hide (fun w => holds_any w s t hm)
  have H2 := hide (fun w => Rholds_any w s t hm ht)
  generalize mtell s t = c at H1 H2
  obtain ⟨x, E⟩ := c
  go_enter Tryz.func29, Tryz.ntmps29
  go_wp2_with fail
  refine ((unhide H1) _).mono ?_
  rintro e w1 ⟨rfl, b1⟩
  have hlt : w.heap.size < (w.alloc (.cells #[.int .i64 3, .int .i64 n, .string s, .string t] 48)).heap.size := by simp
  have x0 : w1.cell? ⟨w.heap.size, 2, none⟩ = some (.string s) := by rw [b1.cell hlt]; exact World.cell?_alloc_at _ _ _ _ rfl
  have x1 : w1.cell? ⟨w.heap.size, 3, none⟩ = some (.string t) := by rw [b1.cell hlt]; exact World.cell?_alloc_at _ _ _ _ rfl
  go_wp2_with fail
  refine ((unhide H2) _).mono ?_
  rintro e w2 ⟨rfl, b2⟩
  go_wp2_with fail
  refine (num_any _ _).mono ?_
  rintro e w3 ⟨rfl, rfl⟩
  go_wp2_with fail
  go_ret
  refine ⟨by simp, ?_⟩
  have hsz := b1.size
  exact (((Below.refl w.heap.size w).alloc (Nat.le_refl _) _).trans (b1.mono (by simp))).trans (b2.mono (by simp at hsz; omega))

end Go.Proofs.YthcppbmkacbbiaaGreat
