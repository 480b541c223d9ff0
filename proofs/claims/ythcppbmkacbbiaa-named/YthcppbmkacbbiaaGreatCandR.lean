import Derived.Test.YthcppbmkacbbiaaGreatCandFs
import Derived.Test.YthcppbmkacbbiaaGreatRdnM
import Derived.Test.YthcppbmkacbbiaaGreatLstTM
import Derived.Test.YthcppbmkacbbiaaGreatLstCM
import Derived.Test.YthcppbmkacbbiaaGreatLstPM
namespace Go.Proofs.YthcppbmkacbbiaaGreat
open Go.RowKit Go.Maps Go.WideMaps
open Rdg (Key put RT RT2 RF RP RQ)

/-- The world in which the reader has been laid: the result's block, the three numberings, the reader. -/
def start (w : World) (s : ByteArray) : World :=
  ((((w.alloc (.cells #[.slice none 0 0, .slice none 0 0, .slice none 0 0] 54)).alloc (.map #[] 0)).alloc (.map #[] 0)).alloc (.map #[] 0)).alloc (.cells #[.string s, .int .i64 0, .int .i64 0, .int .i64 0, .map (some (w.heap.size + 1)), .map (some (w.heap.size + 1 + 1)), .map (some (w.heap.size + 1 + 1 + 1))] 82)

theorem start_size (w : World) (s : ByteArray) : (start w s).heap.size = w.heap.size + 5 := by simp [start]

theorem start_cell (w : World) (s : ByteArray) (i : Nat) : (start w s).cell? ⟨w.heap.size + 1 + 1 + 1 + 1, i, none⟩ = #[Value.string s, .int .i64 0, .int .i64 0, .int .i64 0, .map (some (w.heap.size + 1)), .map (some (w.heap.size + 1 + 1)), .map (some (w.heap.size + 1 + 1 + 1))][i]? :=
  World.cell?_alloc_at _ _ _ _ (by simp)
theorem start_frozen (w : World) (s : ByteArray) (i : Nat) : (start w s).frozen? ⟨w.heap.size + 1 + 1 + 1 + 1, i, none⟩ = false :=
  World.frozen?_alloc_at _ _ _ _ (by simp)

theorem start_ci (w : World) (s : ByteArray) : CI (start w s) (w.heap.size + 1 + 1 + 1 + 1) (w.heap.size + 1) (w.heap.size + 1 + 1) (w.heap.size + 1 + 1 + 1) s 0 0 [] [] [] where
  c0 := start_cell w s 0
  c1 := start_cell w s 1
  c2 := start_cell w s 2
  c3 := start_cell w s 3
  c4 := start_cell w s 4
  c5 := start_cell w s 5
  c6 := start_cell w s 6
  f1 := start_frozen w s 1
  f2 := start_frozen w s 2
  f3 := start_frozen w s 3
  mt := by
    have h := mapIs_made (w.alloc (.cells #[.slice none 0 0, .slice none 0 0, .slice none 0 0] 54)) 87 kvT
    have e : (w.alloc (.cells #[.slice none 0 0, .slice none 0 0, .slice none 0 0] 54)).heap.size = w.heap.size + 1 := by simp
    rw [e] at h
    exact h.kept (by unfold start; rw [Below.heap_alloc _ _ _ (by simp), Below.heap_alloc _ _ _ (by simp), Below.heap_alloc _ _ _ (by simp)])
  mc := by
    have h := mapIs_made ((w.alloc (.cells #[.slice none 0 0, .slice none 0 0, .slice none 0 0] 54)).alloc (.map #[] 0)) 90 kvC
    have e : ((w.alloc (.cells #[.slice none 0 0, .slice none 0 0, .slice none 0 0] 54)).alloc (.map #[] 0)).heap.size = w.heap.size + 1 + 1 := by simp
    rw [e] at h
    exact h.kept (by unfold start; rw [Below.heap_alloc _ _ _ (by simp), Below.heap_alloc _ _ _ (by simp)])
  mp := by
    have h := mapIs_made (((w.alloc (.cells #[.slice none 0 0, .slice none 0 0, .slice none 0 0] 54)).alloc (.map #[] 0)).alloc (.map #[] 0)) 93 kvT
    have e : (((w.alloc (.cells #[.slice none 0 0, .slice none 0 0, .slice none 0 0] 54)).alloc (.map #[] 0)).alloc (.map #[] 0)).heap.size = w.heap.size + 1 + 1 + 1 := by simp
    rw [e] at h
    exact h.kept (by unfold start; rw [Below.heap_alloc _ _ _ (by simp)])
  nT := by omega
  nC := by omega
  nn := by omega
  nP := by omega
  nTP := by omega
  nCP := by omega

theorem start_below (w : World) (s : ByteArray) : Below w.heap.size w (start w s) :=
  (((((Below.refl _ _).alloc (Nat.le_refl _) _).alloc (by simp) _).alloc (by simp; omega) _).alloc (by simp; omega) _).alloc (by simp; omega) _

theorem start_res (w : World) (s : ByteArray) (i : Nat) : (start w s).cell? ⟨w.heap.size, i, none⟩ = #[Value.slice none 0 0, .slice none 0 0, .slice none 0 0][i]? := by
  unfold start
  rw [World.cell?_alloc_past _ _ _ (by simp; omega), World.cell?_alloc_past _ _ _ (by simp; omega), World.cell?_alloc_past _ _ _ (by simp; omega), World.cell?_alloc_past _ _ _ (by simp)]
  exact World.cell?_alloc_at _ _ _ _ rfl
theorem start_resf (w : World) (s : ByteArray) (i : Nat) : (start w s).frozen? ⟨w.heap.size, i, none⟩ = false := by
  unfold start
  rw [World.frozen?_alloc_past _ _ _ (by simp; omega), World.frozen?_alloc_past _ _ _ (by simp; omega), World.frozen?_alloc_past _ _ _ (by simp; omega), World.frozen?_alloc_past _ _ _ (by simp)]
  exact World.frozen?_alloc_at _ _ _ _ rfl

abbrev KpS (w : World) (a b : World) : Prop := Kp (w.heap.size + 1 + 1 + 1 + 1) (w.heap.size + 1) (w.heap.size + 1 + 1) (w.heap.size + 1 + 1 + 1) a b

theorem res_cell {w w1 : World} {s : ByteArray} (k : KpS w (start w s) w1) (i : Nat) : w1.cell? ⟨w.heap.size, i, none⟩ = #[Value.slice none 0 0, .slice none 0 0, .slice none 0 0][i]? := by
  rw [k.cell (by rw [start_size]; omega) (by omega) (by omega) (by omega) (by omega)]; exact start_res w s i
theorem res_frozen {w w1 : World} {s : ByteArray} (k : KpS w (start w s) w1) (i : Nat) : w1.frozen? ⟨w.heap.size, i, none⟩ = false := by
  rw [k.frozen (by rw [start_size]; omega) (by omega) (by omega) (by omega) (by omega)]; exact start_resf w s i
theorem res_below {w w1 : World} {s : ByteArray} (k : KpS w (start w s) w1) : Below w.heap.size w w1 :=
  (start_below w s).trans (k.below (by rw [start_size]; omega) (by omega) (by omega) (by omega) (by omega))

/-- A formula's three rows. -/
structure FR (w : World) (base GT GC GP : Nat) (ts : List Key) (cs : List (Int × Nat)) (ps : List Key) : Prop where
  t : w.ownsRow base 87 3 (.slice (some ⟨GT, 0, none⟩) ts.length ts.length) ts.length (ts.flatMap ecT)
  c : w.ownsRow base 90 2 (.slice (some ⟨GC, 0, none⟩) cs.length cs.length) cs.length (cs.flatMap ecC)
  p : w.ownsRow base 93 3 (.slice (some ⟨GP, 0, none⟩) ps.length ps.length) ps.length (ps.flatMap ecT)

def fv (GT GC GP nt nc np : Nat) : Value := .agg #[.slice (some ⟨GT, 0, none⟩) nt nt, .slice (some ⟨GC, 0, none⟩) nc nc, .slice (some ⟨GP, 0, none⟩) np np]

section
variable (w : World) (s : ByteArray)
set_option maxHeartbeats 400000 in
theorem read_long (hs : 100 < s.size) (hm : s.size ≤ maxLen) :
    Calls Tryz.prog 30 #[.string s] w fun e w' => e = .returned (.tuple #[.agg #[.slice none 0 0, .slice none 0 0, .slice none 0 0], .int .i64 1, .int .i64 0]) ∧ Below w.heap.size w w' := by
  unfold maxLen at hm
  go_enter Tryz.func30, Tryz.ntmps30
  go_wp2_with fail
  exact bodyPost_ret (v := .tuple #[.agg #[.slice none 0 0, .slice none 0 0, .slice none 0 0], .int .i64 1, .int .i64 0]) (by simp [results, Tryz.results30, go_sem]) rfl ⟨rfl, (Below.refl _ _).alloc (Nat.le_refl _) _⟩

set_option maxHeartbeats 400000 in
theorem read_bad (hs : s.size ≤ 100) (E : Int) (p : Nat) (HR : Hid (Rdg.rdP (pk s) (s.size + 1) 0 0 [] [] [] = .error (E, p))) :
    Calls Tryz.prog 30 #[.string s] w fun e w' => e = .returned (.tuple #[.agg #[.slice none 0 0, .slice none 0 0, .slice none 0 0], .int .i64 E, .int .i64 p]) ∧ Below w.heap.size w w' := by
  have hmm := @run_makeMap Tryz.prog
  have hb : decide ((100 : Int) < (s.size : Int)) = false := by simp; omega
  go_enter Tryz.func30, Tryz.ntmps30
  go_wp2_with fail
  refine (formula_any _ _ _ _ s hs (s.size + 1) (start w s) 0 0 [] [] [] (by omega) (by omega) (by simp) (by simp) (by simp) (by omega) (start_ci w s)).mono ?_
  rw [unhide HR]
  rintro e w1 ⟨k1, ⟨z, rfl⟩, h1⟩
  have r0 := res_cell k1 0
  have r1 := res_cell k1 1
  have r2 := res_cell k1 2
  have q0 := res_frozen k1 0
  have q1 := res_frozen k1 1
  have q2 := res_frozen k1 2
  simp at r0 r1 r2
  have c1 := h1.c1
  have c3 := h1.c3
  go_wp2_with fail
  go_region
  all_goals
    go_wp2_with fail
    refine bodyPost_ret (v := .tuple #[.agg #[.slice none 0 0, .slice none 0 0, .slice none 0 0], .int .i64 E, .int .i64 p]) (by simp [results, Tryz.results30, go_sem, r0, r1, r2]) rfl ⟨rfl, ?_⟩
    exact ((((res_below k1).setCell (Nat.le_refl _) _).setCell (Nat.le_refl _) _).setCell (Nat.le_refl _) _).drew

set_option maxHeartbeats 400000 in
theorem read_end (hs : s.size ≤ 100) (a1 : Nat) (ts : List Key) (cs : List (Int × Nat)) (ps : List Key) (m : Nat) (HR : Hid (Rdg.rdP (pk s) (s.size + 1) 0 0 [] [] [] = .ok (a1, ts, cs, ps, m))) (hlt : a1 < s.size) :
    Calls Tryz.prog 30 #[.string s] w fun e w' => e = .returned (.tuple #[.agg #[.slice none 0 0, .slice none 0 0, .slice none 0 0], .int .i64 2, .int .i64 a1]) ∧ Below w.heap.size w w' := by
  have hmm := @run_makeMap Tryz.prog
  have hb : decide ((100 : Int) < (s.size : Int)) = false := by simp; omega
  go_enter Tryz.func30, Tryz.ntmps30
  go_wp2_with fail
  refine (formula_any _ _ _ _ s hs (s.size + 1) (start w s) 0 0 [] [] [] (by omega) (by omega) (by simp) (by simp) (by simp) (by omega) (start_ci w s)).mono ?_
  rw [unhide HR]
  rintro e w1 ⟨k1, rfl, h1⟩
  go_wp2_with fail
  refine (end_no w1 _ _ _ _ s a1 0 ts cs ps hlt h1).mono ?_
  rintro e w2 ⟨rfl, h2, k2⟩
  have k3 := k1.trans k2
  have r0 := res_cell k3 0
  have r1 := res_cell k3 1
  have r2 := res_cell k3 2
  have q0 := res_frozen k3 0
  have q1 := res_frozen k3 1
  have q2 := res_frozen k3 2
  simp at r0 r1 r2
  have c1 := h2.c1
  have c3 := h2.c3
  go_wp2_with fail
  go_region
  all_goals
    go_wp2_with fail
    refine bodyPost_ret (v := .tuple #[.agg #[.slice none 0 0, .slice none 0 0, .slice none 0 0], .int .i64 2, .int .i64 a1]) (by simp [results, Tryz.results30, go_sem, r0, r1, r2]) rfl ⟨rfl, ?_⟩
    exact ((((res_below k3).setCell (Nat.le_refl _) _).setCell (Nat.le_refl _) _).setCell (Nat.le_refl _) _).drew

set_option maxHeartbeats 400000 in
theorem read_many (hs : s.size ≤ 100) (a1 : Nat) (ts : List Key) (cs : List (Int × Nat)) (ps : List Key) (m : Nat) (HR : Hid (Rdg.rdP (pk s) (s.size + 1) 0 0 [] [] [] = .ok (a1, ts, cs, ps, m))) (heq : a1 = s.size) (hmany : 7 < ts.length ∨ 4 < cs.length) :
    Calls Tryz.prog 30 #[.string s] w fun e w' => e = .returned (.tuple #[.agg #[.slice none 0 0, .slice none 0 0, .slice none 0 0], .int .i64 4, .int .i64 0]) ∧ Below w.heap.size w w' := by
  have hmm := @run_makeMap Tryz.prog
  have hb : decide ((100 : Int) < (s.size : Int)) = false := by simp; omega
  go_enter Tryz.func30, Tryz.ntmps30
  go_wp2_with fail
  refine (formula_any _ _ _ _ s hs (s.size + 1) (start w s) 0 0 [] [] [] (by omega) (by omega) (by simp) (by simp) (by simp) (by omega) (start_ci w s)).mono ?_
  rw [unhide HR]
  rintro e w1 ⟨k1, rfl, h1⟩
  go_wp2_with fail
  refine (end_yes w1 _ _ _ _ s a1 0 ts cs ps heq h1).mono ?_
  rintro e w2 ⟨rfl, h2, k2⟩
  have k3 := k1.trans k2
  have r0 := res_cell k3 0
  have r1 := res_cell k3 1
  have r2 := res_cell k3 2
  have q0 := res_frozen k3 0
  have q1 := res_frozen k3 1
  have q2 := res_frozen k3 2
  simp at r0 r1 r2
  have c4 := h2.c4
  have c5 := h2.c5
  obtain ⟨D, hown, hsz, hall, _⟩ := h2.mt
  obtain ⟨D2, hown2, hsz2, hall2, _⟩ := h2.mc
  have HSZ := hide hsz
  have HSZ2 := hide hsz2
  clear hall hall2 hsz hsz2
  by_cases h7 : 7 < ts.length
  · have hb7 : decide ((7 : Int) < (Maps.size D : Int)) = true := by rw [unhide HSZ]; simp; omega
    have hl2 := fun ty => hown2.len Tryz.underlying78 ty
    go_wp2_with (at_len; refine wpList_len_own _ rfl (.tmp 33) 76 rfl 87 3 Tryz.underlying76 _ _ ts.length D rfl hown ?_)
    refine bodyPost_ret (v := .tuple #[.agg #[.slice none 0 0, .slice none 0 0, .slice none 0 0], .int .i64 4, .int .i64 0]) (by simp [results, Tryz.results30, go_sem, r0, r1, r2]) rfl ⟨rfl, ?_⟩
    exact (((res_below k3).setCell (Nat.le_refl _) _).setCell (Nat.le_refl _) _).setCell (Nat.le_refl _) _
  · have hb7 : decide ((7 : Int) < (Maps.size D : Int)) = false := by rw [unhide HSZ]; simp; omega
    have hb4 : decide ((4 : Int) < (Maps.size D2 : Int)) = true := by rw [unhide HSZ2]; simp; omega
    have hl2 := fun ty => hown2.len Tryz.underlying78 ty
    go_wp2_with (at_len; refine wpList_len_own _ rfl (.tmp 33) 76 rfl 87 3 Tryz.underlying76 _ _ ts.length D rfl hown ?_)
    refine bodyPost_ret (v := .tuple #[.agg #[.slice none 0 0, .slice none 0 0, .slice none 0 0], .int .i64 4, .int .i64 0]) (by simp [results, Tryz.results30, go_sem, r0, r1, r2]) rfl ⟨rfl, ?_⟩
    exact (((res_below k3).setCell (Nat.le_refl _) _).setCell (Nat.le_refl _) _).setCell (Nat.le_refl _) _

end

end Go.Proofs.YthcppbmkacbbiaaGreat
