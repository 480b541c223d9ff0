import Derived.Test.YthcppbmkacbbiaaGreatRdnM
import Derived.Test.YthcppbmkacbbiaaGreatRefVpM
import Derived.Test.YthcppbmkacbbiaaGreatMadM
import Derived.Test.YthcppbmkacbbiaaGreatCandX
import Derived.Test.YthcppbmkacbbiaaGreatRefIM
namespace Go.Proofs.YthcppbmkacbbiaaGreat.Rdg

/-- A piece's truth in a case, by the truths of those ahead of it. -/
def pv1 (cl : List Int) (hl : List Bool) (acc : List Bool) (q : Key) : Bool :=
  if q.1 = 61 then decide (cl.getD q.2.1 0 = cl.getD q.2.2 0)
  else if q.1 = 80 ∨ q.1 = 81 then hl.getD q.2.1 false
  else if q.1 = 33 then !(acc.getD q.2.1 false)
  else jn q.1 (acc.getD q.2.1 false) (acc.getD q.2.2 false)

/-- The pieces' truths. -/
def pvs (cl : List Int) (hl : List Bool) (ps : List Key) : List Bool := ps.foldl (fun acc q => acc ++ [pv1 cl hl acc q]) []

section
variable {cl : List Int} {hl : List Bool}

theorem pvs_snoc (ps : List Key) (q : Key) : pvs cl hl (ps ++ [q]) = pvs cl hl ps ++ [pv1 cl hl (pvs cl hl ps) q] := by
  unfold pvs; rw [List.foldl_append]; rfl

theorem pvs_append (ps : List Key) : ∀ qs : List Key, pvs cl hl ps <+: pvs cl hl (ps ++ qs) := by
  intro qs
  induction qs generalizing ps with
  | nil => simp
  | cons q qs ih =>
    have h := ih (ps ++ [q])
    rw [pvs_snoc] at h
    have e : ps ++ q :: qs = (ps ++ [q]) ++ qs := by simp
    rw [e]
    exact (List.prefix_append _ _).trans h

theorem pvs_prefix {ps ps1 : List Key} (h : ps <+: ps1) : pvs cl hl ps <+: pvs cl hl ps1 := by
  obtain ⟨qs, rfl⟩ := h
  exact pvs_append ps qs

theorem pvs_length (ps : List Key) : (pvs cl hl ps).length = ps.length := by
  have h : ∀ qs : List Key, ∀ ps : List Key, (pvs cl hl ps).length = ps.length → (pvs cl hl (ps ++ qs)).length = (ps ++ qs).length := by
    intro qs
    induction qs with
    | nil => intro ps h; simpa using h
    | cons q qs ih =>
      intro ps h
      have e : ps ++ q :: qs = (ps ++ [q]) ++ qs := by simp
      rw [e]
      exact ih _ (by rw [pvs_snoc]; simp [h])
  simpa using h ps [] rfl

theorem getD_pre {L L1 : List Bool} (h : L <+: L1) {i : Nat} (hi : i < L.length) : L1.getD i false = L.getD i false := by
  obtain ⟨R, rfl⟩ := h
  simp [List.getD_eq_getElem?_getD, List.getElem?_append_left hi]

theorem pv1_pre {L L1 : List Bool} {nt nc : Nat} {q : Key} (h : L <+: L1) (hq : okPc nt nc L.length q) : pv1 cl hl L1 q = pv1 cl hl L q := by
  unfold pv1
  rcases hq with ⟨a, b, _⟩ | ⟨a, b, c⟩ | ⟨a, _, _⟩ | ⟨a, _, _⟩
  · rw [getD_pre h b, a]; simp
  · rw [getD_pre h b, getD_pre h c]
  · have h1 : q.1 ≠ 61 := by omega
    rw [if_neg h1, if_neg h1, if_pos a, if_pos a]
  · rw [if_pos a, if_pos a]

theorem pvs_get {nt nc : Nat} {ps : List Key} (h : InvP nt nc ps) {j : Nat} (hj : j < ps.length) : (pvs cl hl ps).getD j false = pv1 cl hl (pvs cl hl ps) ps[j] := by
  have e : ps.take (j + 1) = ps.take j ++ [ps[j]] := by rw [List.take_add_one, List.getElem?_eq_getElem hj]; rfl
  have hp : pvs cl hl (ps.take (j + 1)) <+: pvs cl hl ps := pvs_prefix (List.take_prefix _ _)
  have hp0 : pvs cl hl (ps.take j) <+: pvs cl hl ps := pvs_prefix (List.take_prefix _ _)
  have hl0 : (pvs cl hl (ps.take j)).length = j := by rw [pvs_length, List.length_take]; omega
  rw [e, pvs_snoc] at hp
  rw [getD_pre hp (by simp [hl0]), pv1_pre hp0 (by rw [hl0]; exact h.ok j hj)]
  simp [List.getD_eq_getElem?_getD, hl0]

theorem pvs_put {nt nc : Nat} {ps : List Key} (h : InvP nt nc ps) {q : Key} (_hq : okPc nt nc ps.length q) : (pvs cl hl (put ps q)).getD (ps.idxOf q) false = pv1 cl hl (pvs cl hl ps) q := by
  by_cases hm : q ∈ ps
  · have e : put ps q = ps := by unfold Rdg.put; rw [if_pos (by simpa using hm)]
    have hlt := List.idxOf_lt_length_of_mem hm
    rw [e, pvs_get h hlt, List.getElem_idxOf hlt]
  · have e : put ps q = ps ++ [q] := by unfold Rdg.put; rw [if_neg (by simpa using hm)]
    rw [e, pvs_snoc, List.idxOf_eq_length hm]
    simp [List.getD_eq_getElem?_getD, pvs_length]
end

theorem idxC {ts : List Key} (h : Inv ts) {cs : List (Int × Nat)} (hcs : InvC ts cs) {c : Int × Nat} (hc : okC ts.length c) : (cs.map (rendC (texts ts))).idxOf (rendC (texts ts) c) = cs.idxOf c := by
  induction cs with
  | nil => rfl
  | cons x r ih =>
    have hr : InvC ts r := fun y hy => hcs y (List.mem_cons_of_mem _ hy)
    rw [List.map_cons, List.idxOf_cons, List.idxOf_cons, ih hr]
    by_cases e : x = c
    · subst e; simp
    · have e1 : rendC (texts ts) x ≠ rendC (texts ts) c := fun e' => e (rendC_inj h (hcs x (List.mem_cons_self ..)) hc e')
      have e2 : (rendC (texts ts) x == rendC (texts ts) c) = false := by simpa using e1
      have e3 : (x == c) = false := by simpa using e
      rw [e2, e3]

section
variable {l : List UInt8} {cl : List Int} {hl : List Bool}

/-- The two truths are one. -/
def RelV (cl : List Int) (hl : List Bool) (r : RP) (b : Bool) : Prop :=
  match r with
  | .ok (_, _, _, ps1, m) => b = (pvs cl hl ps1).getD m false
  | .error _ => True

theorem relv_fin {ps1 : List Key} {a1 : Nat} {ts1 : List Key} {cs1 : List (Int × Nat)} {q : Key} {b : Bool} (h : InvP ts1.length cs1.length ps1) (hq : okPc ts1.length cs1.length ps1.length q) (hb : b = pv1 cl hl (pvs cl hl ps1) q) :
    RelV cl hl (finQ (.ok (a1, ts1, cs1, ps1, q))) b := by
  show b = (pvs cl hl (put ps1 q)).getD (ps1.idxOf q) false
  rw [pvs_put h hq]; exact hb

theorem val_formula : ∀ (n a d : Nat) (ts : List Key) (cs : List (Int × Nat)) (ps : List Key), a ≤ l.length → l.length < a + n → Inv ts → InvC ts cs → InvP ts.length cs.length ps →
    RelV cl hl (rdP (pkl l) n a d ts cs ps) (vF l (pkl l) cl hl n ⟨a, d, 0, texts ts, cs.map (rendC (texts ts))⟩) := by
  intro n
  induction n with
  | zero => intro a d ts cs ps ha hn; omega
  | succ n ih =>
    intro a d ts cs ps ha hn hi hcs hps
    unfold rdP vF
    simp only [sees_mk]
    by_cases h33 : pkl l a = 33
    · have hlt := pkl_lt (l := l) (a := a) (by omega)
      rw [if_pos h33, if_pos (show decide (pkl l a = 33) = true by simpa using h33)]
      have h := ih (a + 1) d ts cs ps (by omega) (by omega) hi hcs hps
      have hf := fine_rdP (pk := pkl l) (N := l.length) (fun a h => pkl_lt h) n (a + 1) d ts cs ps (by omega) hps
      rcases hR : rdP (pkl l) n (a + 1) d ts cs ps with e | ⟨a1, ts1, cs1, ps1, m⟩
      · trivial
      · rw [hR] at h hf
        obtain ⟨f1, f2, _⟩ := hf
        refine relv_fin f1 (Or.inl ⟨rfl, f2, rfl⟩) ?_
        have h' : vF l (pkl l) cl hl n ⟨a + 1, d, 0, texts ts, cs.map (rendC (texts ts))⟩ = (pvs cl hl ps1).getD m false := h
        rw [h']
        simp [pv1]
    · rw [if_neg h33, if_neg (show ¬ (decide (pkl l a = 33) = true) by simpa using h33)]
      by_cases h40 : pkl l a = 40
      · have hlt := pkl_lt (l := l) (a := a) (by omega)
        rw [if_pos h40, if_neg (show ¬ ((decide (pkl l a = 80) || decide (pkl l a = 81)) = true) by simp; omega), if_pos (show decide (pkl l a = 40) = true by simpa using h40)]
        unfold rdJ
        by_cases h8 : d = 8
        · rw [if_pos h8]; trivial
        · rw [if_neg h8, open_yes h40 h8]
          have h := ih (a + 1) (d + 1) ts cs ps (by omega) (by omega) hi hcs hps
          have hs := same_formula (l := l) n (a + 1) (d + 1) ts cs (by omega) (by omega) hi hcs
          have hok := okF_rdF (pk := pkl l) (N := l.length) (fun a h => pkl_lt h) n (a + 1) (d + 1) ts cs (by omega)
          have hf := fine_rdP (pk := pkl l) (N := l.length) (fun a h => pkl_lt h) n (a + 1) (d + 1) ts cs ps (by omega) hps
          rw [← less_rdP (pkl l) n (a + 1) (d + 1) ts cs ps] at hs hok
          rcases hR : rdP (pkl l) n (a + 1) (d + 1) ts cs ps with e | ⟨a1, ts1, cs1, ps1, m1⟩
          · trivial
          · rw [hR] at h hs hok hf
            obtain ⟨s1, s2, s3⟩ := hs
            obtain ⟨o1, o2, _⟩ := hok
            obtain ⟨f1, f2, f3, f4, f5⟩ := hf
            have h' : vF l (pkl l) cl hl n ⟨a + 1, d + 1, 0, texts ts, cs.map (rendC (texts ts))⟩ = (pvs cl hl ps1).getD m1 false := h
            rw [s1, h']
            show RelV cl hl (finQ (if isJoint (pkl l a1) = true then _ else _)) _
            by_cases hj : isJoint (pkl l a1) = true
            · have hlt1 := pkl_lt (l := l) (a := a1) (fun e => by rw [e] at hj; simp [isJoint] at hj)
              rw [if_pos hj]
              have hjj : List.contains [38, 124, 62, 45] (pkl l a1) = true := by simpa [isJoint, or_assoc] using hj
              rw [one_yes hjj]
              have g := ih (a1 + 1) (d + 1) ts1 cs1 ps1 (by omega) (by omega) s2 s3 f1
              have gf := fine_rdP (pk := pkl l) (N := l.length) (fun a h => pkl_lt h) n (a1 + 1) (d + 1) ts1 cs1 ps1 (by omega) f1
              rcases hR2 : rdP (pkl l) n (a1 + 1) (d + 1) ts1 cs1 ps1 with e | ⟨a2, ts2, cs2, ps2, m2⟩
              · trivial
              · rw [hR2] at g gf
                obtain ⟨g1, g2, g3, g4, g5⟩ := gf
                have g' : vF l (pkl l) cl hl n ⟨a1 + 1, d + 1, 0, texts ts1, cs1.map (rendC (texts ts1))⟩ = (pvs cl hl ps2).getD m2 false := g
                rw [g']
                show RelV cl hl (finQ (if pkl l a2 = 41 then _ else _)) _
                by_cases h41 : pkl l a2 = 41
                · rw [if_pos h41]
                  have hle := g5.length_le
                  refine relv_fin g1 (Or.inr (Or.inl ⟨hj, by show m1 < ps2.length; omega, g2⟩)) ?_
                  have e1 : (pvs cl hl ps2).getD m1 false = (pvs cl hl ps1).getD m1 false := getD_pre (pvs_prefix g5) (by rw [pvs_length]; exact f2)
                  have n1 : pkl l a1 ≠ 61 := fun e => by rw [e] at hj; simp [isJoint] at hj
                  have n2 : ¬ (pkl l a1 = 80 ∨ pkl l a1 = 81) := fun e => by rcases e with e | e <;> (rw [e] at hj; simp [isJoint] at hj)
                  have n3 : pkl l a1 ≠ 33 := fun e => by rw [e] at hj; simp [isJoint] at hj
                  unfold pv1
                  rw [if_neg n1, if_neg n2, if_neg n3]
                  simp only
                  rw [e1]
                · rw [if_neg h41]; trivial
            · rw [if_neg hj]; trivial
      · rw [if_neg h40]
        by_cases h8 : pkl l a = 80 ∨ pkl l a = 81
        · have hlt := pkl_lt (l := l) (a := a) (by omega)
          rw [if_pos h8, if_pos (show (decide (pkl l a = 80) || decide (pkl l a = 81)) = true by simpa using h8)]
          have h := same_arg1 (l := l) (C := cs.map (rendC (texts ts))) (n := n + 1) (d := d) (same_term _) (a := a + 1) (by omega) (by omega) hi
          have hok := okT1_arg1 (pk := pkl l) (N := l.length) (fun a h => pkl_lt h) (rec := rdT (pkl l) (n + 1)) (a := a + 1) (d := d) (ts := ts) (by omega) (fun h40 => okT_rdT (fun a h => pkl_lt h) _ _ _ _ (by have := pkl_lt (l := l) (a := a + 1) (by omega); omega))
          unfold rdC
          rcases hR : arg1 (pkl l) (rdT (pkl l) (n + 1)) (a + 1) d ts with e | ⟨a1, ts1, m⟩
          · trivial
          · rw [hR] at h hok
            obtain ⟨h1, h2, h3, h4, h5, h6⟩ := h
            obtain ⟨p1, p2, p3, p4, p5⟩ := hok
            rw [h1]
            have hc : okC ts1.length (pkl l a, m) := ⟨h8, h4⟩
            have hcut : cut l a a1 = rendC (texts ts1) (pkl l a, m) := by
              have hg := pkl_get (l := l) (a := a) (c := UInt8.ofNat (pkl l a).toNat) (by simp; omega) (fun e => by have := congrArg UInt8.toNat e; simp at this; omega)
              rw [cut_app l (show a ≤ a + 1 by omega) (show a + 1 ≤ a1 by omega), cut_one hg, h5]
              rfl
            have q := put_length cs (pkl l a, m)
            refine relv_fin (hps.more p3 q.1) (Or.inr (Or.inr (Or.inl ⟨h8, idx_put _ _, rfl⟩))) ?_
            unfold pv1
            rw [if_neg (show (pkl l a, cs.idxOf (pkl l a, m), 0).1 ≠ (61 : Int) by show pkl l a ≠ 61; omega), if_pos h8]
            simp only [hcut]
            rw [← ctexts_more h3 hcs, idxC h2 (hcs.more h3) hc]
        · rw [if_neg h8, if_neg (show ¬ ((decide (pkl l a = 80) || decide (pkl l a = 81)) = true) by simpa using h8), if_neg (show ¬ (decide (pkl l a = 40) = true) by simpa using h40)]
          unfold rdE
          have h := same_term (l := l) (C := cs.map (rendC (texts ts))) (n + 1) a d ts ha (by omega) hi
          have hok := okT_rdT (pk := pkl l) (N := l.length) (fun a h => pkl_lt h) (n + 1) a d ts ha
          rcases hR : rdT (pkl l) (n + 1) a d ts with e | ⟨a1, ts1, m1⟩
          · trivial
          · rw [hR] at h hok
            obtain ⟨h1, h2, h3, h4, h5, h6⟩ := h
            obtain ⟨p1, p2, p3, p4, p5⟩ := hok
            show RelV cl hl (finQ (if pkl l a1 = 61 then _ else _)) _
            rw [h1]
            by_cases h61 : pkl l a1 = 61
            · rw [if_pos h61]
              have hlt := pkl_lt (l := l) (a := a1) (by omega)
              simp only
              rw [one_yes (by simpa using h61)]
              have g := same_term (l := l) (C := cs.map (rendC (texts ts))) (n + 1) (a1 + 1) d ts1 (by omega) (by omega) h2
              have gok := okT_rdT (pk := pkl l) (N := l.length) (fun a h => pkl_lt h) (n + 1) (a1 + 1) d ts1 (by omega)
              rcases hR2 : rdT (pkl l) (n + 1) (a1 + 1) d ts1 with e | ⟨a2, ts2, m2⟩
              · trivial
              · rw [hR2] at g gok
                obtain ⟨g1, g2, g3, g4, g5, g6⟩ := g
                obtain ⟨q1, q2, q3, q4, q5⟩ := gok
                rw [g1]
                refine relv_fin (hps.more (by omega) (Nat.le_refl _)) (Or.inr (Or.inr (Or.inr ⟨rfl, by show m1 < ts2.length; omega, q5⟩))) ?_
                simp [pv1]
            · rw [if_neg h61]; trivial
end

end Go.Proofs.YthcppbmkacbbiaaGreat.Rdg

namespace Go.Proofs.YthcppbmkacbbiaaGreat
open Go.RowKit Go.Maps Go.WideMaps
open Rdg (Key put okPc pv1 jn isJoint)

attribute [local go_sem] Oper.semAt_some

def pv (q : Key) : Value := .agg #[.int .u8 q.1, .int .i64 q.2.1, .int .i64 q.2.2]

theorem two_below (w : World) (o p : Obj) : Below w.heap.size w ((w.alloc o).alloc p) := by
  have h : w.grownBy ((w.alloc o).alloc p) none := (World.grownBy_alloc _ _ none).trans (World.grownBy_alloc _ _ none)
  exact ⟨h.os, h.tape, h.output, h.size, fun j hj => h.block j hj (by simp)⟩

set_option linter.unusedSimpArgs false in
set_option maxRecDepth 100000 in
set_option maxHeartbeats 2000000 in
theorem pTrue_not (b H x y cap B : Nat) (hl acc : List Bool) (w : World) (hx : x < acc.length) (hB : RowsH w B acc) :
    Calls Tryz.prog 84 #[pv (33, x, y), sv b H hl.length, .slice (some ⟨B, 0, none⟩) acc.length cap] w fun e w' => e = .returned (.bool (!(acc.getD x false))) ∧ Below w.heap.size w w' := by
  unfold pv sv
  simp only
  have hc := hB.at hx
  have hlB := hB.1
  generalize acc.getD x false = bx at hc ⊢
  have hxi : (x : Int) < (acc.length : Int) := by omega
  go_enter Tryz.func84, Tryz.ntmps84
  go_wp2_with fail
  go_ret
  exact ⟨rfl, two_below _ _ _⟩

set_option linter.unusedSimpArgs false in
set_option maxRecDepth 100000 in
set_option maxHeartbeats 2000000 in
theorem pTrue_P (b H x y cap B : Nat) (hl acc : List Bool) (w : World) (hx : x < hl.length) (hH : RowsH w H hl) :
    Calls Tryz.prog 84 #[pv (80, x, y), sv b H hl.length, .slice (some ⟨B, 0, none⟩) acc.length cap] w fun e w' => e = .returned (.bool (hl.getD x false)) ∧ Below w.heap.size w w' := by
  unfold pv sv
  simp only
  have hc := hH.at hx
  have hlB := hH.1
  generalize hl.getD x false = bx at hc ⊢
  have hxi : (x : Int) < (hl.length : Int) := by omega
  go_enter Tryz.func84, Tryz.ntmps84
  go_wp2_with fail
  go_ret
  exact ⟨rfl, two_below _ _ _⟩

set_option linter.unusedSimpArgs false in
set_option maxRecDepth 100000 in
set_option maxHeartbeats 2000000 in
theorem pTrue_Q (b H x y cap B : Nat) (hl acc : List Bool) (w : World) (hx : x < hl.length) (hH : RowsH w H hl) :
    Calls Tryz.prog 84 #[pv (81, x, y), sv b H hl.length, .slice (some ⟨B, 0, none⟩) acc.length cap] w fun e w' => e = .returned (.bool (hl.getD x false)) ∧ Below w.heap.size w w' := by
  unfold pv sv
  simp only
  have hc := hH.at hx
  have hlB := hH.1
  generalize hl.getD x false = bx at hc ⊢
  have hxi : (x : Int) < (hl.length : Int) := by omega
  go_enter Tryz.func84, Tryz.ntmps84
  go_wp2_with fail
  go_ret
  exact ⟨rfl, two_below _ _ _⟩

set_option linter.unusedSimpArgs false in
set_option maxRecDepth 100000 in
set_option maxHeartbeats 2000000 in
theorem pTrue_and (b H x y cap B : Nat) (hl acc : List Bool) (w : World) (hx : x < acc.length) (hy : y < acc.length) (hB : RowsH w B acc) :
    Calls Tryz.prog 84 #[pv (38, x, y), sv b H hl.length, .slice (some ⟨B, 0, none⟩) acc.length cap] w fun e w' => e = .returned (.bool (acc.getD x false && acc.getD y false)) ∧ Below w.heap.size w w' := by
  unfold pv sv
  simp only
  have hc := hB.at hx
  have hlB := hB.1
  generalize acc.getD x false = bx at hc ⊢
  have hxi : (x : Int) < (acc.length : Int) := by omega
  have hc2 := hB.at hy
  generalize acc.getD y false = by' at hc2 ⊢
  have hyi : (y : Int) < (acc.length : Int) := by omega
  go_enter Tryz.func84, Tryz.ntmps84
  cases bx
  · go_wp2_with fail
    go_ret
    exact ⟨by simp, two_below _ _ _⟩
  · go_wp2_with fail
    go_ret
    exact ⟨by simp, two_below _ _ _⟩

set_option linter.unusedSimpArgs false in
set_option maxRecDepth 100000 in
set_option maxHeartbeats 2000000 in
theorem pTrue_or (b H x y cap B : Nat) (hl acc : List Bool) (w : World) (hx : x < acc.length) (hy : y < acc.length) (hB : RowsH w B acc) :
    Calls Tryz.prog 84 #[pv (124, x, y), sv b H hl.length, .slice (some ⟨B, 0, none⟩) acc.length cap] w fun e w' => e = .returned (.bool (acc.getD x false || acc.getD y false)) ∧ Below w.heap.size w w' := by
  unfold pv sv
  simp only
  have hc := hB.at hx
  have hlB := hB.1
  generalize acc.getD x false = bx at hc ⊢
  have hxi : (x : Int) < (acc.length : Int) := by omega
  have hc2 := hB.at hy
  generalize acc.getD y false = by' at hc2 ⊢
  have hyi : (y : Int) < (acc.length : Int) := by omega
  go_enter Tryz.func84, Tryz.ntmps84
  cases bx
  · go_wp2_with fail
    go_ret
    exact ⟨by simp, two_below _ _ _⟩
  · go_wp2_with fail
    go_ret
    exact ⟨by simp, two_below _ _ _⟩

set_option linter.unusedSimpArgs false in
set_option maxRecDepth 100000 in
set_option maxHeartbeats 2000000 in
theorem pTrue_imp (b H x y cap B : Nat) (hl acc : List Bool) (w : World) (hx : x < acc.length) (hy : y < acc.length) (hB : RowsH w B acc) :
    Calls Tryz.prog 84 #[pv (62, x, y), sv b H hl.length, .slice (some ⟨B, 0, none⟩) acc.length cap] w fun e w' => e = .returned (.bool (!(acc.getD x false) || acc.getD y false)) ∧ Below w.heap.size w w' := by
  unfold pv sv
  simp only
  have hc := hB.at hx
  have hlB := hB.1
  generalize acc.getD x false = bx at hc ⊢
  have hxi : (x : Int) < (acc.length : Int) := by omega
  have hc2 := hB.at hy
  generalize acc.getD y false = by' at hc2 ⊢
  have hyi : (y : Int) < (acc.length : Int) := by omega
  go_enter Tryz.func84, Tryz.ntmps84
  cases bx
  · go_wp2_with fail
    go_ret
    exact ⟨by simp, two_below _ _ _⟩
  · go_wp2_with fail
    go_ret
    exact ⟨by simp, two_below _ _ _⟩

set_option linter.unusedSimpArgs false in
set_option maxRecDepth 100000 in
set_option maxHeartbeats 2000000 in
theorem pTrue_eq (b H x y cap B : Nat) (hl acc : List Bool) (w : World) (n c : Nat) (f : Nat → Nat) (hx : x < n) (hy : y < n) (hn : n ≤ 1000) (hle : ∀ i, i < n → f i ≤ i ∧ f (f i) = f i) (hM : CMap w b f n c) :
    Calls Tryz.prog 84 #[pv (61, x, y), sv b H hl.length, .slice (some ⟨B, 0, none⟩) acc.length cap] w fun e w' => e = .returned (.bool (decide (f x = f y))) ∧ Below w.heap.size w w' := by
  unfold pv sv
  simp only
  have hlB := hM.lt
  have HM := hide hM
  have HL := hide hle
  clear hM hle
  go_enter Tryz.func84, Tryz.ntmps84
  go_wp2_with fail
  have hb2 := two_below w (.cells #[.int .u8 61, .int .i64 x, .int .i64 y] 93) (.cells #[.map (some b), .slice (some ⟨H, 0, none⟩) hl.length hl.length] 105)
  refine (same_any _ b n c f x y ((unhide HM).kept (hb2.block b hlB)) hx hy hn (unhide HL)).mono ?_
  rintro e w2 ⟨rfl, rfl⟩
  go_wp2_with fail
  go_ret
  exact ⟨rfl, hb2⟩

set_option linter.unusedSimpArgs false in
set_option maxRecDepth 100000 in
set_option maxHeartbeats 2000000 in
theorem pTrue_iff (b H x y cap B : Nat) (hl acc : List Bool) (w : World) (hx : x < acc.length) (hy : y < acc.length) (hB : RowsH w B acc) :
    Calls Tryz.prog 84 #[pv (45, x, y), sv b H hl.length, .slice (some ⟨B, 0, none⟩) acc.length cap] w fun e w' => e = .returned (.bool (acc.getD x false == acc.getD y false)) ∧ Below w.heap.size w w' := by
  unfold pv sv
  simp only
  have hc := hB.at hx
  have hlB := hB.1
  generalize acc.getD x false = bx at hc ⊢
  have hxi : (x : Int) < (acc.length : Int) := by omega
  have hc2 := hB.at hy
  generalize acc.getD y false = by' at hc2 ⊢
  have hyi : (y : Int) < (acc.length : Int) := by omega
  go_enter Tryz.func84, Tryz.ntmps84
  go_wp2_with fail
  have hb2 := two_below w (.cells #[.int .u8 45, .int .i64 x, .int .i64 y] 93) (.cells #[.map (some b), .slice (some ⟨H, 0, none⟩) hl.length hl.length] 105)
  have hk1 : ((w.alloc (.cells #[.int .u8 45, .int .i64 x, .int .i64 y] 93)).alloc (.cells #[.map (some b), .slice (some ⟨H, 0, none⟩) hl.length hl.length] 105)).cell? ⟨w.heap.size, 1, none⟩ = some (.int .i64 x) := by simp [go_sem]
  have hk2 : ((w.alloc (.cells #[.int .u8 45, .int .i64 x, .int .i64 y] 93)).alloc (.cells #[.map (some b), .slice (some ⟨H, 0, none⟩) hl.length hl.length] 105)).cell? ⟨w.heap.size, 2, none⟩ = some (.int .i64 y) := by simp [go_sem]
  generalize ((w.alloc (.cells #[.int .u8 45, .int .i64 x, .int .i64 y] 93)).alloc (.cells #[.map (some b), .slice (some ⟨H, 0, none⟩) hl.length hl.length] 105)) = W at *
  have hS0 : W.drew.cell? ⟨w.heap.size, 1, none⟩ = some (.int .i64 x) ∧ W.drew.cell? ⟨w.heap.size, 2, none⟩ = some (.int .i64 y) ∧ W.drew.cell? ⟨B, x, none⟩ = some (.bool bx) ∧ W.drew.cell? ⟨B, y, none⟩ = some (.bool by') := ⟨hk1, hk2, (World.cell?_of_block (hb2.block B hlB)).trans hc, (World.cell?_of_block (hb2.block B hlB)).trans hc2⟩
  refine wp_region_held (S := fun W' => W'.cell? ⟨w.heap.size, 1, none⟩ = some (.int .i64 x) ∧ W'.cell? ⟨w.heap.size, 2, none⟩ = some (.int .i64 y) ∧ W'.cell? ⟨B, x, none⟩ = some (.bool bx) ∧ W'.cell? ⟨B, y, none⟩ = some (.bool by')) rfl ?_
  simp only [List.size_toArray, List.length_cons, List.length_nil, Nat.reduceAdd, Array.replicate_succ, Array.replicate_zero, List.push_toArray, List.nil_append, List.cons_append]
  refine wpAnyH_take (i := 0) (v := .slice (some ⟨B, 0, none⟩) acc.length cap) rfl (by kernel_rfl) (by kernel_rfl) (by kernel_rfl) (fun _ _ _ h => h) (Or.inl ⟨by rfl, fun w' hS => ?_⟩) hS0 ?_
  · obtain ⟨s1, s2, s3, s4⟩ := hS
    go_simp
  simp only [List.getElem_toArray, List.getElem_cons_zero, List.getElem_cons_succ, Act.put, List.setIfInBounds_toArray, List.set_cons_zero, List.set_cons_succ]
  refine wpAnyH_take (i := 1) (v := .pointer (some ⟨w.heap.size, 1, none⟩)) rfl (by kernel_rfl) (by kernel_rfl) (by kernel_rfl) (fun _ _ _ h => h) (Or.inl ⟨by rfl, fun w' hS => ?_⟩) hS0 ?_
  · obtain ⟨s1, s2, s3, s4⟩ := hS
    go_simp
  simp only [List.getElem_toArray, List.getElem_cons_zero, List.getElem_cons_succ, Act.put, List.setIfInBounds_toArray, List.set_cons_zero, List.set_cons_succ]
  refine wpAnyH_take (i := 2) (v := .int .i64 x) rfl (by kernel_rfl) (by kernel_rfl) (by kernel_rfl) (fun _ _ _ h => h) (Or.inl ⟨by rfl, fun w' hS => ?_⟩) hS0 ?_
  · obtain ⟨s1, s2, s3, s4⟩ := hS
    go_simp
  simp only [List.getElem_toArray, List.getElem_cons_zero, List.getElem_cons_succ, Act.put, List.setIfInBounds_toArray, List.set_cons_zero, List.set_cons_succ]
  refine wpAnyH_take (i := 3) (v := .pointer (some ⟨B, x, none⟩)) rfl (by kernel_rfl) (by kernel_rfl) (by kernel_rfl) (fun _ _ _ h => h) (Or.inl ⟨by rfl, fun w' hS => ?_⟩) hS0 ?_
  · obtain ⟨s1, s2, s3, s4⟩ := hS
    go_simp
  simp only [List.getElem_toArray, List.getElem_cons_zero, List.getElem_cons_succ, Act.put, List.setIfInBounds_toArray, List.set_cons_zero, List.set_cons_succ]
  refine wpAnyH_take (i := 4) (v := .bool bx) rfl (by kernel_rfl) (by kernel_rfl) (by kernel_rfl) (fun _ _ _ h => h) (Or.inl ⟨by rfl, fun w' hS => ?_⟩) hS0 ?_
  · obtain ⟨s1, s2, s3, s4⟩ := hS
    go_simp
  simp only [List.getElem_toArray, List.getElem_cons_zero, List.getElem_cons_succ, Act.put, List.setIfInBounds_toArray, List.set_cons_zero, List.set_cons_succ]
  refine wpAnyH_take (i := 5) (v := .slice (some ⟨B, 0, none⟩) acc.length cap) rfl (by kernel_rfl) (by kernel_rfl) (by kernel_rfl) (fun _ _ _ h => h) (Or.inl ⟨by rfl, fun w' hS => ?_⟩) hS0 ?_
  · obtain ⟨s1, s2, s3, s4⟩ := hS
    go_simp
  simp only [List.getElem_toArray, List.getElem_cons_zero, List.getElem_cons_succ, Act.put, List.setIfInBounds_toArray, List.set_cons_zero, List.set_cons_succ]
  refine wpAnyH_take (i := 6) (v := .pointer (some ⟨w.heap.size, 2, none⟩)) rfl (by kernel_rfl) (by kernel_rfl) (by kernel_rfl) (fun _ _ _ h => h) (Or.inl ⟨by rfl, fun w' hS => ?_⟩) hS0 ?_
  · obtain ⟨s1, s2, s3, s4⟩ := hS
    go_simp
  simp only [List.getElem_toArray, List.getElem_cons_zero, List.getElem_cons_succ, Act.put, List.setIfInBounds_toArray, List.set_cons_zero, List.set_cons_succ]
  refine wpAnyH_take (i := 7) (v := .int .i64 y) rfl (by kernel_rfl) (by kernel_rfl) (by kernel_rfl) (fun _ _ _ h => h) (Or.inl ⟨by rfl, fun w' hS => ?_⟩) hS0 ?_
  · obtain ⟨s1, s2, s3, s4⟩ := hS
    go_simp
  simp only [List.getElem_toArray, List.getElem_cons_zero, List.getElem_cons_succ, Act.put, List.setIfInBounds_toArray, List.set_cons_zero, List.set_cons_succ]
  refine wpAnyH_take (i := 8) (v := .pointer (some ⟨B, y, none⟩)) rfl (by kernel_rfl) (by kernel_rfl) (by kernel_rfl) (fun _ _ _ h => h) (Or.inl ⟨by rfl, fun w' hS => ?_⟩) hS0 ?_
  · obtain ⟨s1, s2, s3, s4⟩ := hS
    go_simp
  simp only [List.getElem_toArray, List.getElem_cons_zero, List.getElem_cons_succ, Act.put, List.setIfInBounds_toArray, List.set_cons_zero, List.set_cons_succ]
  refine wpAnyH_take (i := 9) (v := .bool by') rfl (by kernel_rfl) (by kernel_rfl) (by kernel_rfl) (fun _ _ _ h => h) (Or.inl ⟨by rfl, fun w' hS => ?_⟩) hS0 ?_
  · obtain ⟨s1, s2, s3, s4⟩ := hS
    go_simp
  simp only [List.getElem_toArray, List.getElem_cons_zero, List.getElem_cons_succ, Act.put, List.setIfInBounds_toArray, List.set_cons_zero, List.set_cons_succ]
  refine wpAnyH_take (i := 10) (v := .bool (bx == by')) rfl (by kernel_rfl) (by kernel_rfl) (by kernel_rfl) (fun _ _ _ h => h) (Or.inl ⟨by rfl, fun w' hS => ?_⟩) hS0 ?_
  · obtain ⟨s1, s2, s3, s4⟩ := hS
    cases bx <;> cases by' <;> go_simp
  simp only [List.getElem_toArray, List.getElem_cons_zero, List.getElem_cons_succ, Act.put, List.setIfInBounds_toArray, List.set_cons_zero, List.set_cons_succ]
  refine wpAnyH_one (i := 11) (by kernel_rfl) rfl (by rfl) (fun K hK => ?_)
  go_simp
  refine hK.out _ _ hS0 (wpAnyH_done (by kernel_rfl) ?_ _)
  clear hK K
  go_wp2_with fail
  go_ret
  exact ⟨rfl, ⟨hb2.os, hb2.tape, hb2.output, hb2.size, hb2.block⟩⟩

/-- A piece's truth. -/
theorem pTrue_any (b H cap B nt c : Nat) (q : Key) (cl : List Int) (hl acc : List Bool) (f : Nat → Nat) (w : World) (hq : okPc nt hl.length acc.length q) (hn : nt ≤ 1000) (hle : ∀ i, i < nt → f i ≤ i ∧ f (f i) = f i) (hcl : ∀ i j, i < nt → j < nt → (f i = f j ↔ cl.getD i 0 = cl.getD j 0)) (hM : CMap w b f nt c) (hH : RowsH w H hl) (hB : RowsH w B acc) :
    Calls Tryz.prog 84 #[pv q, sv b H hl.length, .slice (some ⟨B, 0, none⟩) acc.length cap] w fun e w' => e = .returned (.bool (pv1 cl hl acc q)) ∧ Below w.heap.size w w' := by
  obtain ⟨s, x, y⟩ := q
  unfold pv1
  rcases hq with ⟨a, h1, h2⟩ | ⟨a, h1, h2⟩ | ⟨a, h1, h2⟩ | ⟨a, h1, h2⟩
  · simp only at a h1 h2 ⊢
    subst a
    exact pTrue_not b H x y cap B hl acc w h1 hB
  · simp only at a h1 h2 ⊢
    have a' : s = 38 ∨ s = 124 ∨ s = 62 ∨ s = 45 := by simpa [isJoint, or_assoc] using a
    rcases a' with rfl | rfl | rfl | rfl
    · exact pTrue_and b H x y cap B hl acc w h1 h2 hB
    · exact pTrue_or b H x y cap B hl acc w h1 h2 hB
    · exact pTrue_imp b H x y cap B hl acc w h1 h2 hB
    · exact pTrue_iff b H x y cap B hl acc w h1 h2 hB
  · simp only at a h1 h2 ⊢
    rcases a with rfl | rfl
    · exact pTrue_P b H x y cap B hl acc w h1 hH
    · exact pTrue_Q b H x y cap B hl acc w h1 hH
  · simp only at a h1 h2 ⊢
    subst a
    have h := pTrue_eq b H x y cap B hl acc w nt c f h1 h2 hn hle hM
    rw [decide_eq_decide.2 (hcl x y h1 h2)] at h
    exact h

end Go.Proofs.YthcppbmkacbbiaaGreat

namespace Go.Proofs.YthcppbmkacbbiaaGreat
open Go.RowKit Go.Maps Go.WideMaps
open Rdg (Key put okPc pv1 jn isJoint pvs InvP)

attribute [local go_sem] Oper.semAt_some

theorem infoL : (Tryz.prog.info? 4).map (fun i => (i.zero, i.size, i.bytes)) = some (some (.bool false), 1, 1) := by kernel_rfl

theorem newsB_at (w : World) (x : Bool) (t : TypeId) (n : Nat) (hn : w.heap.size = n) : ∀ j u, [Value.bool x][j]? = some u → (w.alloc (.cells #[.bool x] t)).cell? ((⟨n, 0, none⟩ : Addr).add j) = some u := by
  subst hn
  intro j u hj
  cases j with
  | zero => simp at hj; subst hj; simp [Addr.add]
  | succ j => simp at hj
theorem oneB (x : Bool) : ∀ u ∈ [Value.bool x], u.oneCell' = true := by intro u hu; simp at hu; subst hu; rfl

theorem pvs_next {cl : List Int} {hl : List Bool} {nt nc : Nat} {ps : List Key} (h : InvP nt nc ps) {k : Nat} (hk : k < ps.length) : ((pvs cl hl ps).take (k + 1)) = (pvs cl hl ps).take k ++ [pv1 cl hl ((pvs cl hl ps).take k) ps[k]] := by
  have hk' : k < (pvs cl hl ps).length := by rw [Rdg.pvs_length]; exact hk
  have e1 := Rdg.pvs_get (cl := cl) (hl := hl) h hk
  have e2 : pv1 cl hl (pvs cl hl ps) ps[k] = pv1 cl hl ((pvs cl hl ps).take k) ps[k] := Rdg.pv1_pre (nt := nt) (nc := nc) (List.take_prefix _ _) (by rw [List.length_take, Nat.min_eq_left (Nat.le_of_lt hk')]; exact h.ok k hk)
  rw [List.take_add_one, List.getElem?_eq_getElem hk', ← e2, ← e1, List.getD_eq_getElem?_getD, List.getElem?_eq_getElem hk']; rfl

set_option linter.unusedSimpArgs false in
set_option maxRecDepth 100000 in
set_option maxHeartbeats 2000000 in
theorem isTrue_any (GT GC GP nt nc b c H : Nat) (f : Nat → Nat) (ps : List Key) (cl : List Int) (hl : List Bool) (w : World) (h1 : 0 < ps.length) (h100 : ps.length ≤ 100) (hnt : nt ≤ 7) (hrt : RowsT w GP ps) (hi : InvP nt hl.length ps) (hf : ∀ i, i < nt → f i ≤ i ∧ f (f i) = f i) (hcl : ∀ i j, i < nt → j < nt → (f i = f j ↔ cl.getD i 0 = cl.getD j 0)) (hM : CMap w b f nt c) (hH : RowsH w H hl) :
    Calls Tryz.prog 51 #[fv GT GC GP nt nc ps.length, sv b H hl.length] w fun e w' => e = .returned (.bool ((pvs cl hl ps).getD (ps.length - 1) false)) ∧ Below w.heap.size w w' := by
  unfold fv sv
  obtain ⟨wb, hwb⟩ : ∃ wb, wb = (w.alloc (.cells #[.slice (some ⟨GT, 0, none⟩) nt nt, .slice (some ⟨GC, 0, none⟩) nc nc, .slice (some ⟨GP, 0, none⟩) ps.length ps.length] 54)).alloc (.cells #[.map (some b), .slice (some ⟨H, 0, none⟩) hl.length hl.length] 105) := ⟨_, rfl⟩
  obtain ⟨i0, hin, hz0, hz1, hz2⟩ := info_parts infoL
  obtain ⟨w1, hmk, hrow, hg1⟩ := run_make_own (P := Tryz.prog) wb wb.heap.size 103 4 i0 (.bool false) 1 Tryz.underlying103 hin hz0 hz1 .i64 .i64 ps.length (by rw [hz2]; omega) (by unfold maxLen; omega) (Nat.le_refl _)
  have hwbs : wb.heap.size = w.heap.size + 2 := by rw [hwb]; simp
  have hlt1 : w.heap.size + 2 < w1.heap.size := by have h := (hrow.lt wb.heap.size rfl).2; rw [hwbs] at h; exact h
  have hc1 : w1.cell? ⟨w.heap.size, 2, none⟩ = some (.slice (some ⟨GP, 0, none⟩) ps.length ps.length) := hg1.cell (by rw [hwb]; simp [go_sem]) (by simp)
  have hs1 : w1.cell? ⟨w.heap.size + 1, 0, none⟩ = some (.map (some b)) := hg1.cell (by rw [hwb]; simp [go_sem]) (by simp)
  have hs2 : w1.cell? ⟨w.heap.size + 1, 1, none⟩ = some (.slice (some ⟨H, 0, none⟩) hl.length hl.length) := hg1.cell (by rw [hwb]; simp [go_sem]) (by simp)
  have hb1 : Below w.heap.size w w1 := by
    have h1 : Below w.heap.size w wb := by rw [hwb]; exact two_below _ _ _
    exact h1.trans ⟨hg1.os, hg1.tape, hg1.output, hg1.size, fun j hj => hg1.block j (by omega) (by simp)⟩
  have hlG := hrt.1
  have hlM := hM.lt
  have hlH := hH.1
  rw [hwbs] at hrow
  rw [hwb] at hmk
  have HI := hide hi
  have HRT := hide hrt
  have HWB := hide hwbs
  have HF := hide hf
  have HCL := hide hcl
  have HM := hide hM
  have HH := hide hH
  clear hwb hi hrt hg1 hwbs hf hcl hM hH
  go_enter Tryz.func51, Tryz.ntmps51
  go_wp2_with fail
  have hrow0 : w1.ownsRow 0 4 1 (.slice (some ⟨w.heap.size + 2, 0, none⟩) 0 ps.length) 0 [] := row_base hrow (Nat.zero_le _)
  clear hmk hrow
  go_loopw [5, 15] (fun t i wr => ∃ k : Nat, k ≤ ps.length ∧ i = .int .i64 k ∧ t = .slice (some ⟨w.heap.size + 2, 0, none⟩) k ps.length ∧ wr.ownsRow 0 4 1 (.slice (some ⟨w.heap.size + 2, 0, none⟩) k ps.length) k (((pvs cl hl ps).take k).map Value.bool) ∧ Below w.heap.size w wr ∧ wr.cell? ⟨w.heap.size + 1, 0, none⟩ = some (.map (some b)) ∧ wr.cell? ⟨w.heap.size + 1, 1, none⟩ = some (.slice (some ⟨H, 0, none⟩) hl.length hl.length)) (fun _ i _ => ps.length - (intOf i).toNat)
  case atStart => exact ⟨0, Nat.zero_le _, rfl, rfl, hrow0, hb1, hs1, hs2⟩
  case round =>
    obtain ⟨k, hk, rfl, rfl, hrw, hb, hx1, hx2⟩ := hrel
    by_cases hlt : k < ps.length
    · have hbd : (k : Int) < (ps.length : Int) := by omega
      obtain ⟨c0, c1, c2⟩ := ((unhide HRT).below hb hlG).2 k hlt
      have hfit : k + 1 ≤ ps.length := hlt
      have hGr : w.heap.size + 2 < wr.heap.size := (hrw.lt (w.heap.size + 2) rfl).2
      have hacl : ((pvs cl hl ps).take k).length = k := by rw [List.length_take, Rdg.pvs_length]; omega
      have hok : okPc nt hl.length ((pvs cl hl ps).take k).length ps[k] := by rw [hacl]; exact (unhide HI).ok k hlt
      have hpt : Hid (∀ W2 : World, wr.grownBy W2 none → Calls Tryz.prog 84 #[pv ps[k], sv b H hl.length, .slice (some ⟨w.heap.size + 2, 0, none⟩) k ps.length] W2 fun e w' => e = .returned (.bool (pv1 cl hl ((pvs cl hl ps).take k) ps[k])) ∧ W2.grownBy w' none) := fun W2 h => by
        have hB : RowsH W2 (w.heap.size + 2) ((pvs cl hl ps).take k) := by
          refine ⟨Nat.lt_of_lt_of_le hGr h.size, fun i hi => ?_⟩
          have hi' : i < k := by omega
          have e := (hrw.kept h (Or.inr (by simp [Value.ownBlock]))).cellAt i (by omega)
          rw [e]
          rw [List.getElem?_map, List.getElem?_eq_getElem hi]; rfl
        have hbw : Below w.heap.size w W2 := hb.grown h hb.size (fun k e => by cases e)
        have hc := pTrue_any b H ps.length (w.heap.size + 2) nt c ps[k] cl hl ((pvs cl hl ps).take k) f W2 hok (by omega) (unhide HF) (unhide HCL) ((unhide HM).kept (hbw.block b hlM)) ((unhide HH).same (hbw.block H hlH)) hB
        rw [hacl] at hc
        exact hc.mono fun e w' ⟨h1, h2⟩ => ⟨h1, ⟨h2.os, h2.tape, h2.output, h2.size, fun q hq _ => h2.block q hq⟩⟩
      have hts : ((pvs cl hl ps).take (k + 1)).map Value.bool = ((pvs cl hl ps).take k).map Value.bool ++ [.bool (pv1 cl hl ((pvs cl hl ps).take k) ps[k])] := by rw [pvs_next (unhide HI) hlt, List.map_append]; rfl
      have HTS := hide hts
      have hap : Hid (∀ W2 : World, wr.grownBy W2 none → W2.ownsRow 0 4 1 (.slice (some ⟨w.heap.size + 2, 0, none⟩) k ps.length) k (((pvs cl hl ps).take k).map Value.bool)) := fun W2 h => hrw.kept h (Or.inr (by simp [Value.ownBlock]))
      clear hts hok hacl
      generalize pv1 cl hl ((pvs cl hl ps).take k) ps[k] = bn at HTS hpt
      generalize ps[k] = key at c0 c1 c2 hpt
      obtain ⟨kl, kf, ks⟩ := key
      simp only at c0 c1 c2
      unfold pv sv at hpt
      simp only at hpt
      have hy1 : (wr.alloc (.cells #[.int .u8 kl, .int .i64 kf, .int .i64 ks] 93)).cell? ⟨w.heap.size + 1, 0, none⟩ = some (.map (some b)) := (World.grownBy_alloc _ _ none).cell hx1 (by simp)
      have hy2 : (wr.alloc (.cells #[.int .u8 kl, .int .i64 kf, .int .i64 ks] 93)).cell? ⟨w.heap.size + 1, 1, none⟩ = some (.slice (some ⟨H, 0, none⟩) hl.length hl.length) := (World.grownBy_alloc _ _ none).cell hx2 (by simp)
      have hga : wr.grownBy (wr.alloc (.cells #[.int .u8 kl, .int .i64 kf, .int .i64 ks] 93)) none := World.grownBy_alloc _ _ none
      go_wp2_with fail
      refine (unhide hpt _ hga).mono ?_
      rintro e w3 ⟨rfl, hg3⟩
      have hg4 : wr.grownBy w3 none := hga.trans hg3
      go_wp2_with (refine wpList_append_fits _ rfl (.tmp 19) (.tmp 24) 103 rfl 0 4 i0 1 Tryz.underlying103 hin hz1 _ _ _ _ rfl (unhide hap _ (hg4.trans (World.grownBy_alloc _ _ none))) _ 1 1 [.bool bn] rfl rfl (newsB_at _ _ _ _ rfl) (oneB _) hfit ?_; intro w4 r1 r2)
      have hg5 := hg4.trans (World.grownBy_alloc w3 (.cells #[.bool bn] 4) none)
      exact ⟨⟨k + 1, hfit, by go_num, rfl, by rw [unhide HTS]; exact r1, tx_below hb hg5 r2 (by omega), r2.cell (hg5.cell hx1 (by simp)) (by simp), r2.cell (hg5.cell hx2 (by simp)) (by simp)⟩, by simp [intOf]; omega⟩
    · have hkk : k = ps.length := by omega
      subst hkk
      have hbd : ¬ (ps.length : Int) < (ps.length : Int) := by omega
      have hcn : wr.cell? ⟨w.heap.size + 2, ps.length - 1, none⟩ = some (.bool ((pvs cl hl ps).getD (ps.length - 1) false)) := by
        rw [hrw.cellAt (ps.length - 1) (by omega)]
        have : ps.length - 1 < (pvs cl hl ps).length := by rw [Rdg.pvs_length]; omega
        rw [List.take_of_length_le (by rw [Rdg.pvs_length]; exact Nat.le_refl _), List.getElem?_map, List.getD_eq_getElem?_getD, List.getElem?_eq_getElem this]; rfl
      have hdi : ((ps.length : Int) - 1) = ((ps.length - 1 : Nat) : Int) := by omega
      have hle1 : ((ps.length - 1 : Nat) : Int) < (ps.length : Int) := by omega
      obtain ⟨bn, hbn⟩ : ∃ bn, (pvs cl hl ps).getD (ps.length - 1) false = bn := ⟨_, rfl⟩
      rw [hbn] at hcn
      have HBN := hide hbn
      clear hbn
      go_wp2_with fail
      go_ret
      refine ⟨?_, hb⟩
      have hbn := unhide HBN
      rw [List.getD_eq_getElem?_getD] at hbn
      simp [hbn]

end Go.Proofs.YthcppbmkacbbiaaGreat

namespace Go.Proofs.YthcppbmkacbbiaaGreat
open Go.RowKit Go.Maps Go.WideMaps
open Rdg (Key put okPc pv1 jn isJoint pvs InvP)

/-- A case is sound and the formula is true in it, as the program asks it. -/
def isM (f : Nat → Nat) (ts : List Key) (cs : List (Int × Nat)) (ps : List Key) (cl : List Int) (hl : List Bool) : Bool :=
  decide (∀ p ∈ prs (mkd f ts) ts.length, f p.1 = f p.2) && decide (∀ p ∈ prs (mkc f cs) cs.length, hl.getD p.1 false = hl.getD p.2 false) && (pvs cl hl ps).getD (ps.length - 1) false

/-- The formula and the case lie in their two blocks. -/
def Imd5 (GT GC GP nt nc np b H nh n : Nat) (W : World) : Prop :=
  W.cell? ⟨n, 0, none⟩ = some (.slice (some ⟨GT, 0, none⟩) nt nt) ∧ W.cell? ⟨n, 1, none⟩ = some (.slice (some ⟨GC, 0, none⟩) nc nc) ∧ W.cell? ⟨n, 2, none⟩ = some (.slice (some ⟨GP, 0, none⟩) np np) ∧ W.cell? ⟨n + 1, 0, none⟩ = some (.map (some b)) ∧ W.cell? ⟨n + 1, 1, none⟩ = some (.slice (some ⟨H, 0, none⟩) nh nh)

theorem Imd5.step {GT GC GP nt nc np b H nh n : Nat} {W W' : World} (k : Imd5 GT GC GP nt nc np b H nh n W) (hs : n + 1 < W.heap.size) (h : Below W.heap.size W W') : Imd5 GT GC GP nt nc np b H nh n W' :=
  ⟨(h.cell (p := ⟨n, 0, none⟩) (by show n < _; omega)).trans k.1, (h.cell (p := ⟨n, 1, none⟩) (by show n < _; omega)).trans k.2.1, (h.cell (p := ⟨n, 2, none⟩) (by show n < _; omega)).trans k.2.2.1, (h.cell (p := ⟨n + 1, 0, none⟩) hs).trans k.2.2.2.1, (h.cell (p := ⟨n + 1, 1, none⟩) hs).trans k.2.2.2.2⟩

set_option linter.unusedSimpArgs false in
set_option maxRecDepth 100000 in
set_option maxHeartbeats 2000000 in
theorem isModel_any (GT GC GP b c H : Nat) (f : Nat → Nat) (ts : List Key) (cs : List (Int × Nat)) (ps : List Key) (cl : List Int) (hl : List Bool) (w : World) (h7 : ts.length ≤ 7) (h4 : cs.length ≤ 4) (h1 : 0 < ps.length) (h100 : ps.length ≤ 100) (hlh : hl.length = cs.length)
    (hrt : RowsT w GT ts) (hrc : RowsC w GC cs) (hrp : RowsT w GP ps) (hit : Rdg.Inv ts) (hic : ∀ x ∈ cs, (x.1 = 80 ∨ x.1 = 81) ∧ x.2 < ts.length) (hip : InvP ts.length cs.length ps) (hf : ∀ i, i < ts.length → f i ≤ i ∧ f (f i) = f i) (hcl : ∀ i j, i < ts.length → j < ts.length → (f i = f j ↔ cl.getD i 0 = cl.getD j 0)) (hM : CMap w b f ts.length c) (hH : RowsH w H hl) :
    Calls Tryz.prog 55 #[fv GT GC GP ts.length cs.length ps.length, sv b H hl.length] w fun e w' => e = .returned (.bool (isM f ts cs ps cl hl)) ∧ Below w.heap.size w w' := by
  have hA : Hid (∀ W : World, Below w.heap.size w W → Calls Tryz.prog 48 #[fv GT GC GP ts.length cs.length ps.length, .map (some b)] W fun e w' => e = .returned (.bool (decide (∀ p ∈ prs (mkd f ts) ts.length, f p.1 = f p.2))) ∧ Below W.heap.size W w') := fun W h =>
    congruent_any GT GC GP cs.length ps.length b c f ts W h7 (hrt.below h hrt.1) hit hf (hM.kept (h.block b hM.lt))
  have hB : Hid (∀ W : World, Below w.heap.size w W → Calls Tryz.prog 50 #[fv GT GC GP ts.length cs.length ps.length, sv b H hl.length] W fun e w' => e = .returned (.bool (decide (∀ p ∈ prs (mkc f cs) cs.length, hl.getD p.1 false = hl.getD p.2 false))) ∧ Below W.heap.size W w') := fun W h =>
    agreed_any GT GC GP ts.length ps.length b c H f cs hl W h4 h7 hlh (hrc.below h hrc.1) hic hf (hM.kept (h.block b hM.lt)) (hH.same (h.block H hH.1))
  have hC : Hid (∀ W : World, Below w.heap.size w W → Calls Tryz.prog 51 #[fv GT GC GP ts.length cs.length ps.length, sv b H hl.length] W fun e w' => e = .returned (.bool ((pvs cl hl ps).getD (ps.length - 1) false)) ∧ Below W.heap.size W w') := fun W h =>
    isTrue_any GT GC GP ts.length cs.length b c H f ps cl hl W h1 h100 h7 (hrp.below h hrp.1) (by rw [hlh]; exact hip) hf hcl (hM.kept (h.block b hM.lt)) (hH.same (h.block H hH.1))
  unfold isM
  generalize decide (∀ p ∈ prs (mkd f ts) ts.length, f p.1 = f p.2) = b1 at hA ⊢
  generalize decide (∀ p ∈ prs (mkc f cs) cs.length, hl.getD p.1 false = hl.getD p.2 false) = b2 at hB ⊢
  generalize (pvs cl hl ps).getD (ps.length - 1) false = b3 at hC ⊢
  generalize ts.length = nt at *
  generalize cs.length = nc at *
  generalize ps.length = np at *
  generalize hl.length = nh at *
  clear hrt hrc hrp hit hic hip hf hcl hM hH
  unfold fv sv at *
  have HLH := hide hlh
  clear hlh
  have hAl : ∃ wa, (w.alloc (.cells #[.slice (some ⟨GT, 0, none⟩) nt nt, .slice (some ⟨GC, 0, none⟩) nc nc, .slice (some ⟨GP, 0, none⟩) np np] 54)).alloc (.cells #[.map (some b), .slice (some ⟨H, 0, none⟩) nh nh] 105) = wa := ⟨_, rfl⟩
  obtain ⟨wa, hwa⟩ := hAl
  have hba : Below w.heap.size w wa := by rw [← hwa]; exact two_below _ _ _
  have hsa : wa.heap.size = w.heap.size + 2 := by rw [← hwa]; simp
  have ka : Imd5 GT GC GP nt nc np b H nh w.heap.size wa := by
    rw [← hwa]
    exact ⟨by simp [go_sem], by simp [go_sem], by simp [go_sem], by simp [go_sem], by simp [go_sem]⟩
  have hsz : w.heap.size + 1 < wa.heap.size := by omega
  have HWA := hide hwa
  have KA' := hide ka
  have HSA := hide hsa
  have HSZ := hide hsz
  clear hsz hsa hwa ka
  go_enter Tryz.func55, Tryz.ntmps55
  go_wp2_with fail
  rw [unhide HWA]
  refine (unhide hA _ hba).mono ?_
  rintro e w1 ⟨rfl, hb1⟩
  have k1 := (unhide KA').step (unhide HSZ) hb1
  have hs1 : wa.heap.size ≤ w1.heap.size := hb1.size
  have hba1 : Below w.heap.size w w1 := hba.trans ⟨hb1.os, hb1.tape, hb1.output, hb1.size, fun j hj => hb1.block j (by have := unhide HSA; omega)⟩
  obtain ⟨p1, p2, p3, p4, p5⟩ := k1
  cases b1
  · go_wp2_with fail
    go_ret
    exact ⟨by simp, hba1⟩
  go_wp2_with fail
  refine (unhide hB _ hba1).mono ?_
  rintro e w2 ⟨rfl, hb2⟩
  have k2 := Imd5.step (W := w1) ⟨p1, p2, p3, p4, p5⟩ (Nat.lt_of_lt_of_le (unhide HSZ) hs1) hb2
  have hs2 : wa.heap.size ≤ w2.heap.size := Nat.le_trans hs1 hb2.size
  have hba2 : Below w.heap.size w w2 := hba1.trans ⟨hb2.os, hb2.tape, hb2.output, hb2.size, fun j hj => hb2.block j (by have := unhide HSA; omega)⟩
  obtain ⟨r1, r2, r3, r4, r5⟩ := k2
  cases b2
  · go_wp2_with fail
    go_ret
    exact ⟨by simp, hba2⟩
  go_wp2_with fail
  refine (unhide hC _ hba2).mono ?_
  rintro e w3 ⟨rfl, hb3⟩
  have hba3 : Below w.heap.size w w3 := hba2.trans ⟨hb3.os, hb3.tape, hb3.output, hb3.size, fun j hj => hb3.block j (by have := unhide HSA; omega)⟩
  go_wp2_with fail
  go_ret
  exact ⟨by simp, hba3⟩

end Go.Proofs.YthcppbmkacbbiaaGreat

namespace Go.Proofs.YthcppbmkacbbiaaGreat
open Rdg (Key Inv InvC texts rend rendC okKey Bal inn inn_one inn_two)

theorem texts_ne {ts : List Key} (h : Inv ts) {x : Nat} (hx : x < ts.length) : (texts ts).getD x [] ≠ [] := by
  rw [h.get x hx]
  rcases Rdg.rend_cases (T := texts ts) (h.key x hx) with ⟨c, e, _⟩ | ⟨_, _, e⟩ | ⟨_, _, _, e⟩ <;> rw [e] <;> simp

theorem texts_idx {ts : List Key} (h : Inv ts) {x : Nat} (hx : x < ts.length) : (texts ts).idxOf ((texts ts).getD x []) = x := by
  have hx' : x < (texts ts).length := by rw [Rdg.texts_length]; exact hx
  have e : (texts ts).getD x [] = (texts ts)[x] := by rw [List.getD_eq_getElem?_getD, List.getElem?_eq_getElem hx']; rfl
  rw [e]
  have hm : (texts ts)[x] ∈ texts ts := List.getElem_mem hx'
  have hlt : (texts ts).idxOf (texts ts)[x] < (texts ts).length := List.idxOf_lt_length_of_mem hm
  have he : (texts ts)[(texts ts).idxOf (texts ts)[x]] = (texts ts)[x] := List.getElem_idxOf hlt
  have hp := List.pairwise_iff_getElem.1 h.nd
  rcases Nat.lt_trichotomy ((texts ts).idxOf (texts ts)[x]) x with h1 | h1 | h1
  · exact absurd he (hp _ _ hlt hx' h1)
  · exact h1
  · exact absurd he.symm (hp _ _ hx' hlt h1)

theorem eqB_at {ts : List Key} (h : Inv ts) (cl : List Int) {x y : Nat} (hx : x < ts.length) (hy : y < ts.length) : eqB (texts ts) cl ((texts ts).getD x []) ((texts ts).getD y []) = decide (cl.getD x 0 = cl.getD y 0) := by
  unfold eqB
  rw [if_neg (by intro e; rcases e with e | e; exact texts_ne h hx e; exact texts_ne h hy e), texts_idx h hx, texts_idx h hy]

theorem eqB_nil (T : List (List UInt8)) (cl : List Int) : eqB T cl [] [] = true := by unfold eqB; simp

theorem badT_iff {ts : List Key} (h : Inv ts) {cl : List Int} {f : Nat → Nat} (hcl : ∀ i j, i < ts.length → j < ts.length → (f i = f j ↔ cl.getD i 0 = cl.getD j 0)) {i k : Nat} (hi : i < ts.length) (hk : k < ts.length) :
    badT (texts ts) cl i k = true ↔ (ts[i].1 = ts[k].1 ∧ f ts[i].2.1 = f ts[k].2.1 ∧ f ts[i].2.2 = f ts[k].2.2) ∧ f i ≠ f k := by
  unfold badT
  rw [h.get i hi, h.get k hk]
  have k1 := h.key i hi
  have k2 := h.key k hk
  have b : ∀ x, x < ts.length → Bal ((texts ts).getD x []) := fun x hx => h.bal (x + 1) x (by omega) hx
  have hne : f i ≠ f k ↔ cl.getD i 0 ≠ cl.getD k 0 := not_congr (hcl i k hi hk)
  rcases k1 with ⟨a1, a2, a3, a4⟩ | ⟨a1, a2, a3⟩ | ⟨a1, a2, a3⟩
  · have e1 : rend (texts ts) ts[i] = [UInt8.ofNat ts[i].1.toNat] := by unfold rend; rw [if_neg (by omega), if_neg (by omega)]
    rw [e1]
    constructor
    · intro e; simp at e
    · rintro ⟨⟨q1, _, _⟩, q4⟩
      exfalso
      rcases k2 with ⟨c1, c2, c3, c4⟩ | ⟨c1, c2, c3⟩ | ⟨c1, c2, c3⟩
      · apply q4
        have he : ts[i] = ts[k] := Prod.ext q1 (Prod.ext (by omega) (by omega))
        have hp := List.pairwise_iff_getElem.1 h.nodup
        rcases Nat.lt_trichotomy i k with h1 | h1 | h1
        · exact absurd he (hp _ _ hi hk h1)
        · rw [h1]
        · exact absurd he.symm (hp _ _ hk hi h1)
      · omega
      · omega
  · have e1 : rend (texts ts) ts[i] = 102 :: 40 :: ((texts ts).getD ts[i].2.1 [] ++ [41]) := by unfold rend; rw [if_pos a1]
    rw [e1]
    rcases k2 with ⟨c1, c2, c3, c4⟩ | ⟨c1, c2, c3⟩ | ⟨c1, c2, c3⟩
    · have e2 : rend (texts ts) ts[k] = [UInt8.ofNat ts[k].1.toNat] := by unfold rend; rw [if_neg (by omega), if_neg (by omega)]
      rw [e2]
      constructor
      · intro e; simp at e
      · rintro ⟨⟨q1, _, _⟩, _⟩; omega
    · have e2 : rend (texts ts) ts[k] = 102 :: 40 :: ((texts ts).getD ts[k].2.1 [] ++ [41]) := by unfold rend; rw [if_pos c1]
      rw [e2, inn_one (b _ (by omega)), inn_one (b _ (by omega)), eqB_nil, eqB_at h cl (by omega) (by omega), hne, hcl _ _ (by omega) (by omega), a1, c1, a3, c3]
      simp [and_comm]
    · have e2 : rend (texts ts) ts[k] = 103 :: 40 :: ((texts ts).getD ts[k].2.1 [] ++ 44 :: ((texts ts).getD ts[k].2.2 [] ++ [41])) := by unfold rend; rw [if_neg (by omega), if_pos c1]
      rw [e2]
      constructor
      · intro e; simp at e
      · rintro ⟨⟨q1, _, _⟩, _⟩; omega
  · have e1 : rend (texts ts) ts[i] = 103 :: 40 :: ((texts ts).getD ts[i].2.1 [] ++ 44 :: ((texts ts).getD ts[i].2.2 [] ++ [41])) := by unfold rend; rw [if_neg (by omega), if_pos a1]
    rw [e1]
    rcases k2 with ⟨c1, c2, c3, c4⟩ | ⟨c1, c2, c3⟩ | ⟨c1, c2, c3⟩
    · have e2 : rend (texts ts) ts[k] = [UInt8.ofNat ts[k].1.toNat] := by unfold rend; rw [if_neg (by omega), if_neg (by omega)]
      rw [e2]
      constructor
      · intro e; simp at e
      · rintro ⟨⟨q1, _, _⟩, _⟩; omega
    · have e2 : rend (texts ts) ts[k] = 102 :: 40 :: ((texts ts).getD ts[k].2.1 [] ++ [41]) := by unfold rend; rw [if_pos c1]
      rw [e2]
      constructor
      · intro e; simp at e
      · rintro ⟨⟨q1, _, _⟩, _⟩; omega
    · have e2 : rend (texts ts) ts[k] = 103 :: 40 :: ((texts ts).getD ts[k].2.1 [] ++ 44 :: ((texts ts).getD ts[k].2.2 [] ++ [41])) := by unfold rend; rw [if_neg (by omega), if_pos c1]
      rw [e2, inn_two (b _ (by omega)), inn_two (b _ (by omega)), eqB_at h cl (by omega) (by omega), eqB_at h cl (by omega) (by omega), hne, hcl _ _ (by omega) (by omega), hcl _ _ (by omega) (by omega), a1, c1]
      simp [and_comm, and_assoc]

end Go.Proofs.YthcppbmkacbbiaaGreat
