import Derived.Test.YthcppbmkacbbiaaGreatAstM
import Derived.Test.YthcppbmkacbbiaaGreatSeqrM
import Derived.Test.YthcppbmkacbbiaaGreatRefKM
namespace Go.Proofs.YthcppbmkacbbiaaGreat
open Go.RowKit
open Nx

/-- How many ways to double: the classes of the first y. -/
def leafN (y : Nat) (l : List Nat) (c : Nat) : Nat := (List.range c).foldl (fun n c => if (l.take y).contains c then 2 * n else n) 1
/-- The ways to go on for k things more. -/
def wy : Nat → Nat → List Nat → Nat
  | 0, y, l => leafN y l (cm 0 l)
  | k + 1, y, l => ((List.range (cm 0 l + 1)).map fun c => wy k y (l ++ [c])).sum

theorem leafN_succ (y : Nat) (l : List Nat) (c : Nat) : leafN y l (c + 1) = if (l.take y).contains c then 2 * leafN y l c else leafN y l c := by
  unfold leafN
  rw [List.range_succ, List.foldl_append]
  rfl

theorem leafN_le (y : Nat) (l : List Nat) (c : Nat) : leafN y l c ≤ 2 ^ c := by
  induction c with
  | zero => simp [leafN]
  | succ c ih =>
    rw [leafN_succ, Nat.pow_succ]
    split <;> omega

theorem cm_six {l : List Nat} (h : ∀ x ∈ l, x ≤ 5) : cm 0 l ≤ 6 := by
  have key : ∀ (l : List Nat) m, (∀ x ∈ l, x ≤ 5) → m ≤ 6 → cm m l ≤ 6 := by
    intro l
    induction l with
    | nil => intro m _ hm; exact hm
    | cons d r ih =>
      intro m h hm
      have := h d (by simp)
      exact ih _ (fun x hx => h x (by simp [hx])) (by show max m (d + 1) ≤ 6; omega)
  exact key l 0 h (by omega)

theorem has_succ {l : List Nat} {r q : Nat} (h : r < l.length) : (l.take (r + 1)).contains q = ((l.take r).contains q || l[r] == q) := by
  rw [List.take_add_one, List.getElem?_eq_getElem h, Bool.eq_iff_iff]
  simp only [List.contains_eq_mem, List.mem_append, Option.toList_some, List.mem_singleton, decide_eq_true_eq, Bool.or_eq_true, beq_iff_eq]
  constructor
  · rintro (h | h)
    · exact Or.inl h
    · exact Or.inr h.symm
  · rintro (h | h)
    · exact Or.inl h
    · exact Or.inr h.symm

theorem cm_mem : ∀ (l : List Nat) (m x : Nat), x ∈ l → x + 1 ≤ cm m l := by
  intro l
  induction l with
  | nil => intro m x h; simp at h
  | cons d r ih =>
    intro m x h
    rcases List.mem_cons.1 h with rfl | h
    · exact Nat.le_trans (Nat.le_max_right m _) (cm_ge r _)
    · exact ih _ x h

theorem sum_le {α : Type} (L : List α) (g : α → Nat) (b : Nat) (h : ∀ x ∈ L, g x ≤ b) : (L.map g).sum ≤ L.length * b := by
  induction L with
  | nil => simp
  | cons x r ih =>
    have := h x (by simp)
    have := ih (fun y hy => h y (by simp [hy]))
    simp only [List.map_cons, List.sum_cons, List.length_cons, Nat.succ_mul]
    omega

theorem wy_le : ∀ (k y : Nat) (l : List Nat), l.length + k ≤ 5 → cm 0 l ≤ l.length → wy k y l ≤ 32 * 6 ^ k := by
  intro k
  induction k with
  | zero =>
    intro y l h hc
    have h1 := leafN_le y l (cm 0 l)
    have h2 : 2 ^ cm 0 l ≤ 2 ^ 5 := Nat.pow_le_pow_right (by omega) (by omega)
    show leafN y l (cm 0 l) ≤ 32 * 1
    omega
  | succ k ih =>
    intro y l h hc
    have h1 := sum_le (List.range (cm 0 l + 1)) (fun c => wy k y (l ++ [c])) (32 * 6 ^ k) (fun c hx => by
      have hx' := List.mem_range.1 hx
      exact ih y (l ++ [c]) (by simp; omega) (by rw [cm_snoc]; simp; omega))
    rw [List.length_range] at h1
    show ((List.range (cm 0 l + 1)).map fun c => wy k y (l ++ [c])).sum ≤ _
    have h2 : (cm 0 l + 1) * (32 * 6 ^ k) ≤ 6 * (32 * 6 ^ k) := Nat.mul_le_mul_right _ (by omega)
    rw [Nat.pow_succ]
    omega

/-- A row of numbers that a call was handed: none yet, or in a block. -/
def RowN (w : World) (v : Value) (l : List Nat) : Prop := w.ownsRow 0 3 1 v l.length (l.map kvI)

theorem RowN.slice {w : World} {v : Value} {l : List Nat} (h : RowN w v l) : ∃ a c, v = .slice a l.length c ∧ ∀ i (hi : i < l.length), ∃ g, a = some ⟨g, 0, none⟩ ∧ w.cell? ⟨g, i, none⟩ = some (.int .i64 l[i]) := by
  rcases h.2 with ⟨e, e2⟩ | ⟨g, cap, cur, e, _⟩
  · exact ⟨none, 0, by rw [e2]; exact e, fun i hi => by omega⟩
  · refine ⟨some ⟨g, 0, none⟩, cap, e, fun i hi => ⟨g, rfl, ?_⟩⟩
    subst e
    rw [World.ownsRow.cellAt h i (by omega)]
    simp [hi, kvI]

theorem RowN.below {w w' : World} {v : Value} {l : List Nat} (h : RowN w v l) (hb : Below w.heap.size w w') : RowN w' v l := by
  have hg : w.grownBy w' none := ⟨hb.os, hb.tape, hb.output, hb.size, fun k hk _ => hb.block k hk⟩
  by_cases hv : v.ownBlock = none
  · exact World.ownsRow.kept h hg (Or.inl hv)
  · exact World.ownsRow.kept h hg (Or.inr hv)

set_option linter.unusedSimpArgs false in
set_option maxRecDepth 100000 in
set_option maxHeartbeats 2000000 in
theorem ways_any : ∀ (k y : Nat) (l : List Nat) (v : Value) (w : World), l.length + k ≤ 5 → y ≤ l.length + k → cm 0 l ≤ l.length → RowN w v l →
    Calls Tryz.prog 21 #[.int .i64 ((l.length + k : Nat) : Int), .int .i64 y, v] w fun e w' => e = .returned (.int .i64 (wy k y l)) ∧ Below w.heap.size w w' := by
  intro k
  induction k with
  | zero =>
    intro y l v w h5 hy hcn hr
    have hv : ∀ x ∈ l, x ≤ 5 := fun x hx => by have := cm_mem l 0 x hx; omega
    obtain ⟨a, c, rfl, hc⟩ := hr.slice
    rw [Nat.add_zero] at hy ⊢
    have HC := hide hc
    have HV := hide hv
    clear hc hv hr
    go_enter Tryz.func21, Tryz.ntmps21
    go_wp2_with fail
    go_loop [7, 8] (fun cv iv => ∃ q : Nat, q ≤ l.length ∧ iv = .int .i64 q ∧ cv = .int .i64 (cm 0 (l.take q))) (fun _ iv => l.length - (intOf iv).toNat)
    case atStart => exact ⟨0, Nat.zero_le _, rfl, by simp [cm]⟩
    case round =>
      obtain ⟨q, hq, rfl, rfl⟩ := hrel
      by_cases hlt : q < l.length
      · obtain ⟨g, rfl, hcq⟩ := unhide HC q hlt
        have hbq : (q : Int) < (l.length : Int) := by omega
        have hxq := unhide HV _ (List.getElem_mem hlt)
        have hcm := cm_take hlt 0
        have hmb := cm_le (vs := l.take q) (fun x hx => by have := unhide HV x (List.mem_of_mem_take hx); omega) 0 (by omega)
        have HCM := hide hcm
        clear hcm
        generalize l[q] = d at hcq hxq HCM
        generalize cm 0 (l.take q) = m at HCM hmb
        by_cases hdm : (m : Int) ≤ (d : Int)
        · go_wp2_with fail
          refine ⟨⟨q + 1, hlt, by go_num, ?_⟩, by simp [intOf]; omega⟩
          rw [unhide HCM]
          congr 1; omega
        · go_wp2_with fail
          refine ⟨⟨q + 1, hlt, by go_num, ?_⟩, by simp [intOf]; omega⟩
          rw [unhide HCM]
          congr 1; omega
      · have hqq : q = l.length := by omega
        subst hqq
        have hbq : ¬ (l.length : Int) < (l.length : Int) := by omega
        rw [List.take_length]
        obtain ⟨m, hm⟩ : ∃ m, cm 0 l = m := ⟨_, rfl⟩
        rw [hm]
        have hmb : m ≤ 6 := by
          rw [← hm]
          exact cm_six (unhide HV)
        have HM := hide hm
        clear hm hlt hq
        go_wp2_with fail
        go_loop [9, 10] (fun nv cv => ∃ r : Nat, r ≤ m ∧ cv = .int .i64 r ∧ nv = .int .i64 (leafN y l r)) (fun _ cv => m - (intOf cv).toNat)
        case atStart => exact ⟨0, Nat.zero_le _, rfl, by simp [leafN]⟩
        case round =>
          obtain ⟨r, hr, rfl, rfl⟩ := hrel
          by_cases hrm : r < m
          · have hbr : (r : Int) < (m : Int) := by omega
            have hle := leafN_le y l r
            have hp6 : 2 ^ r ≤ 64 := Nat.le_trans (Nat.pow_le_pow_right (by omega) (show r ≤ 6 by omega)) (by decide)
            have hls := leafN_succ y l r
            have hl64 : leafN y l r ≤ 64 := by omega
            have HLS := hide hls
            clear hls hle hp6
            generalize leafN y l r = nn at HLS hl64
            go_wp2_with fail
            go_loop [11, 12] (fun sv iv => ∃ t : Nat, t ≤ y ∧ iv = .int .i64 t ∧ sv = .bool ((l.take t).contains r)) (fun _ iv => y - (intOf iv).toNat)
            case atStart => exact ⟨0, Nat.zero_le _, rfl, by simp⟩
            case round =>
              obtain ⟨t, ht, rfl, rfl⟩ := hrel
              by_cases hty : t < y
              · have hbt : (t : Int) < (y : Int) := by omega
                have htl : t < l.length := by omega
                have htl2 : (t : Int) < (l.length : Int) := by omega
                obtain ⟨g, rfl, hct⟩ := unhide HC t htl
                have hsu := has_succ (q := r) htl
                have HSU := hide hsu
                clear hsu
                generalize l[t] = d at hct HSU
                generalize (l.take t).contains r = bb at HSU
                cases bb
                · go_wp2_with fail
                  refine ⟨⟨t + 1, hty, by go_num, ?_⟩, by simp [intOf]; omega⟩
                  rw [unhide HSU]
                  congr 1
                  rw [Bool.false_or, Bool.eq_iff_iff]
                  simp only [beq_iff_eq]
                  omega
                · go_wp2_with fail
                  refine ⟨⟨t + 1, hty, by go_num, ?_⟩, by simp [intOf]; omega⟩
                  rw [unhide HSU]
                  rfl
              · have htt : t = y := by omega
                subst htt
                have hbt : ¬ (t : Int) < (t : Int) := by omega
                generalize (l.take t).contains r = bb at HLS
                cases bb
                · go_wp2_with fail
                  exact ⟨⟨r + 1, hrm, by go_num, by rw [unhide HLS]; rfl⟩, by simp [intOf]; omega⟩
                · go_wp2_with fail
                  refine ⟨⟨r + 1, hrm, by go_num, ?_⟩, by simp [intOf]; omega⟩
                  rw [unhide HLS, if_pos rfl]
                  congr 1
          · have hrr : r = m := by omega
            subst hrr
            have hbr : ¬ (r : Int) < (r : Int) := by omega
            have hwy : wy 0 y l = leafN y l r := by show leafN y l (cm 0 l) = _; rw [unhide HM]
            have HWY := hide hwy
            clear hwy
            generalize leafN y l r = nn at HWY
            go_wp2_with fail
            go_ret
            exact ⟨by rw [unhide HWY]; rfl, Below.refl _ _⟩
  | succ k ih =>
    intro y l v w h5 hy hcn hr
    have hv : ∀ x ∈ l, x ≤ 5 := fun x hx => by have := cm_mem l 0 x hx; omega
    have HR := hide hr
    obtain ⟨a, c, rfl, hc⟩ := hr.slice
    have hne : (l.length : Int) ≠ ((l.length + (k + 1) : Nat) : Int) := by omega
    have hnb : ((l.length : Int) == ((l.length + (k + 1) : Nat) : Int)) = false := by simpa using hne
    obtain ⟨X, hX⟩ : ∃ X : Nat, l.length + (k + 1) = X := ⟨_, rfl⟩
    rw [hX] at hne hnb ⊢
    have HX := hide hX
    clear hX
    have HC := hide hc
    have HV := hide hv
    clear hc hv hr
    go_enter Tryz.func21, Tryz.ntmps21
    go_wp2_with fail
    go_loop [7, 8] (fun cv iv => ∃ q : Nat, q ≤ l.length ∧ iv = .int .i64 q ∧ cv = .int .i64 (cm 0 (l.take q))) (fun _ iv => l.length - (intOf iv).toNat)
    case atStart => exact ⟨0, Nat.zero_le _, rfl, by simp [cm]⟩
    case round =>
      obtain ⟨q, hq, rfl, rfl⟩ := hrel
      by_cases hlt : q < l.length
      · obtain ⟨g, rfl, hcq⟩ := unhide HC q hlt
        have hbq : (q : Int) < (l.length : Int) := by omega
        have hxq := unhide HV _ (List.getElem_mem hlt)
        have hcm := cm_take hlt 0
        have hmb := cm_le (vs := l.take q) (fun x hx => by have := unhide HV x (List.mem_of_mem_take hx); omega) 0 (by omega)
        have HCM := hide hcm
        clear hcm
        generalize l[q] = d at hcq hxq HCM
        generalize cm 0 (l.take q) = m at HCM hmb
        by_cases hdm : (m : Int) ≤ (d : Int)
        · go_wp2_with fail
          refine ⟨⟨q + 1, hlt, by go_num, ?_⟩, by simp [intOf]; omega⟩
          rw [unhide HCM]
          congr 1; omega
        · go_wp2_with fail
          refine ⟨⟨q + 1, hlt, by go_num, ?_⟩, by simp [intOf]; omega⟩
          rw [unhide HCM]
          congr 1; omega
      · have hqq : q = l.length := by omega
        subst hqq
        have hbq : ¬ (l.length : Int) < (l.length : Int) := by omega
        rw [List.take_length]
        obtain ⟨m, hm⟩ : ∃ m, cm 0 l = m := ⟨_, rfl⟩
        rw [hm]
        have hmb : m ≤ 6 := by
          rw [← hm]
          exact cm_six (unhide HV)
        have HM := hide hm
        clear hm hlt hq
        have hwy : wy (k + 1) y l = ((List.range (m + 1)).map fun c => wy k y (l ++ [c])).sum := by
          show ((List.range (cm 0 l + 1)).map fun c => wy k y (l ++ [c])).sum = _
          rw [unhide HM]
        have hml : m ≤ l.length := by rw [← unhide HM]; exact hcn
        have HWY := hide hwy
        have HCN := hide hcn
        clear hwy hcn
        obtain ⟨i0, hin, hz0, hz1, hz2⟩ := info_parts infoI
        go_wp2_with fail
        go_loopw [13, 14] (fun sv cv wr => ∃ r : Nat, r ≤ m + 1 ∧ cv = .int .i64 r ∧ sv = .int .i64 (((List.range r).map fun c => wy k y (l ++ [c])).sum : Nat) ∧ Below w.heap.size w wr) (fun _ cv _ => m + 1 - (intOf cv).toNat)
        case atStart => exact ⟨0, Nat.zero_le _, rfl, by simp, Below.refl _ _⟩
        case round =>
          obtain ⟨r, hr, rfl, rfl, hbw⟩ := hrel
          by_cases hrm : r < m + 1
          · have hbr : (r : Int) ≤ (m : Int) := by omega
            have hsm : ((List.range (r + 1)).map fun c => wy k y (l ++ [c])).sum = ((List.range r).map fun c => wy k y (l ++ [c])).sum + wy k y (l ++ [r]) := by
              rw [List.range_succ, List.map_append, List.sum_append]; simp
            have hk4 : 6 ^ k ≤ 7776 := Nat.le_trans (Nat.pow_le_pow_right (by omega) (show k ≤ 5 by omega)) (by decide)
            have hb1 : ((List.range r).map fun c => wy k y (l ++ [c])).sum ≤ r * (32 * 6 ^ k) := by
              have q := sum_le (List.range r) (fun c => wy k y (l ++ [c])) (32 * 6 ^ k) (fun c hx => by
                have hx' := List.mem_range.1 hx
                exact wy_le k y (l ++ [c]) (by simp; omega) (by rw [cm_snoc, unhide HM]; simp; omega))
              rwa [List.length_range] at q
            have hb2 : wy k y (l ++ [r]) ≤ 32 * 6 ^ k := wy_le k y (l ++ [r]) (by simp; omega) (by rw [cm_snoc, unhide HM]; simp; omega)
            have hb3 : r * (32 * 6 ^ k) ≤ 5 * (32 * 6 ^ k) := Nat.mul_le_mul_right _ (by omega)
            have hb4 : ((List.range r).map fun c => wy k y (l ++ [c])).sum ≤ 2000000 := by omega
            have hb5 : wy k y (l ++ [r]) ≤ 2000000 := by omega
            have hih : Hid (∀ (W : World) (v : Value), RowN W v (l ++ [r]) → Calls Tryz.prog 21 #[.int .i64 X, .int .i64 y, v] W fun e w' => e = .returned (.int .i64 (wy k y (l ++ [r]))) ∧ Below W.heap.size W w') := fun W v h => by
              have q := ih y (l ++ [r]) v W (by simp; omega) (by simp; omega) (by rw [cm_snoc, unhide HM]; simp; omega) h
              rw [show (l ++ [r]).length + k = X by rw [← unhide HX]; simp; omega] at q
              exact q
            have HSM := hide hsm
            clear hsm hk4 hb1 hb2 hb3
            generalize ((List.range r).map fun c => wy k y (l ++ [c])).sum = sm at HSM hb4
            generalize wy k y (l ++ [r]) = wv at HSM hih hb5
            obtain ⟨w0, rfl⟩ : ∃ w0, w0 = wr := ⟨_, rfl⟩
            go_wp2_with fail
            go_loopw [15, 16] (fun mv iv wr => ∃ t : Nat, t ≤ l.length ∧ iv = .int .i64 t ∧ Below w.heap.size w wr ∧ wr.ownsRow w.heap.size 3 1 mv t ((l.take t).map kvI)) (fun _ iv _ => l.length - (intOf iv).toNat)
            case atStart => exact ⟨0, Nat.zero_le _, rfl, hbw, by simpa using World.ownsRow_nil _ _ _ _⟩
            case round =>
              obtain ⟨t, ht, rfl, hbt, hrw⟩ := hrel
              obtain ⟨b1, p1, rfl⟩ := own_any hrw
              by_cases htl : t < l.length
              · have hb0 : (t : Int) < (l.length : Int) := by omega
                obtain ⟨g, rfl, hct⟩ := unhide HC t htl
                have hgl : g < w.heap.size := World.block_lt_of_cell? w _ hct
                have hct2 : wr.cell? ⟨g, t, none⟩ = some (.int .i64 l[t]) := (hbt.cell (p := ⟨g, t, none⟩) hgl).trans hct
                have htk : (l.take (t + 1)).map kvI = (l.take t).map kvI ++ [kvI l[t]] := by rw [List.take_add_one, List.getElem?_eq_getElem htl, List.map_append]; rfl
                have HTK := hide htk
                have HRW := hide hrw
                clear htk hrw hct
                generalize l[t] = d at hct2 HTK
                go_wp2_with (at_builtin; refine wpList_append_own_at _ rfl _ _ 58 rfl w.heap.size 3 i0 (.int .i64 0) 1 8 Tryz.underlying58 hin hz0 hz1 hz2 rfl (by decide) (.slice b1 t p1) t ((l.take t).map kvI) rfl (by exact World.ownsRow.alloc (by exact (unhide HRW)) _) ⟨wr.heap.size, 0, none⟩ 1 1 [kvI d] rfl rfl (newsI_at _ _ _ _ rfl) (oneI _) (by unfold maxLen; omega) (by omega) (by have := hbt.size; simp; omega) ?_; intro v' w3 hown hgrow hnil hloc; obtain ⟨b2, p2, hv2⟩ := own_any hown; subst hv2)
                have hb3 : Below w.heap.size w w3 := (hbt.alloc hbt.size _).grown hgrow (by have := hbt.size; simp; omega) (fun q e => ((unhide HRW).lt q e).1)
                exact ⟨⟨t + 1, htl, by go_num, hb3, by rw [unhide HTK]; exact hown⟩, by simp [intOf]; omega⟩
              · have htt : t = l.length := by omega
                subst htt
                have hb0 : ¬ (l.length : Int) < (l.length : Int) := by omega
                rw [List.take_length] at hrw
                have HRW := hide hrw
                clear hrw
                go_wp2_with (at_builtin; refine wpList_append_own_at _ rfl _ _ 58 rfl w.heap.size 3 i0 (.int .i64 0) 1 8 Tryz.underlying58 hin hz0 hz1 hz2 rfl (by decide) (.slice b1 l.length p1) l.length (l.map kvI) rfl (by exact World.ownsRow.alloc (by exact (unhide HRW)) _) ⟨wr.heap.size, 0, none⟩ 1 1 [kvI r] rfl rfl (newsI_at _ _ _ _ rfl) (oneI _) (by unfold maxLen; omega) (by omega) (by have := hbt.size; simp; omega) ?_; intro v' w3 hown hgrow hnil hloc; obtain ⟨b2, p2, hv2⟩ := own_any hown; subst hv2)
                have hb3 : Below w.heap.size w w3 := (hbt.alloc hbt.size _).grown hgrow (by have := hbt.size; simp; omega) (fun q e => ((unhide HRW).lt q e).1)
                have hrn : RowN w3 (.slice b2 (l.length + 1) p2) (l ++ [r]) := by
                  unfold RowN
                  rw [List.length_append, List.map_append]
                  exact row_base hown (Nat.zero_le _)
                refine (unhide hih w3 _ hrn).mono ?_
                rintro e w4 ⟨rfl, hb4'⟩
                have hb5' : Below w.heap.size w w4 := hb3.trans (hb4'.mono hb3.size)
                go_wp2_with fail
                refine ⟨⟨r + 1, hrm, by go_num, ?_, hb5'⟩, by simp [intOf]; omega⟩
                rw [unhide HSM]
                go_num
          · have hrr : r = m + 1 := by omega
            have hbr : ¬ (r : Int) ≤ (m : Int) := by omega
            have HRR := hide hrr
            clear hrr
            generalize hsm : ((List.range r).map fun c => wy k y (l ++ [c])).sum = sm
            have HSM := hide hsm
            clear hsm
            go_wp2_with fail
            go_ret
            refine ⟨?_, hbw⟩
            rw [unhide HWY, ← unhide HSM, unhide HRR]
            rfl

end Go.Proofs.YthcppbmkacbbiaaGreat

namespace Go.Proofs.YthcppbmkacbbiaaGreat
open Go.RowKit
open Nx

theorem mod_pos (c : Int) (n : Nat) (hn : 0 < n) : ∃ k : Nat, k < n ∧ c % (n : Int) = k :=
  ⟨(c % n).toNat, by have := Int.emod_lt_of_pos c (show (0 : Int) < n by omega); have := Int.emod_nonneg c (show (n : Int) ≠ 0 by omega); omega, by have := Int.emod_nonneg c (show (n : Int) ≠ 0 by omega); omega⟩

set_option maxRecDepth 100000 in
set_option maxHeartbeats 1000000 in
theorem pick_any (w : World) (c : Int) (n : Nat) (hn : 0 < n) (hn2 : n ≤ 100) (h1 : -9223372036854775808 ≤ c) (h2 : c ≤ 9223372036854775807) :
    Calls Tryz.prog 19 #[.int .i64 c, .int .i64 n] w fun e w' => (∃ k : Nat, k < n ∧ e = .returned (.int .i64 k)) ∧ w' = w := by
  by_cases hc : c < 0
  · obtain ⟨k, hk, e⟩ := mod_pos (-(c + 1)) n hn
    have e2 : -(c + 1).tmod (n : Int) = k := by rw [← Int.neg_tmod, Int.tmod_eq_emod_of_nonneg (by omega)]; exact e
    have E2 := hide e2
    clear e e2
    go_enter Tryz.func19, Tryz.ntmps19
    go_wp2_with fail
    go_ret
    exact ⟨⟨k, hk, by rw [← unhide E2]; rfl⟩, rfl⟩
  · obtain ⟨k, hk, e⟩ := mod_pos c n hn
    have E2 := hide e
    clear e
    go_enter Tryz.func19, Tryz.ntmps19
    go_wp2_with fail
    go_ret
    exact ⟨⟨k, hk, by rw [← unhide E2]; rfl⟩, rfl⟩

/-- The i-th name. -/
def tx (i : Nat) : ByteArray := (⟨#[97, 98, 99, 100, 101]⟩ : ByteArray).extract i (i + 1)
def nmA : Nat → ByteArray
  | 0 => ⟨#[97, 61, 97]⟩
  | i + 1 => ⟨#[40]⟩ ++ nmA i ++ ⟨#[38]⟩ ++ tx (i + 1) ++ ⟨#[61]⟩ ++ tx (i + 1) ++ ⟨#[41]⟩
def nmB (x : Nat) : Nat → ByteArray
  | 0 => nmA (x - 1)
  | i + 1 => ⟨#[40]⟩ ++ nmB x i ++ ⟨#[38, 40, 80, 40]⟩ ++ tx i ++ ⟨#[41, 124, 33, 80, 40]⟩ ++ tx i ++ ⟨#[41, 41, 41]⟩

theorem named_counts : ∀ x : Fin 5, ∀ y : Fin 5, y.val ≤ x.val + 1 → ctell (nmB (x.val + 1) y.val) = (((wy (x.val + 1) y.val [] : Nat) : Int), 0) := by decide +kernel

theorem tx_size (i : Nat) : (tx i).size ≤ 1 := by
  unfold tx
  rw [ByteArray.size_extract]
  omega

theorem size_ofN (a : Array UInt8) : (⟨a⟩ : ByteArray).size = a.size := rfl

theorem nmA_size : ∀ i, (nmA i).size ≤ 3 + 6 * i
  | 0 => by decide
  | i + 1 => by
    have h1 := nmA_size i
    have h2 := tx_size (i + 1)
    unfold nmA
    simp only [ByteArray.size_append, size_ofN]
    simp
    omega

theorem nmB_size (x : Nat) : ∀ i, (nmB x i).size ≤ 3 + 6 * x + 15 * i
  | 0 => by
    have := nmA_size (x - 1)
    unfold nmB
    omega
  | i + 1 => by
    have h1 := nmB_size x i
    have h2 := tx_size i
    unfold nmB
    simp only [ByteArray.size_append, size_ofN]
    simp
    omega

end Go.Proofs.YthcppbmkacbbiaaGreat
