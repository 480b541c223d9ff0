import Derived.Test.YthcppbmkacbbiaaGreatRdgM
import Derived.Test.YthcppbmkacbbiaaGreatEqaM
import Derived.Test.YthcppbmkacbbiaaGreatCand
import Derived.Test.YthcppbmkacbbiaaGreatRefR
namespace Go.Proofs.YthcppbmkacbbiaaGreat.Rdg

/-- A piece at place i is put together of what comes ahead of it. -/
def okPc (nt nc i : Nat) (q : Key) : Prop :=
  (q.1 = 33 ∧ q.2.1 < i ∧ q.2.2 = 0) ∨ (isJoint q.1 = true ∧ q.2.1 < i ∧ q.2.2 < i) ∨ ((q.1 = 80 ∨ q.1 = 81) ∧ q.2.1 < nc ∧ q.2.2 = 0) ∨ (q.1 = 61 ∧ q.2.1 < nt ∧ q.2.2 < nt)

theorem okPc.more {nt nc i nt' nc' i' : Nat} {q : Key} (h : okPc nt nc i q) (h1 : nt ≤ nt') (h2 : nc ≤ nc') (h3 : i ≤ i') : okPc nt' nc' i' q := by
  unfold okPc at *
  rcases h with ⟨a, b, c⟩ | ⟨a, b, c⟩ | ⟨a, b, c⟩ | ⟨a, b, c⟩
  · exact Or.inl ⟨a, by omega, c⟩
  · exact Or.inr (Or.inl ⟨a, by omega, by omega⟩)
  · exact Or.inr (Or.inr (Or.inl ⟨a, by omega, c⟩))
  · exact Or.inr (Or.inr (Or.inr ⟨a, by omega, by omega⟩))

theorem okPc.bd {nt nc i : Nat} {q : Key} (h : okPc nt nc i q) (h1 : nt ≤ 1000) (h2 : nc ≤ 1000) (h3 : i ≤ 1000) : (0 ≤ q.1 ∧ q.1 ≤ 255) ∧ q.2.1 ≤ 1000 ∧ q.2.2 ≤ 1000 := by
  unfold okPc at h
  rcases h with ⟨a, b, c⟩ | ⟨a, b, c⟩ | ⟨a, b, c⟩ | ⟨a, b, c⟩
  · omega
  · simp [isJoint] at a; omega
  · omega
  · omega

structure InvP (nt nc : Nat) (ps : List Key) : Prop where
  nd : ps.Nodup
  ok : ∀ i (h : i < ps.length), okPc nt nc i ps[i]

theorem InvP.more {nt nc nt' nc' : Nat} {ps : List Key} (h : InvP nt nc ps) (h1 : nt ≤ nt') (h2 : nc ≤ nc') : InvP nt' nc' ps := ⟨h.nd, fun i hi => (h.ok i hi).more h1 h2 (Nat.le_refl _)⟩

theorem InvP.put {nt nc : Nat} {ps : List Key} (h : InvP nt nc ps) {q : Key} (hq : okPc nt nc ps.length q) : InvP nt nc (put ps q) := by
  refine ⟨put_nodup q h.nd, ?_⟩
  unfold Rdg.put
  split
  · exact h.ok
  · intro i hi
    by_cases hlt : i < ps.length
    · rw [List.getElem_append_left hlt]; exact h.ok i hlt
    · have e : i = ps.length := by simp at hi; omega
      subst e
      rw [List.getElem_append_right (Nat.le_refl _)]
      simpa using hq

def fineP (ts : List Key) (cs : List (Int × Nat)) (ps : List Key) : RP → Prop
  | .error _ => True
  | .ok (_, ts1, cs1, ps1, m) => InvP ts1.length cs1.length ps1 ∧ m < ps1.length ∧ ts.length ≤ ts1.length ∧ cs.length ≤ cs1.length ∧ ps <+: ps1
def fineQ (ts : List Key) (cs : List (Int × Nat)) (ps : List Key) : RQ → Prop
  | .error _ => True
  | .ok (_, ts1, cs1, ps1, q) => InvP ts1.length cs1.length ps1 ∧ okPc ts1.length cs1.length ps1.length q ∧ ts.length ≤ ts1.length ∧ cs.length ≤ cs1.length ∧ ps <+: ps1

section
variable {pk : Nat → Int} {N : Nat}

theorem fine_fin {ts : List Key} {cs : List (Int × Nat)} {ps : List Key} {r : RQ} (h : fineQ ts cs ps r) : fineP ts cs ps (finQ r) := by
  rcases r with e | ⟨a1, ts1, cs1, ps1, q⟩
  · trivial
  · obtain ⟨h1, h2, h3, h4, h5⟩ := h
    exact ⟨h1.put h2, idx_put _ _, h3, h4, h5.trans (put_prefix q)⟩

theorem fine_rdP (hpk : ∀ a, pk a ≠ 0 → a < N) : ∀ (n a d : Nat) (ts : List Key) (cs : List (Int × Nat)) (ps : List Key), a ≤ N → InvP ts.length cs.length ps → fineP ts cs ps (rdP pk n a d ts cs ps) := by
  intro n
  induction n with
  | zero => intro a d ts cs ps _ _; trivial
  | succ n ih =>
    intro a d ts cs ps ha hi
    unfold rdP
    split
    · rename_i e
      have hl := hpk a (by omega)
      have h := ih (a + 1) d ts cs ps (by omega) hi
      refine fine_fin ?_
      rcases hR : rdP pk n (a + 1) d ts cs ps with e | ⟨a1, ts1, cs1, ps1, m⟩
      · trivial
      · rw [hR] at h
        obtain ⟨h1, h2, h3, h4, h5⟩ := h
        exact ⟨h1, Or.inl ⟨rfl, h2, rfl⟩, h3, h4, h5⟩
    · split
      · rename_i e
        have hl := hpk a (by omega)
        refine fine_fin ?_
        unfold rdJ
        split
        · trivial
        · have h := ih (a + 1) (d + 1) ts cs ps (by omega) hi
          have hF := okF_rdF hpk n (a + 1) (d + 1) ts cs (by omega)
          rw [← less_rdP pk n (a + 1) (d + 1) ts cs ps] at hF
          rcases hR : rdP pk n (a + 1) (d + 1) ts cs ps with e | ⟨a1, ts1, cs1, ps1, m1⟩
          · trivial
          · rw [hR] at h hF
            obtain ⟨h1, h2, h3, h4, h5⟩ := h
            obtain ⟨g1, g2, _⟩ := hF
            show fineQ ts cs ps (if isJoint (pk a1) = true then _ else _)
            split
            · rename_i hj
              have hl1 := hpk a1 (fun e => by rw [e] at hj; simp [isJoint] at hj)
              have h' := ih (a1 + 1) (d + 1) ts1 cs1 ps1 (by omega) h1
              rcases hR2 : rdP pk n (a1 + 1) (d + 1) ts1 cs1 ps1 with e | ⟨a2, ts2, cs2, ps2, m2⟩
              · trivial
              · rw [hR2] at h'
                obtain ⟨k1, k2, k3, k4, k5⟩ := h'
                show fineQ ts cs ps (if pk a2 = 41 then _ else _)
                split
                · have := k5.length_le
                  exact ⟨k1, Or.inr (Or.inl ⟨hj, by show m1 < ps2.length; omega, k2⟩), by omega, by omega, h5.trans k5⟩
                · trivial
            · trivial
      · split
        · rename_i e8
          have hl := hpk a (by omega)
          refine fine_fin ?_
          have h' := okT1_arg1 hpk (rec := rdT pk (n + 1)) (a := a + 1) (d := d) (ts := ts) (by omega) (fun h40 => okT_rdT hpk _ _ _ _ (by have := hpk (a + 1) (by omega); omega))
          unfold rdC
          rcases hR : arg1 pk (rdT pk (n + 1)) (a + 1) d ts with e | ⟨a1, ts1, m⟩
          · trivial
          · rw [hR] at h'
            obtain ⟨p1, p2, p3, p4, p5⟩ := h'
            have q := put_length cs (pk a, m)
            refine ⟨hi.more p3 q.1, Or.inr (Or.inr (Or.inl ⟨e8, idx_put _ _, rfl⟩)), p3, q.1, List.prefix_refl _⟩
        · refine fine_fin ?_
          have h := okT_rdT hpk (n + 1) a d ts ha
          unfold rdE
          rcases hR : rdT pk (n + 1) a d ts with e | ⟨a1, ts1, m1⟩
          · trivial
          · rw [hR] at h
            obtain ⟨p1, p2, p3, p4, p5⟩ := h
            show fineQ ts cs ps (if pk a1 = 61 then _ else _)
            split
            · rename_i h61
              have hl1 := hpk a1 (by omega)
              have h2 := okT_rdT hpk (n + 1) (a1 + 1) d ts1 (by omega)
              rcases hR2 : rdT pk (n + 1) (a1 + 1) d ts1 with e | ⟨a2, ts2, m2⟩
              · trivial
              · rw [hR2] at h2
                obtain ⟨q1, q2, q3, q4, q5⟩ := h2
                exact ⟨hi.more (by omega) (Nat.le_refl _), Or.inr (Or.inr (Or.inr ⟨rfl, by show m1 < ts2.length; omega, q5⟩)), by omega, Nat.le_refl _, List.prefix_refl _⟩
            · trivial

/-- A formula that has been read is the last piece, or nothing new has come. -/
def lastP (ps : List Key) : RP → Prop
  | .error _ => True
  | .ok (_, _, _, ps1, m) => (m < ps.length ∧ ps1 = ps) ∨ m + 1 = ps1.length
def lastQ (ps : List Key) : RQ → Prop
  | .error _ => True
  | .ok (_, _, _, ps1, q) => q ∈ ps1 → ps1 = ps

theorem last_fin {ps : List Key} {r : RQ} (h : lastQ ps r) : lastP ps (finQ r) := by
  rcases r with e | ⟨a1, ts1, cs1, ps1, q⟩
  · trivial
  · by_cases hq : q ∈ ps1
    · have e := h hq
      subst e
      refine Or.inl ⟨List.idxOf_lt_length_of_mem hq, ?_⟩
      unfold Rdg.put
      rw [if_pos (by simpa using hq)]
    · refine Or.inr ?_
      unfold Rdg.put
      rw [if_neg (by simpa using hq), List.idxOf_eq_length hq]
      simp

theorem inv_idx {nt nc : Nat} {ps : List Key} (h : InvP nt nc ps) {q : Key} (hq : q ∈ ps) : ∃ j, j < ps.length ∧ okPc nt nc j q := by
  obtain ⟨j, hj, e⟩ := List.getElem_of_mem hq
  exact ⟨j, hj, by rw [← e]; exact h.ok j hj⟩

theorem last_rdP (hpk : ∀ a, pk a ≠ 0 → a < N) : ∀ (n a d : Nat) (ts : List Key) (cs : List (Int × Nat)) (ps : List Key), a ≤ N → InvP ts.length cs.length ps → lastP ps (rdP pk n a d ts cs ps) := by
  intro n
  induction n with
  | zero => intro a d ts cs ps _ _; trivial
  | succ n ih =>
    intro a d ts cs ps ha hi
    unfold rdP
    split
    · rename_i e
      have hl := hpk a (by omega)
      have h := ih (a + 1) d ts cs ps (by omega) hi
      have hf := fine_rdP hpk n (a + 1) d ts cs ps (by omega) hi
      refine last_fin ?_
      rcases hR : rdP pk n (a + 1) d ts cs ps with e | ⟨a1, ts1, cs1, ps1, m⟩
      · trivial
      · rw [hR] at h hf
        intro hq
        obtain ⟨j, hj, ho⟩ := inv_idx hf.1 hq
        rcases h with ⟨_, h2⟩ | h2
        · exact h2
        · rcases ho with ⟨_, b, _⟩ | ⟨a, _, _⟩ | ⟨a, _, _⟩ | ⟨a, _, _⟩
          · simp only at b; omega
          · simp [isJoint] at a
          · simp at a
          · simp at a
    · split
      · rename_i e
        have hl := hpk a (by omega)
        refine last_fin ?_
        unfold rdJ
        split
        · trivial
        · have h := ih (a + 1) (d + 1) ts cs ps (by omega) hi
          have hf := fine_rdP hpk n (a + 1) (d + 1) ts cs ps (by omega) hi
          have hF := okF_rdF hpk n (a + 1) (d + 1) ts cs (by omega)
          rw [← less_rdP pk n (a + 1) (d + 1) ts cs ps] at hF
          rcases hR : rdP pk n (a + 1) (d + 1) ts cs ps with e | ⟨a1, ts1, cs1, ps1, m1⟩
          · trivial
          · rw [hR] at h hF hf
            obtain ⟨g1, g2, _⟩ := hF
            show lastQ ps (if isJoint (pk a1) = true then _ else _)
            split
            · rename_i hj
              have hl1 := hpk a1 (fun e => by rw [e] at hj; simp [isJoint] at hj)
              have h' := ih (a1 + 1) (d + 1) ts1 cs1 ps1 (by omega) hf.1
              have hf' := fine_rdP hpk n (a1 + 1) (d + 1) ts1 cs1 ps1 (by omega) hf.1
              rcases hR2 : rdP pk n (a1 + 1) (d + 1) ts1 cs1 ps1 with e | ⟨a2, ts2, cs2, ps2, m2⟩
              · trivial
              · rw [hR2] at h' hf'
                show lastQ ps (if pk a2 = 41 then _ else _)
                split
                · intro hq
                  obtain ⟨j, hjl, ho⟩ := inv_idx hf'.1 hq
                  have hb : m1 < j ∧ m2 < j := by
                    rcases ho with ⟨a, _, _⟩ | ⟨_, b, c⟩ | ⟨a, _, _⟩ | ⟨a, _, _⟩
                    · simp only at a; rw [a] at hj; simp [isJoint] at hj
                    · exact ⟨b, c⟩
                    · simp only at a; rcases a with a | a <;> (rw [a] at hj; simp [isJoint] at hj)
                    · simp only at a; rw [a] at hj; simp [isJoint] at hj
                  rcases h' with ⟨_, e2⟩ | e2
                  · subst e2
                    rcases h with ⟨_, e1⟩ | e1
                    · exact e1
                    · omega
                  · omega
                · trivial
            · trivial
      · split
        · refine last_fin ?_
          unfold rdC
          rcases arg1 pk (rdT pk (n + 1)) (a + 1) d ts with e | ⟨a1, ts1, m⟩
          · trivial
          · intro _; rfl
        · refine last_fin ?_
          unfold rdE
          rcases rdT pk (n + 1) a d ts with e | ⟨a1, ts1, m1⟩
          · trivial
          · show lastQ ps (if pk a1 = 61 then _ else _)
            split
            · rcases rdT pk (n + 1) (a1 + 1) d ts1 with e | ⟨a2, ts2, m2⟩
              · trivial
              · intro _; rfl
            · trivial
end

end Go.Proofs.YthcppbmkacbbiaaGreat.Rdg

namespace Go.Proofs.YthcppbmkacbbiaaGreat
open Go.RowKit Go.Maps Go.WideMaps
open Rdg (Key put St)

/-- What Check tells. -/
def chk (s : ByteArray) : Int × Nat := if 100 < s.size then (1, 0) else Rdg.check (pk s) s.size

def ctx (ts : List Key) (cs : List (Int × Nat)) : List (List UInt8) := cs.map (Rdg.rendC (Rdg.texts ts))

theorem pk_pkl (s : ByteArray) : pk s = Rdg.pkl s.data.toList := by
  funext a
  unfold pk Rdg.pkl
  by_cases h : a < s.size
  · have h' : a < s.data.toList.length := by simpa using h
    rw [dif_pos h, List.getElem?_eq_getElem h']
    simp [ByteArray.getElem_eq_getElem_data]
  · have h' : ¬ a < s.data.toList.length := by simpa using h
    rw [dif_neg h, List.getElem?_eq_none (by omega)]

theorem rall_rel (s : ByteArray) : Rdg.RelF 0 (Rdg.rdF (pk s) (s.size + 1) 0 0 [] []) (rall s) := by
  have h := Rdg.same_formula (l := s.data.toList) (s.size + 1) 0 0 [] [] (Nat.zero_le _) (by simp) Rdg.inv_nil (fun c hc => by cases hc)
  unfold rall
  rw [pk_pkl]
  exact h

theorem rchk_chk (s : ByteArray) : rchk s = chk s := by
  unfold rchk chk
  by_cases hs : 100 < s.size
  · rw [if_pos hs, if_pos hs]
  · rw [if_neg hs, if_neg hs]
    have h := rall_rel s
    unfold Rdg.check
    cases hR : Rdg.rdF (pk s) (s.size + 1) 0 0 [] [] with
    | error Ep =>
      obtain ⟨E, p⟩ := Ep
      rw [hR] at h
      obtain ⟨h1, h2, h3⟩ := h
      rw [if_pos (by rw [h1]; exact h3), h1, h2]
    | ok q =>
      obtain ⟨a1, ts, cs⟩ := q
      rw [hR] at h
      obtain ⟨h1, h2, h3⟩ := h
      rw [h1]
      simp [Rdg.texts_length]

theorem rall_gd (s : ByteArray) : Rdg.Gd s.data.toList (rall s) := by
  unfold rall
  exact Rdg.gd_formula _ _ ⟨fun t ht => (by cases ht), fun t ht => (by cases ht), List.Pairwise.nil⟩

/-- What a right formula's reading comes to. -/
theorem right_parts (s : ByteArray) (hs : s.size ≤ 100) (h0 : (chk s).1 = 0) : ∃ ts cs ps, Rdg.rdP (pk s) (s.size + 1) 0 0 [] [] [] = .ok (s.size, ts, cs, ps, ps.length - 1) ∧ ts.length ≤ 7 ∧ cs.length ≤ 4 ∧ Rdg.Inv ts ∧ Rdg.InvC ts cs ∧
    rall s = ⟨s.size, 0, 0, Rdg.texts ts, ctx ts cs⟩ ∧ (∀ t ∈ Rdg.texts ts, t.length ≤ 100) ∧ (∀ t ∈ ctx ts cs, t.length ≤ 100) ∧ cs.Nodup ∧ Rdg.InvP ts.length cs.length ps ∧ 0 < ps.length ∧ ps.length ≤ 100 := by
  have h := rall_rel s
  have hg := rall_gd s
  have hok := Rdg.okF_rdF (pk := pk s) (N := s.size) (fun a h => pk_lt h) (s.size + 1) 0 0 [] [] (by omega)
  have hf := Rdg.fine_rdP (pk := pk s) (N := s.size) (fun a h => pk_lt h) (s.size + 1) 0 0 [] [] [] (by omega) ⟨List.nodup_nil, fun i hi => absurd hi (by simp)⟩
  have hla := Rdg.last_rdP (pk := pk s) (N := s.size) (fun a h => pk_lt h) (s.size + 1) 0 0 [] [] [] (by omega) ⟨List.nodup_nil, fun i hi => absurd hi (by simp)⟩
  have hop := Rdg.okP_rdP (pk := pk s) (N := s.size) (fun a h => pk_lt h) (pk_bd s) (s.size + 1) 0 0 [] [] [] (by omega) (by simp) (by simp) (by simp)
  have hls := Rdg.less_rdP (pk s) (s.size + 1) 0 0 [] [] []
  unfold chk at h0
  rw [if_neg (by omega)] at h0
  unfold Rdg.check at h0
  cases hR : Rdg.rdF (pk s) (s.size + 1) 0 0 [] [] with
  | error Ep =>
    obtain ⟨E, p⟩ := Ep
    rw [hR] at h h0
    obtain ⟨_, _, h3⟩ := h
    exact absurd h0 h3
  | ok q =>
    obtain ⟨a1, ts, cs⟩ := q
    rw [hR] at h h0 hok
    obtain ⟨h1, h2, h3⟩ := h
    obtain ⟨_, p2, _⟩ := hok
    simp only at h0
    have ha : a1 = s.size := by
      by_cases ha : a1 < s.size
      · rw [if_pos ha] at h0; simp at h0
      · omega
    subst ha
    have hmany : ¬ (7 < ts.length ∨ 4 < cs.length) := by
      intro hm
      rw [if_neg (by omega), if_pos hm] at h0; simp at h0
    rw [h1] at hg
    obtain ⟨g1, g2, g3⟩ := hg
    have hsz : s.data.toList.length = s.size := by simp
    rw [hR] at hls
    rcases hP : Rdg.rdP (pk s) (s.size + 1) 0 0 [] [] [] with e | ⟨b1, ts', cs', ps, m⟩
    · rw [hP] at hls; cases hls
    · rw [hP] at hls hf hla hop
      cases hls
      have hm : m = ps.length - 1 := by
        rcases hla with ⟨h, _⟩ | h
        · simp at h
        · omega
      obtain ⟨_, o2, _, _, _, o6, _⟩ := hop
      simp at o6
      refine ⟨ts, cs, ps, by rw [hm], by omega, by omega, h2, h3, h1, fun t ht => by have := g1 t ht; omega, fun t ht => by have := g2 t ht; omega, ?_, hf.1, ?_, by omega⟩
      · exact (List.pairwise_map.1 g3).imp (fun h e => h (congrArg _ e))
      · have := hf.2.1
        omega

theorem keys_ok {ts : List Key} (h : Rdg.Inv ts) (hl : ts.length ≤ 7) : ∀ x ∈ ts, ∃ l, keyOf Tryz.prog 87 (kvT x) = some l := by
  intro x hx
  obtain ⟨i, hi, rfl⟩ := List.getElem_of_mem hx
  rcases h.key i hi with ⟨h1, h2, h3, h4⟩ | ⟨h1, h2, h3⟩ | ⟨h1, h2, h3⟩
  · exact keyT _ (by omega) (by omega) (by omega)
  · exact keyT _ (by omega) (by omega) (by omega)
  · exact keyT _ (by omega) (by omega) (by omega)

theorem claims_ok {ts : List Key} {cs : List (Int × Nat)} (h : Rdg.InvC ts cs) (hl : ts.length ≤ 7) : ∀ x ∈ cs, ∃ l, keyOf Tryz.prog 90 (kvC x) = some l := by
  intro x hx
  obtain ⟨h1, h2⟩ := h x hx
  exact keyC _ (by omega) (by omega)

theorem pieces_ok {nt nc : Nat} {ps : List Key} (h : Rdg.InvP nt nc ps) (h1 : nt ≤ 1000) (h2 : nc ≤ 1000) (h3 : ps.length ≤ 1000) : ∀ x ∈ ps, ∃ l, keyOf Tryz.prog 93 (kvT x) = some l := by
  intro x hx
  obtain ⟨i, hi, rfl⟩ := List.getElem_of_mem hx
  obtain ⟨b1, b2, b3⟩ := (h.ok i hi).bd h1 h2 (by omega)
  exact keyP _ b1 b2 b3

end Go.Proofs.YthcppbmkacbbiaaGreat
