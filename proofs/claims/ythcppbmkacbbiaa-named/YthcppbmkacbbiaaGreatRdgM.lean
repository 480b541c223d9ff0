namespace Go.Proofs.YthcppbmkacbbiaaGreat.Rdg

/-- A term's key: its letter, the numbers of the terms within it. -/
abbrev Key : Type := Int × Nat × Nat

/-- What a reading of a term comes to: an error and its place, or the place behind, the terms so far, the term's number. -/
abbrev RT : Type := Except (Int × Nat) (Nat × List Key × Nat)
abbrev RT2 : Type := Except (Int × Nat) (Nat × List Key × Nat × Nat)
abbrev RF : Type := Except (Int × Nat) (Nat × List Key × List (Int × Nat))

def put {α : Type} [BEq α] (l : List α) (k : α) : List α := if l.contains k then l else l ++ [k]

def isName (c : Int) : Bool := decide (97 ≤ c) && decide (c ≤ 101)
def isJoint (c : Int) : Bool := c == 38 || c == 124 || c == 62 || c == 45

def arg1 (pk : Nat → Int) (rec : Nat → Nat → List Key → RT) (a d : Nat) (ts : List Key) : RT :=
  if pk a = 40 then
    if d = 8 then .error (3, a) else
    match rec (a + 1) (d + 1) ts with
    | .error e => .error e
    | .ok (a1, ts1, n1) => if pk a1 = 41 then .ok (a1 + 1, ts1, n1) else .error (2, a1)
  else .error (2, a)

def arg2 (pk : Nat → Int) (rec : Nat → Nat → List Key → RT) (a d : Nat) (ts : List Key) : RT2 :=
  if pk a = 40 then
    if d = 8 then .error (3, a) else
    match rec (a + 1) (d + 1) ts with
    | .error e => .error e
    | .ok (a1, ts1, n1) =>
      if pk a1 = 44 then
        match rec (a1 + 1) (d + 1) ts1 with
        | .error e => .error e
        | .ok (a2, ts2, n2) => if pk a2 = 41 then .ok (a2 + 1, ts2, n1, n2) else .error (2, a2)
      else .error (2, a1)
  else .error (2, a)

def fin1 (c : Int) : RT → RT
  | .error e => .error e
  | .ok (a1, ts1, n1) => .ok (a1, put ts1 (c, n1, 0), ts1.idxOf (c, n1, 0))

def fin2 (c : Int) : RT2 → RT
  | .error e => .error e
  | .ok (a1, ts1, n1, n2) => .ok (a1, put ts1 (c, n1, n2), ts1.idxOf (c, n1, n2))

def rdT (pk : Nat → Int) : Nat → Nat → Nat → List Key → RT
  | 0, a, _, _ => .error (2, a)
  | n + 1, a, d, ts =>
    if isName (pk a) = true then .ok (a + 1, put ts (pk a, 0, 0), ts.idxOf (pk a, 0, 0))
    else if pk a = 102 then fin1 102 (arg1 pk (rdT pk n) (a + 1) d ts)
    else if pk a = 103 then fin2 103 (arg2 pk (rdT pk n) (a + 1) d ts)
    else .error (2, a)

def finC (c : Int) (cs : List (Int × Nat)) : RT → RF
  | .error e => .error e
  | .ok (a1, ts1, n1) => .ok (a1, ts1, put cs (c, n1))

def rdEq (pk : Nat → Int) (n a d : Nat) (ts : List Key) (cs : List (Int × Nat)) : RF :=
  match rdT pk n a d ts with
  | .error e => .error e
  | .ok (a1, ts1, _) =>
    if pk a1 = 61 then
      match rdT pk n (a1 + 1) d ts1 with
      | .error e => .error e
      | .ok (a2, ts2, _) => .ok (a2, ts2, cs)
    else .error (2, a1)

def rdF (pk : Nat → Int) : Nat → Nat → Nat → List Key → List (Int × Nat) → RF
  | 0, a, _, _, _ => .error (2, a)
  | n + 1, a, d, ts, cs =>
    if pk a = 33 then rdF pk n (a + 1) d ts cs
    else if pk a = 40 then
      if d = 8 then .error (3, a) else
      match rdF pk n (a + 1) (d + 1) ts cs with
      | .error e => .error e
      | .ok (a1, ts1, cs1) =>
        if isJoint (pk a1) = true then
          match rdF pk n (a1 + 1) (d + 1) ts1 cs1 with
          | .error e => .error e
          | .ok (a2, ts2, cs2) => if pk a2 = 41 then .ok (a2 + 1, ts2, cs2) else .error (2, a2)
        else .error (2, a1)
    else if pk a = 80 ∨ pk a = 81 then finC (pk a) cs (arg1 pk (rdT pk (n + 1)) (a + 1) d ts)
    else rdEq pk (n + 1) a d ts cs

/-- The whole: errors by their numbers, the place. -/
def check (pk : Nat → Int) (N : Nat) : Int × Nat :=
  match rdF pk (N + 1) 0 0 [] [] with
  | .error e => e
  | .ok (a1, ts, cs) => if a1 < N then (2, a1) else if 7 < ts.length ∨ 4 < cs.length then (4, 0) else (0, 0)

theorem put_length {α : Type} [BEq α] (l : List α) (k : α) : l.length ≤ (put l k).length ∧ (put l k).length ≤ l.length + 1 := by
  unfold put; split <;> simp

theorem idx_put {α : Type} [BEq α] [LawfulBEq α] (l : List α) (k : α) : l.idxOf k < (put l k).length := by
  unfold put
  by_cases h : k ∈ l
  · rw [if_pos (by simpa using h)]; exact List.idxOf_lt_length_of_mem h
  · rw [if_neg (by simpa using h)]; simp [List.idxOf_eq_length h]

/-- What holds of a reading of a term that went well. -/
def okT (N a : Nat) (ts : List Key) : RT → Prop
  | .error e => e.2 ≤ N ∧ (e.1 = 2 ∨ e.1 = 3)
  | .ok (a1, ts1, m) => a < a1 ∧ a1 ≤ N ∧ ts.length ≤ ts1.length ∧ ts1.length + a ≤ ts.length + a1 ∧ m < ts1.length
def okT2 (N a : Nat) (ts : List Key) : RT2 → Prop
  | .error e => e.2 ≤ N ∧ (e.1 = 2 ∨ e.1 = 3)
  | .ok (a1, ts1, m, m2) => a < a1 ∧ a1 ≤ N ∧ ts.length ≤ ts1.length ∧ ts1.length + a + 1 ≤ ts.length + a1 ∧ m < ts1.length ∧ m2 < ts1.length
def okT1 (N a : Nat) (ts : List Key) : RT → Prop
  | .error e => e.2 ≤ N ∧ (e.1 = 2 ∨ e.1 = 3)
  | .ok (a1, ts1, m) => a < a1 ∧ a1 ≤ N ∧ ts.length ≤ ts1.length ∧ ts1.length + a + 1 ≤ ts.length + a1 ∧ m < ts1.length
def okF (N a : Nat) (ts : List Key) (cs : List (Int × Nat)) : RF → Prop
  | .error e => e.2 ≤ N ∧ (e.1 = 2 ∨ e.1 = 3)
  | .ok (a1, ts1, cs1) => a < a1 ∧ a1 ≤ N ∧ ts.length ≤ ts1.length ∧ ts1.length + a ≤ ts.length + a1 ∧ cs1.length + a ≤ cs.length + a1

section
variable {pk : Nat → Int} {N : Nat}

theorem okT1_arg1 (hpk : ∀ a, pk a ≠ 0 → a < N) {rec : Nat → Nat → List Key → RT} {a d : Nat} {ts : List Key} (ha : a ≤ N) (h : pk a = 40 → okT N (a + 1) ts (rec (a + 1) (d + 1) ts)) : okT1 N a ts (arg1 pk rec a d ts) := by
  unfold arg1
  split
  · rename_i h40
    have hl := hpk a (by omega)
    have h' := h h40
    split
    · exact ⟨ha, Or.inr rfl⟩
    · split
      · rename_i e he; rw [he] at h'; exact h'
      · rename_i a1 ts1 n1 he
        rw [he] at h'
        obtain ⟨p1, p2, p3, p4, p5⟩ := h'
        split
        · rename_i h41
          have := hpk a1 (by omega)
          refine ⟨?_, ?_, ?_, ?_, ?_⟩ <;> omega
        · exact ⟨p2, Or.inl rfl⟩
  · exact ⟨ha, Or.inl rfl⟩

theorem okT2_arg2 (hpk : ∀ a, pk a ≠ 0 → a < N) {rec : Nat → Nat → List Key → RT} {a d : Nat} {ts : List Key} (ha : a ≤ N) (h : ∀ a' ts', pk a = 40 → a < a' → a' ≤ N → okT N a' ts' (rec a' (d + 1) ts')) : okT2 N a ts (arg2 pk rec a d ts) := by
  unfold arg2
  split
  · rename_i h40
    have hl := hpk a (by omega)
    have h' := h (a + 1) ts h40 (by omega) (by omega)
    split
    · exact ⟨ha, Or.inr rfl⟩
    · split
      · rename_i e he; rw [he] at h'; exact h'
      · rename_i a1 ts1 n1 he
        rw [he] at h'
        obtain ⟨p1, p2, p3, p4, p5⟩ := h'
        split
        · rename_i h44
          have hl1 := hpk a1 (by omega)
          have h'' := h (a1 + 1) ts1 h40 (by omega) (by omega)
          split
          · rename_i e he; rw [he] at h''; exact h''
          · rename_i a2 ts2 n2 he2
            rw [he2] at h''
            obtain ⟨q1, q2, q3, q4, q5⟩ := h''
            split
            · have := hpk a2 (by omega)
              refine ⟨?_, ?_, ?_, ?_, ?_, ?_⟩ <;> omega
            · exact ⟨q2, Or.inl rfl⟩
        · exact ⟨p2, Or.inl rfl⟩
  · exact ⟨ha, Or.inl rfl⟩

theorem okT_fin1 {c : Int} {a : Nat} {ts : List Key} {r : RT} (h : okT1 N (a + 1) ts r) : okT N a ts (fin1 c r) := by
  unfold fin1
  split
  · exact h
  · rename_i a1 ts1 n1
    obtain ⟨p1, p2, p3, p4, p5⟩ := h
    have q := put_length ts1 (c, n1, 0)
    refine ⟨?_, ?_, ?_, ?_, idx_put _ _⟩ <;> omega

theorem okT_fin2 {c : Int} {a : Nat} {ts : List Key} {r : RT2} (h : okT2 N (a + 1) ts r) : okT N a ts (fin2 c r) := by
  unfold fin2
  split
  · exact h
  · rename_i a1 ts1 n1 n2
    obtain ⟨p1, p2, p3, p4, p5, p6⟩ := h
    have q := put_length ts1 (c, n1, n2)
    refine ⟨?_, ?_, ?_, ?_, idx_put _ _⟩ <;> omega

theorem okT_rdT (hpk : ∀ a, pk a ≠ 0 → a < N) : ∀ (n a d : Nat) (ts : List Key), a ≤ N → okT N a ts (rdT pk n a d ts) := by
  intro n
  induction n with
  | zero => intro a d ts ha; exact ⟨ha, Or.inl rfl⟩
  | succ n ih =>
    intro a d ts ha
    unfold rdT
    split
    · rename_i h
      have hl : a < N := hpk a (fun e => by rw [e] at h; simp [isName] at h)
      have q := put_length ts (pk a, 0, 0)
      refine ⟨?_, ?_, ?_, ?_, idx_put _ _⟩ <;> omega
    · split
      · rename_i h
        have hl := hpk a (by omega)
        exact okT_fin1 (okT1_arg1 hpk (by omega) (fun h40 => ih _ _ _ (by have := hpk (a + 1) (by omega); omega)))
      · split
        · rename_i h
          have hl := hpk a (by omega)
          exact okT_fin2 (okT2_arg2 hpk (by omega) (fun a' ts' _ _ h' => ih _ _ _ h'))
        · exact ⟨ha, Or.inl rfl⟩

theorem okF_rdEq (hpk : ∀ a, pk a ≠ 0 → a < N) (n a d : Nat) (ts : List Key) (cs : List (Int × Nat)) (ha : a ≤ N) : okF N a ts cs (rdEq pk n a d ts cs) := by
  unfold rdEq
  have h := okT_rdT hpk n a d ts ha
  split
  · rename_i e he; rw [he] at h; exact h
  · rename_i a1 ts1 m he
    rw [he] at h
    obtain ⟨p1, p2, p3, p4, p5⟩ := h
    split
    · rename_i h61
      have hl := hpk a1 (by omega)
      have h2 := okT_rdT hpk n (a1 + 1) d ts1 (by omega)
      split
      · rename_i e he2; rw [he2] at h2; exact h2
      · rename_i a2 ts2 m2 he2
        rw [he2] at h2
        obtain ⟨q1, q2, q3, q4, q5⟩ := h2
        refine ⟨?_, ?_, ?_, ?_, ?_⟩ <;> omega
    · exact ⟨p2, Or.inl rfl⟩

theorem okF_rdF (hpk : ∀ a, pk a ≠ 0 → a < N) : ∀ (n a d : Nat) (ts : List Key) (cs : List (Int × Nat)), a ≤ N → okF N a ts cs (rdF pk n a d ts cs) := by
  intro n
  induction n with
  | zero => intro a d ts cs ha; exact ⟨ha, Or.inl rfl⟩
  | succ n ih =>
    intro a d ts cs ha
    unfold rdF
    split
    · rename_i h
      have hl := hpk a (by omega)
      have h' := ih (a + 1) d ts cs (by omega)
      revert h'
      generalize rdF pk n (a + 1) d ts cs = r
      intro h'
      match r, h' with
      | .error e, h' => exact h'
      | .ok (a1, ts1, cs1), h' =>
        obtain ⟨p1, p2, p3, p4, p5⟩ := h'
        refine ⟨?_, ?_, ?_, ?_, ?_⟩ <;> omega
    · split
      · rename_i h
        have hl := hpk a (by omega)
        split
        · exact ⟨ha, Or.inr rfl⟩
        · have h' := ih (a + 1) (d + 1) ts cs (by omega)
          split
          · rename_i e he; rw [he] at h'; exact h'
          · rename_i a1 ts1 cs1 he
            rw [he] at h'
            obtain ⟨p1, p2, p3, p4, p5⟩ := h'
            split
            · rename_i hj
              have hl1 := hpk a1 (fun e => by rw [e] at hj; simp [isJoint] at hj)
              have h'' := ih (a1 + 1) (d + 1) ts1 cs1 (by omega)
              split
              · rename_i e he2; rw [he2] at h''; exact h''
              · rename_i a2 ts2 cs2 he2
                rw [he2] at h''
                obtain ⟨q1, q2, q3, q4, q5⟩ := h''
                split
                · rename_i h41
                  have hl2 := hpk a2 (by omega)
                  refine ⟨?_, ?_, ?_, ?_, ?_⟩ <;> omega
                · exact ⟨q2, Or.inl rfl⟩
            · exact ⟨p2, Or.inl rfl⟩
      · split
        · rename_i h
          have hl := hpk a (by omega)
          have h' := okT1_arg1 hpk (rec := rdT pk (n + 1)) (a := a + 1) (d := d) (ts := ts) (by omega) (fun h40 => okT_rdT hpk _ _ _ _ (by have := hpk (a + 1) (by omega); omega))
          revert h'
          generalize arg1 pk (rdT pk (n + 1)) (a + 1) d ts = r
          intro h'
          match r, h' with
          | .error e, h' => exact h'
          | .ok (a1, ts1, n1), h' =>
            obtain ⟨p1, p2, p3, p4, p5⟩ := h'
            have q := put_length cs (pk a, n1)
            refine ⟨?_, ?_, ?_, ?_, ?_⟩ <;> omega
        · exact okF_rdEq hpk _ _ _ _ _ ha
end

end Go.Proofs.YthcppbmkacbbiaaGreat.Rdg

namespace Go.Proofs.YthcppbmkacbbiaaGreat.Rdg

/-- What a reading of a piece comes to: the place behind, terms, claims and pieces so far, the piece itself. -/
abbrev RQ : Type := Except (Int × Nat) (Nat × List Key × List (Int × Nat) × List Key × Key)
/-- What a reading of a formula comes to, with the pieces: the last is the formula's number. -/
abbrev RP : Type := Except (Int × Nat) (Nat × List Key × List (Int × Nat) × List Key × Nat)

def finQ : RQ → RP
  | .error e => .error e
  | .ok (a1, ts1, cs1, ps1, q) => .ok (a1, ts1, cs1, put ps1 q, ps1.idxOf q)

def rdN : RP → RQ
  | .error e => .error e
  | .ok (a1, ts1, cs1, ps1, m) => .ok (a1, ts1, cs1, ps1, (33, m, 0))

def rdC (pk : Nat → Int) (n a d : Nat) (ts : List Key) (cs : List (Int × Nat)) (ps : List Key) : RQ :=
  match arg1 pk (rdT pk n) (a + 1) d ts with
  | .error e => .error e
  | .ok (a1, ts1, m) => .ok (a1, ts1, put cs (pk a, m), ps, (pk a, cs.idxOf (pk a, m), 0))

def rdE (pk : Nat → Int) (n a d : Nat) (ts : List Key) (cs : List (Int × Nat)) (ps : List Key) : RQ :=
  match rdT pk n a d ts with
  | .error e => .error e
  | .ok (a1, ts1, m1) =>
    if pk a1 = 61 then
      match rdT pk n (a1 + 1) d ts1 with
      | .error e => .error e
      | .ok (a2, ts2, m2) => .ok (a2, ts2, cs, ps, (61, m1, m2))
    else .error (2, a1)

def rdJ (pk : Nat → Int) (rec : Nat → Nat → List Key → List (Int × Nat) → List Key → RP) (a d : Nat) (ts : List Key) (cs : List (Int × Nat)) (ps : List Key) : RQ :=
  if d = 8 then .error (3, a) else
  match rec (a + 1) (d + 1) ts cs ps with
  | .error e => .error e
  | .ok (a1, ts1, cs1, ps1, m1) =>
    if isJoint (pk a1) = true then
      match rec (a1 + 1) (d + 1) ts1 cs1 ps1 with
      | .error e => .error e
      | .ok (a2, ts2, cs2, ps2, m2) => if pk a2 = 41 then .ok (a2 + 1, ts2, cs2, ps2, (pk a1, m1, m2)) else .error (2, a2)
    else .error (2, a1)

def rdP (pk : Nat → Int) : Nat → Nat → Nat → List Key → List (Int × Nat) → List Key → RP
  | 0, a, _, _, _, _ => .error (2, a)
  | n + 1, a, d, ts, cs, ps =>
    if pk a = 33 then finQ (rdN (rdP pk n (a + 1) d ts cs ps))
    else if pk a = 40 then finQ (rdJ pk (rdP pk n) a d ts cs ps)
    else if pk a = 80 ∨ pk a = 81 then finQ (rdC pk (n + 1) a d ts cs ps)
    else finQ (rdE pk (n + 1) a d ts cs ps)

/-- The pieces forgotten. -/
def less : RP → RF
  | .error e => .error e
  | .ok (a1, ts1, cs1, _, _) => .ok (a1, ts1, cs1)
def lessQ : RQ → RF
  | .error e => .error e
  | .ok (a1, ts1, cs1, _, _) => .ok (a1, ts1, cs1)

theorem less_finQ (r : RQ) : less (finQ r) = lessQ r := by
  rcases r with e | ⟨a1, ts1, cs1, ps1, q⟩ <;> rfl
theorem lessQ_rdN (r : RP) : lessQ (rdN r) = less r := by
  rcases r with e | ⟨a1, ts1, cs1, ps1, q⟩ <;> rfl

theorem less_rdP (pk : Nat → Int) : ∀ (n a d : Nat) (ts : List Key) (cs : List (Int × Nat)) (ps : List Key), less (rdP pk n a d ts cs ps) = rdF pk n a d ts cs := by
  intro n
  induction n with
  | zero => intro a d ts cs ps; rfl
  | succ n ih =>
    intro a d ts cs ps
    unfold rdP rdF
    split
    · rw [less_finQ, lessQ_rdN, ih]
    · split
      · rw [less_finQ]
        unfold rdJ
        split
        · rfl
        · have h1 := ih (a + 1) (d + 1) ts cs ps
          rw [← h1]
          rcases rdP pk n (a + 1) (d + 1) ts cs ps with e | ⟨a1, ts1, cs1, ps1, m1⟩
          · rfl
          · show lessQ (if isJoint (pk a1) = true then _ else _) = (if isJoint (pk a1) = true then _ else _)
            split
            · have h2 := ih (a1 + 1) (d + 1) ts1 cs1 ps1
              rw [← h2]
              rcases rdP pk n (a1 + 1) (d + 1) ts1 cs1 ps1 with e | ⟨a2, ts2, cs2, ps2, m2⟩
              · rfl
              · show lessQ (if pk a2 = 41 then _ else _) = (if pk a2 = 41 then _ else _)
                split <;> rfl
            · rfl
      · split
        · rw [less_finQ]
          unfold rdC finC
          rcases arg1 pk (rdT pk (n + 1)) (a + 1) d ts with e | ⟨a1, ts1, m⟩ <;> rfl
        · rw [less_finQ]
          unfold rdE rdEq
          rcases rdT pk (n + 1) a d ts with e | ⟨a1, ts1, m⟩
          · rfl
          · show lessQ (if pk a1 = 61 then _ else _) = (if pk a1 = 61 then _ else _)
            split
            · rcases rdT pk (n + 1) (a1 + 1) d ts1 with e | ⟨a2, ts2, m2⟩ <;> rfl
            · rfl

/-- What holds of a reading with pieces. -/
def okP (N a : Nat) (ts : List Key) (cs : List (Int × Nat)) (ps : List Key) : RP → Prop
  | .error e => e.2 ≤ N ∧ (e.1 = 2 ∨ e.1 = 3)
  | .ok (a1, ts1, cs1, ps1, m) => a < a1 ∧ a1 ≤ N ∧ ts.length ≤ ts1.length ∧ ts1.length + a ≤ ts.length + a1 ∧ cs1.length + a ≤ cs.length + a1 ∧ ps1.length + a ≤ ps.length + a1 ∧ m < ps1.length
def okQ (N a : Nat) (ts : List Key) (cs : List (Int × Nat)) (ps : List Key) : RQ → Prop
  | .error e => e.2 ≤ N ∧ (e.1 = 2 ∨ e.1 = 3)
  | .ok (a1, ts1, cs1, ps1, q) => a < a1 ∧ a1 ≤ N ∧ ts.length ≤ ts1.length ∧ ts1.length + a ≤ ts.length + a1 ∧ cs1.length + a ≤ cs.length + a1 ∧ ps1.length + a + 1 ≤ ps.length + a1 ∧ q.2.1 < N + 1 ∧ q.2.2 < N + 1 ∧ 0 ≤ q.1 ∧ q.1 ≤ 255

section
variable {pk : Nat → Int} {N : Nat}

theorem okP_finQ {a : Nat} {ts : List Key} {cs : List (Int × Nat)} {ps : List Key} {r : RQ} (h : okQ N a ts cs ps r) : okP N a ts cs ps (finQ r) := by
  rcases r with e | ⟨a1, ts1, cs1, ps1, q⟩
  · exact h
  · obtain ⟨p1, p2, p3, p4, p5, p6, _⟩ := h
    have := put_length ps1 q
    exact ⟨p1, p2, p3, p4, p5, by omega, idx_put _ _⟩

theorem okQ_rdN {a : Nat} {ts : List Key} {cs : List (Int × Nat)} {ps : List Key} {r : RP} (hp : ps.length ≤ a) (h : okP N (a + 1) ts cs ps r) : okQ N a ts cs ps (rdN r) := by
  rcases r with e | ⟨a1, ts1, cs1, ps1, m⟩
  · exact h
  · obtain ⟨p1, p2, p3, p4, p5, p6, p7⟩ := h
    refine ⟨?_, ?_, ?_, ?_, ?_, ?_, ?_, ?_, ?_, ?_⟩ <;> (try simp) <;> omega

theorem okQ_rdC (hpk : ∀ a, pk a ≠ 0 → a < N) (hbd : ∀ a, 0 ≤ pk a ∧ pk a ≤ 255) {n a d : Nat} {ts : List Key} {cs : List (Int × Nat)} {ps : List Key} (ha : a < N) (hc : cs.length ≤ a) : okQ N a ts cs ps (rdC pk n a d ts cs ps) := by
  have h' := okT1_arg1 hpk (rec := rdT pk n) (a := a + 1) (d := d) (ts := ts) (by omega) (fun h40 => okT_rdT hpk _ _ _ _ (by have := hpk (a + 1) (by omega); omega))
  unfold rdC
  split
  · rename_i e he; rw [he] at h'; exact h'
  · rename_i a1 ts1 m he
    rw [he] at h'
    obtain ⟨p1, p2, p3, p4, p5⟩ := h'
    have q := put_length cs (pk a, m)
    have := hbd a
    have hi : cs.idxOf (pk a, m) ≤ cs.length := List.idxOf_le_length
    refine ⟨?_, ?_, ?_, ?_, ?_, ?_, ?_, ?_, ?_, ?_⟩ <;> (try simp) <;> omega

theorem okQ_rdE (hpk : ∀ a, pk a ≠ 0 → a < N) {n a d : Nat} {ts : List Key} {cs : List (Int × Nat)} {ps : List Key} (ha : a ≤ N) (ht : ts.length ≤ a) : okQ N a ts cs ps (rdE pk n a d ts cs ps) := by
  have h := okT_rdT hpk n a d ts ha
  unfold rdE
  split
  · rename_i e he; rw [he] at h; exact h
  · rename_i a1 ts1 m he
    rw [he] at h
    obtain ⟨p1, p2, p3, p4, p5⟩ := h
    split
    · rename_i h61
      have hl := hpk a1 (by omega)
      have h2 := okT_rdT hpk n (a1 + 1) d ts1 (by omega)
      split
      · rename_i e he2; rw [he2] at h2; exact h2
      · rename_i a2 ts2 m2 he2
        rw [he2] at h2
        obtain ⟨q1, q2, q3, q4, q5⟩ := h2
        refine ⟨?_, ?_, ?_, ?_, ?_, ?_, ?_, ?_, ?_, ?_⟩ <;> (try simp) <;> omega
    · exact ⟨p2, Or.inl rfl⟩

theorem okP_rdP (hpk : ∀ a, pk a ≠ 0 → a < N) (hbd : ∀ a, 0 ≤ pk a ∧ pk a ≤ 255) : ∀ (n a d : Nat) (ts : List Key) (cs : List (Int × Nat)) (ps : List Key), a ≤ N → ts.length ≤ a → cs.length ≤ a → ps.length ≤ a → okP N a ts cs ps (rdP pk n a d ts cs ps) := by
  intro n
  induction n with
  | zero => intro a d ts cs ps ha _ _ _; exact ⟨ha, Or.inl rfl⟩
  | succ n ih =>
    intro a d ts cs ps ha ht hc hp
    unfold rdP
    split
    · rename_i e
      have := hpk a (by omega)
      exact okP_finQ (okQ_rdN hp (ih (a + 1) d ts cs ps (by omega) (by omega) (by omega) (by omega)))
    · split
      · rename_i e
        have hl := hpk a (by omega)
        refine okP_finQ ?_
        unfold rdJ
        split
        · exact ⟨by omega, Or.inr rfl⟩
        · have h' := ih (a + 1) (d + 1) ts cs ps (by omega) (by omega) (by omega) (by omega)
          split
          · rename_i e he; rw [he] at h'; exact h'
          · rename_i a1 ts1 cs1 ps1 m1 he
            rw [he] at h'
            obtain ⟨p1, p2, p3, p4, p5, p6, p7⟩ := h'
            split
            · rename_i hj
              have hl1 := hpk a1 (fun e => by rw [e] at hj; simp [isJoint] at hj)
              have h'' := ih (a1 + 1) (d + 1) ts1 cs1 ps1 (by omega) (by omega) (by omega) (by omega)
              split
              · rename_i e he2; rw [he2] at h''; exact h''
              · rename_i a2 ts2 cs2 ps2 m2 he2
                rw [he2] at h''
                obtain ⟨q1, q2, q3, q4, q5, q6, q7⟩ := h''
                split
                · rename_i h41
                  have hl2 := hpk a2 (by omega)
                  have := hbd a1
                  refine ⟨?_, ?_, ?_, ?_, ?_, ?_, ?_, ?_, ?_, ?_⟩ <;> (try simp) <;> omega
                · exact ⟨q2, Or.inl rfl⟩
            · exact ⟨p2, Or.inl rfl⟩
      · split
        · rename_i e
          have hl := hpk a (by omega)
          exact okP_finQ (okQ_rdC hpk hbd hl hc)
        · exact okP_finQ (okQ_rdE hpk ha ht)

theorem okQ_rdJ (hpk : ∀ a, pk a ≠ 0 → a < N) (hbd : ∀ a, 0 ≤ pk a ∧ pk a ≤ 255) {n a d : Nat} {ts : List Key} {cs : List (Int × Nat)} {ps : List Key} (ha : a < N) (ht : ts.length ≤ a) (hc : cs.length ≤ a) (hp : ps.length ≤ a) : okQ N a ts cs ps (rdJ pk (rdP pk n) a d ts cs ps) := by
  unfold rdJ
  split
  · exact ⟨by omega, Or.inr rfl⟩
  · have h' := okP_rdP hpk hbd n (a + 1) (d + 1) ts cs ps (by omega) (by omega) (by omega) (by omega)
    split
    · rename_i e he; rw [he] at h'; exact h'
    · rename_i a1 ts1 cs1 ps1 m1 he
      rw [he] at h'
      obtain ⟨p1, p2, p3, p4, p5, p6, p7⟩ := h'
      split
      · rename_i hj
        have hl1 := hpk a1 (fun e => by rw [e] at hj; simp [isJoint] at hj)
        have h'' := okP_rdP hpk hbd n (a1 + 1) (d + 1) ts1 cs1 ps1 (by omega) (by omega) (by omega) (by omega)
        split
        · rename_i e he2; rw [he2] at h''; exact h''
        · rename_i a2 ts2 cs2 ps2 m2 he2
          rw [he2] at h''
          obtain ⟨q1, q2, q3, q4, q5, q6, q7⟩ := h''
          split
          · rename_i h41
            have hl2 := hpk a2 (by omega)
            have := hbd a1
            refine ⟨?_, ?_, ?_, ?_, ?_, ?_, ?_, ?_, ?_, ?_⟩ <;> (try simp) <;> omega
          · exact ⟨q2, Or.inl rfl⟩
      · exact ⟨p2, Or.inl rfl⟩
end

end Go.Proofs.YthcppbmkacbbiaaGreat.Rdg
