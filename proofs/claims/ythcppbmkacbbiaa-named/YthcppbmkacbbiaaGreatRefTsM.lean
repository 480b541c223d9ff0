import Derived.Test.YthcppbmkacbbiaaGreatRefTf
import Derived.Test.YthcppbmkacbbiaaGreatRefTg
import Derived.Test.YthcppbmkacbbiaaGreatRefPM
namespace Go.Proofs.YthcppbmkacbbiaaGreat
open Go.RowKit
open Rdg (St put)

theorem pk_hpk (s : ByteArray) : ∀ a, pk s a ≠ 0 → a < s.size := fun _ h => pk_lt h

theorem need_le {N n : Nat} {σ : St} (h1 : 1 ≤ n) (h2 : σ.E = 0 → N + 1 - σ.a ≤ n) : Rdg.need N σ ≤ n := by
  unfold Rdg.need; split
  · exact h2 ‹_›
  · exact h1

theorem Rterm_step (B : Nat) (s : ByteArray) (on : Bool) (k1 k2 : Value) (n : Nat) (hs : s.size ≤ 100) (hT : SaidRT B s on k1 k2 n) : SaidRT B s on k1 k2 (n + 1) := by
  intro w σ hr hn h
  have hpk := pk_hpk s
  unfold Rdg.rTerm
  cases hO : Rdg.rOne (pk s) Rdg.letters σ with
  | mk σ1 c =>
    have f1 := Rdg.rOne_fw hpk Rdg.letters0 hr.top
    have d1 := Rdg.one_d (pk s) Rdg.letters σ
    rw [hO] at f1 d1
    simp only at f1 d1
    have hfit : ∀ τ : St, Rdg.Fw s.size σ τ → τ.T.length ≤ 500 := fun τ f => by
      have := f.t; have := f.top; have := hr.t; have := f.le; omega
    by_cases h102 : c = 102
    · subst h102
      obtain ⟨q1, q2⟩ := Rdg.one_c (pk s) Rdg.letters σ (by rw [hO]; simp)
      obtain ⟨q3, q4, q5⟩ := Rdg.one_live (pk s) Rdg.letters σ q1
      rw [hO] at q5
      have e1 : σ1 = { σ with a := σ.a + 1 } := congrArg Prod.fst q5
      have hlt : σ.a < s.size := hpk _ (fun e => by rw [e] at q4; simp [Rdg.letters] at q4)
      have hE1 : σ1.E = 0 := by rw [e1]; exact q3
      have hd1 : σ1.d ≤ 8 := by rw [d1]; exact hr.d8 q3
      have hr1 : Rdg.Rdy s.size σ1 := hr.fw f1 d1
      have hr2 := hr1.open hpk hd1
      have hn' : s.size + 1 - σ.a ≤ n + 1 := by unfold Rdg.need at hn; rw [if_pos q3] at hn; exact hn
      have hn2 : Rdg.need s.size (Rdg.rOpen (pk s) σ1) ≤ n := need_le (by omega) (fun e => by
        have := Rdg.open_live (pk s) σ1 e
        rw [this.2.2.2, e1]; simp; omega)
      have f2 := Rdg.rOpen_fw hpk hr1.top
      have f3 := Rdg.rTerm_fw hpk s.data.toList n (Rdg.rOpen (pk s) σ1) f2.top
      have hIn : Rdg.rIn (pk s) (fun τ => (Rdg.rTerm s.data.toList (pk s) n τ).1) 102 σ1 = Rdg.rShut (pk s) (Rdg.rTerm s.data.toList (pk s) n (Rdg.rOpen (pk s) σ1)).1 := by unfold Rdg.rIn; rw [if_pos rfl]
      simp only [hIn]
      obtain ⟨f3, d3⟩ := f3
      rw [Rdg.open_d] at d3
      generalize h3 : (Rdg.rTerm s.data.toList (pk s) n (Rdg.rOpen (pk s) σ1)).1 = σ3 at f3 d3
      have f4 := Rdg.rShut_fw hpk f3.top
      have ff := ((f1.trans f2).trans f3).trans f4
      generalize ht : Rdg.rShut (pk s) σ3 = τ at f4 ff
      have hd3 : 1 ≤ σ3.d ∧ σ3.d ≤ 9 := by omega
      by_cases hE : τ.E = 0
      · cases hc : τ.T.contains (Rdg.cut s.data.toList σ.a τ.a) with
        | true =>
          rw [keep_old hE hc]
          exact Rterm_f_old w B s σ on k1 k2 hs hr n σ1 (hide hO) hr1.top hd1 hr2 hn2 hT σ3 (hide h3) f3.top hd3 τ (hide ht) (hide hE) ff.le ff.top (hfit τ ff) _ (hide rfl) (hide hc) h
        | false =>
          rw [keep_new hE hc]
          exact Rterm_f_new w B s σ on k1 k2 hs hr n σ1 (hide hO) hr1.top hd1 hr2 hn2 hT σ3 (hide h3) f3.top hd3 τ (hide ht) (hide hE) ff.le ff.top (hfit τ ff) _ (hide rfl) (hide hc) h
      · rw [keep_bad hE]
        exact Rterm_f_bad w B s σ on k1 k2 hs hr n σ1 (hide hO) hr1.top hd1 hr2 hn2 hT σ3 (hide h3) f3.top hd3 τ (hide ht) (hide hE) h
    · by_cases h103 : c = 103
      · subst h103
        obtain ⟨q1, q2⟩ := Rdg.one_c (pk s) Rdg.letters σ (by rw [hO]; simp)
        obtain ⟨q3, q4, q5⟩ := Rdg.one_live (pk s) Rdg.letters σ q1
        rw [hO] at q5
        have e1 : σ1 = { σ with a := σ.a + 1 } := congrArg Prod.fst q5
        have hlt : σ.a < s.size := hpk _ (fun e => by rw [e] at q4; simp [Rdg.letters] at q4)
        have hE1 : σ1.E = 0 := by rw [e1]; exact q3
        have hd1 : σ1.d ≤ 8 := by rw [d1]; exact hr.d8 q3
        have hr1 : Rdg.Rdy s.size σ1 := hr.fw f1 d1
        have hr2 := hr1.open hpk hd1
        have hn' : s.size + 1 - σ.a ≤ n + 1 := by unfold Rdg.need at hn; rw [if_pos q3] at hn; exact hn
        have ha1 : σ1.a = σ.a + 1 := by rw [e1]
        have hn2 : Rdg.need s.size (Rdg.rOpen (pk s) σ1) ≤ n := need_le (by omega) (fun e => by
          have := Rdg.open_live (pk s) σ1 e
          rw [this.2.2.2, e1]; simp; omega)
        have f2 := Rdg.rOpen_fw hpk hr1.top
        have f3 := Rdg.rTerm_fw hpk s.data.toList n (Rdg.rOpen (pk s) σ1) f2.top
        have hIn : Rdg.rIn (pk s) (fun τ => (Rdg.rTerm s.data.toList (pk s) n τ).1) 103 σ1 = Rdg.rShut (pk s) (Rdg.rTerm s.data.toList (pk s) n (Rdg.rOne (pk s) [44] (Rdg.rTerm s.data.toList (pk s) n (Rdg.rOpen (pk s) σ1)).1).1).1 := by
          unfold Rdg.rIn; rw [if_neg (by decide), if_pos rfl]
        simp only [hIn]
        have hr3 := hr2.fw f3.1 f3.2
        obtain ⟨f3, d3⟩ := f3
        rw [Rdg.open_d] at d3
        generalize h3 : (Rdg.rTerm s.data.toList (pk s) n (Rdg.rOpen (pk s) σ1)).1 = σ3 at f3 d3 hr3
        have f4 := Rdg.rOne_fw hpk (l := [44]) (by rfl) f3.top
        have d4 := Rdg.one_d (pk s) [44] σ3
        have hr4 := hr3.fw f4 d4
        cases h4 : Rdg.rOne (pk s) [44] σ3 with
        | mk σ4 c4 =>
          rw [h4] at f4 d4 hr4
          simp only at f4 d4 hr4
          have hn4 : Rdg.need s.size σ4 ≤ n := need_le (by omega) (fun _ => by have := f4.le; have := f3.le; have := f2.le; omega)
          have f5 := Rdg.rTerm_fw hpk s.data.toList n σ4 f4.top
          obtain ⟨f5, d5⟩ := f5
          simp only
          generalize h5 : (Rdg.rTerm s.data.toList (pk s) n σ4).1 = σ5 at f5 d5
          have f6 := Rdg.rShut_fw hpk f5.top
          have ff := ((((f1.trans f2).trans f3).trans f4).trans f5).trans f6
          generalize ht : Rdg.rShut (pk s) σ5 = τ at f6 ff
          have hd5 : 1 ≤ σ5.d ∧ σ5.d ≤ 9 := by omega
          by_cases hE : τ.E = 0
          · cases hc : τ.T.contains (Rdg.cut s.data.toList σ.a τ.a) with
            | true =>
              rw [keep_old hE hc]
              exact Rterm_g_old w B s σ on k1 k2 hs hr n σ1 (hide hO) hr1.top hd1 hr2 hn2 hT σ3 (hide h3) f3.top σ4 c4 (hide h4) hr4 hn4 σ5 (hide h5) f5.top hd5 τ (hide ht) (hide hE) ff.le ff.top (hfit τ ff) _ (hide rfl) (hide hc) h
            | false =>
              rw [keep_new hE hc]
              exact Rterm_g_new w B s σ on k1 k2 hs hr n σ1 (hide hO) hr1.top hd1 hr2 hn2 hT σ3 (hide h3) f3.top σ4 c4 (hide h4) hr4 hn4 σ5 (hide h5) f5.top hd5 τ (hide ht) (hide hE) ff.le ff.top (hfit τ ff) _ (hide rfl) (hide hc) h
          · rw [keep_bad hE]
            exact Rterm_g_bad w B s σ on k1 k2 hs hr n σ1 (hide hO) hr1.top hd1 hr2 hn2 hT σ3 (hide h3) f3.top σ4 c4 (hide h4) hr4 hn4 σ5 (hide h5) f5.top hd5 τ (hide ht) (hide hE) h
      · have hIn : Rdg.rIn (pk s) (fun τ => (Rdg.rTerm s.data.toList (pk s) n τ).1) c σ1 = σ1 := by unfold Rdg.rIn; rw [if_neg h102, if_neg h103]
        simp only [hIn]
        have b1 : (c == 102) = false := by simpa using h102
        have b2 : (c == 103) = false := by simpa using h103
        by_cases hE : σ1.E = 0
        · cases hc : σ1.T.contains (Rdg.cut s.data.toList σ.a σ1.a) with
          | true =>
            rw [keep_old hE hc]
            exact Rterm_else_old w B s σ on k1 k2 hs hr σ1 c (hide hO) b1 b2 (hide hE) f1.le f1.top (hfit _ f1) _ (hide rfl) (hide hc) h
          | false =>
            rw [keep_new hE hc]
            exact Rterm_else_new w B s σ on k1 k2 hs hr σ1 c (hide hO) b1 b2 (hide hE) f1.le f1.top (hfit _ f1) _ (hide rfl) (hide hc) h
        · rw [keep_bad hE]
          exact Rterm_else_bad w B s σ on k1 k2 hs hr σ1 c (hide hO) b1 b2 (hide hE) h

theorem need_pos {N : Nat} {σ : St} (h : σ.a ≤ N) : 1 ≤ Rdg.need N σ := by unfold Rdg.need; split <;> omega

theorem Rterm_any (B : Nat) (s : ByteArray) (on : Bool) (k1 k2 : Value) (hs : s.size ≤ 100) : ∀ n, SaidRT B s on k1 k2 n
  | 0 => fun w σ hr hn h => absurd hn (by have := need_pos hr.top; omega)
  | n + 1 => Rterm_step B s on k1 k2 n hs (Rterm_any B s on k1 k2 hs n)

end Go.Proofs.YthcppbmkacbbiaaGreat

namespace Go.Proofs.YthcppbmkacbbiaaGreat.Rdg

section
variable {pk : Nat → Int} {N : Nat}

theorem sees_live {pk : Nat → Int} {σ : St} {c : Int} (h : seesB pk σ c = true) : σ.E = 0 ∧ pk σ.a = c := by simpa [seesB] using h

theorem at1_fw (hpk : ∀ a, pk a ≠ 0 → a < N) {σ : St} {c : Int} (hc : c ≠ 0) (h : seesB pk σ c = true) : Fw N σ { σ with a := σ.a + 1 } := by
  obtain ⟨h1, h2⟩ := sees_live h
  have := hpk σ.a (by omega)
  exact ⟨by simp, by simp; omega, by simp, by simp, fun e => by simpa using e⟩

/-- A claim is put: the byte of its letter pays. -/
theorem keepC_fw {l : List UInt8} {σ τ : St} {x : Nat} (f : Fw N { σ with a := σ.a + 1 } τ) : Fw N σ (rKeepC l x τ) ∧ (rKeepC l x τ).d = τ.d := by
  have h1 := f.le; have h2 := f.t; have h3 := f.c; have h4 := f.dead
  simp at h1 h2 h3 h4
  unfold rKeepC
  split
  · have := put_length τ.C (cut l x τ.a)
    exact ⟨⟨by simp; omega, f.top, by simp; omega, by simp; omega, fun e => by simpa using h4 e⟩, rfl⟩
  · exact ⟨⟨by omega, f.top, by omega, by omega, h4⟩, rfl⟩

theorem rFormula_fw (hpk : ∀ a, pk a ≠ 0 → a < N) (l : List UInt8) : ∀ (n : Nat) (σ : St), σ.a ≤ N → Fw N σ (rFormula l pk n σ) ∧ (rFormula l pk n σ).d = σ.d := by
  intro n
  induction n with
  | zero => intro σ h; exact ⟨Fw.refl h, rfl⟩
  | succ n ih =>
    intro σ h
    unfold rFormula
    split
    · rename_i h33
      have f1 := at1_fw hpk (by omega) h33
      have g := ih _ f1.top
      exact ⟨f1.trans g.1, g.2⟩
    · split
      · rename_i h8
        have f1 : Fw N σ { σ with a := σ.a + 1 } := by
          simp at h8
          rcases h8 with h8 | h8
          · exact at1_fw hpk (by omega) h8
          · exact at1_fw hpk (by omega) h8
        have f2 := rOpen_fw hpk f1.top
        have f3 := rTerm_fw hpk l (n + 1) _ f2.top
        have f4 := rShut_fw hpk f3.1.top
        have k := keepC_fw (l := l) (x := σ.a) ((f2.trans f3.1).trans f4)
        refine ⟨k.1, ?_⟩
        rw [k.2, shut_d, f3.2, open_d]
        simp
      · split
        · have f2 := rOpen_fw hpk h
          have f3 := ih _ f2.top
          have f4 := rOne_fw hpk (l := [38, 124, 62, 45]) (by rfl) f3.1.top
          have f5 := ih _ f4.top
          have f6 := rShut_fw hpk f5.1.top
          refine ⟨(((f2.trans f3.1).trans f4).trans f5.1).trans f6, ?_⟩
          rw [shut_d, f5.2, one_d, f3.2, open_d]
          omega
        · have f3 := rTerm_fw hpk l (n + 1) _ h
          have f4 := rOne_fw hpk (l := [61]) (by rfl) f3.1.top
          have f5 := rTerm_fw hpk l (n + 1) _ f4.top
          refine ⟨(f3.1.trans f4).trans f5.1, ?_⟩
          rw [f5.2, one_d, f3.2]
end

end Go.Proofs.YthcppbmkacbbiaaGreat.Rdg
