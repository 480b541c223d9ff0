import Derived.Test.YthfjhjghohincaaCandJ
import Derived.Test.YthfjhjghohincaaCandJc
import Derived.Test.YthfjhjghohincaaCandA
import Derived.Test.YthfjhjghohincaaRnd
import Derived.Test.YthfjhjghohincaaEqc
import Derived.RangeFuncLeaves
import Derived.RangeFuncBox
namespace Go.Proofs.Ythfjhjghohincaa
open Go.RowKit Go.Maps Go.WideMaps
open Rdg (Key put)

theorem orderT_any (BT : Nat) (w : World) : Calls Try.prog 48 #[.map (some BT)] w fun e w' =>
    e = .returned (.func (.func 57) #[] #[.pointer (some ⟨w.heap.size, 0, none⟩)]) ∧ w' = w.alloc (.cells #[.map (some BT)] 48) := by
  go_enter Try.func48, Try.ntmps48
  go_wp2_with fail
  go_ret
  exact ⟨rfl, rfl⟩

theorem news_one (w : World) (x : List UInt8) (t : TypeId) : ∀ j u, [str x][j]? = some u → (w.alloc (.cells #[str x] t)).cell? ((⟨w.heap.size, 0, none⟩ : Addr).add j) = some u := by
  intro j u hj
  cases j with
  | zero => simp at hj; subst hj; simp [Addr.add]
  | succ j => simp at hj

theorem one_str (x : List UInt8) : ∀ u ∈ [str x], u.oneCell' = true := by intro u hu; simp at hu; subst hu; rfl

theorem cell_own {W W' : World} {row : Option Nat} {a : Addr} {v : Value} (h : W.cell? a = some v) (hg : W.grownBy W' row) (hr : ∀ r, row = some r → ∃ o : Obj, W.heap[r]? = some o ∧ o.isCells = false) : W'.cell? a = some v :=
  hg.cell h (fun e => by
    obtain ⟨o, ho, hc⟩ := hr _ e.symm
    obtain ⟨o', ho', hc'⟩ := cells_of_cell h
    rw [ho] at ho'
    cases ho'
    rw [hc] at hc'
    cases hc')

/-- All but the blocks X and G is as it was. -/
structure Trn (X G : Nat) (W W' : World) : Prop where
  os : W'.os = W.os
  tape : W'.tape = W.tape
  output : W'.output = W.output
  size : W.heap.size ≤ W'.heap.size
  block : ∀ k, k < W.heap.size → k ≠ X → k ≠ G → W'.heap[k]? = W.heap[k]?

section
variable {X G : Nat} {W W' W'' : World}
theorem Trn.refl (X G : Nat) (W : World) : Trn X G W W := ⟨rfl, rfl, rfl, Nat.le_refl _, fun _ _ _ _ => rfl⟩
theorem Trn.trans (h : Trn X G W W') (g : Trn X G W' W'') : Trn X G W W'' :=
  ⟨g.os.trans h.os, g.tape.trans h.tape, g.output.trans h.output, Nat.le_trans h.size g.size, fun k hk h1 h2 => (g.block k (Nat.lt_of_lt_of_le hk h.size) h1 h2).trans (h.block k hk h1 h2)⟩
theorem Trn.of_below {B : Nat} (h : Below B W W') (hB : W.heap.size ≤ B) : Trn X G W W' := ⟨h.os, h.tape, h.output, h.size, fun k hk _ _ => h.block k (Nat.lt_of_lt_of_le hk hB)⟩
theorem Trn.of_grown (h : W.grownBy W' (some G)) : Trn X G W W' := ⟨h.os, h.tape, h.output, h.size, fun k hk _ h2 => h.block k hk (fun e => h2 (by simpa using e))⟩
theorem Trn.of_store (v : Value) : Trn X G W (W.setCell ⟨X, 0, none⟩ v) := by
  have h := (Below.refl X W).setCell (p := ⟨X, 0, none⟩) (Nat.le_refl _) v
  exact ⟨h.os, h.tape, h.output, h.size, fun k _ h1 _ => Below.heap_setCell W _ v k h1⟩
theorem Trn.drew : Trn X G W W.drew := ⟨rfl, rfl, rfl, Nat.le_refl _, fun _ _ _ _ => rfl⟩
theorem Trn.alloc (o : Obj) : Trn X G W (W.alloc o) := Trn.of_below ((Below.refl W.heap.size W).alloc (Nat.le_refl _) o) (Nat.le_refl _)
theorem Trn.cell {a : Addr} {v : Value} (h : Trn X G W W') (hc : W.cell? a = some v) (h1 : a.block ≠ X) (h2 : a.block ≠ G) : W'.cell? a = some v :=
  (World.cell?_of_block (h.block _ (World.block_lt_of_cell? W a hc) h1 h2)).trans hc
end

/-- Between two rounds of a loop that writes texts: the row G, and the variable X that holds it. -/
structure TI (w : World) (X G n : Nat) (T : List (List UInt8)) (k : Nat) (W : World) : Prop where
  x : W.cell? ⟨X, 0, none⟩ = some (.slice (some ⟨G, 0, none⟩) k n)
  fx : W.frozen? ⟨X, 0, none⟩ = false
  row : W.ownsRow 0 9 1 (.slice (some ⟨G, 0, none⟩) k n) k ((T.take k).map str)
  below : Below w.heap.size w W

section
variable {w : World} {X G n : Nat} {T : List (List UInt8)} {k : Nat} {W W' : World}

theorem TI.lt (h : TI w X G n T k W) : X < W.heap.size ∧ G < W.heap.size := ⟨World.block_lt_of_cell? W _ h.x, (h.row.lt G rfl).2⟩

theorem TI.own (B : Nat) (hX : X < B) (hG : G < B) (hw : w.heap.size ≤ B) : OwnFrom B (TI w X G n T) := by
  intro k W W' row h hg hr
  have hne : ∀ b, b < B → some b ≠ row := fun b hb e => by have := (hr b e.symm).1; omega
  refine ⟨hg.cell h.x (hne X hX), ?_, h.row.kept hg (Or.inr (hne G hG)), ownFrom_below (β := Unit) (Nat.le_refl _) hw () W W' row h.below hg hr⟩
  rw [World.frozen?_of_block (hg.block X h.lt.1 (hne X hX))]; exact h.fx

theorem body_end {B : Nat} {a : Act} (hX : X < B) (hG : G < B) (hwX : w.heap.size ≤ X) (hwG : w.heap.size ≤ G) (hb : Below w.heap.size w W) (h : Trn X G W W')
    (h1 : W'.cell? ⟨X, 0, none⟩ = some (.slice (some ⟨G, 0, none⟩) (k + 1) n)) (h2 : W'.frozen? ⟨X, 0, none⟩ = false) (h3 : W'.ownsRow 0 9 1 (.slice (some ⟨G, 0, none⟩) (k + 1) n) (k + 1) ((T.take (k + 1)).map str)) :
    goesOn B (KCells B) (TI w X G n T (k + 1)) W .normal a W' := by
  have hs : ∀ j o, B ≤ j → W.heap[j]? = some o → W'.heap[j]? = some o := fun j o hj ho => (h.block j (Array.getElem?_eq_some_iff.1 ho).1 (by omega) (by omega)).trans ho
  exact ⟨⟨h.size, fun j o hj ho _ => hs j o hj ho⟩, fun j o hj ho _ => hs j o hj ho, h1, h2, h3,
    ⟨h.os.trans hb.os, h.tape.trans hb.tape, h.output.trans hb.output, Nat.le_trans hb.size h.size, fun j hj => (h.block j (Nat.lt_of_lt_of_le hj hb.size) (by omega) (by omega)).trans (hb.block j hj)⟩⟩
/-- A round's end: a text is appended, the row is stored. -/
theorem arm_close {B : Nat} {a : Act} {Wc w4 : World} (hX : X < B) (hG : G < B) (hwX : w.heap.size ≤ X) (hwG : w.heap.size ≤ G) (hXG : X ≠ G) (hI : TI w X G n T k W) (ht : Trn X G W Wc) {v : Value}
    (cX : Wc.cell? ⟨X, 0, none⟩ = some v) (fX : Wc.frozen? ⟨X, 0, none⟩ = false) (hk : k < T.length)
    (r1 : w4.ownsRow 0 9 1 (.slice (some ⟨G, 0, none⟩) (k + 1) n) (k + 1) ((T.take k).map str ++ [str (T.getD k [])])) (r2 : Wc.grownBy w4 (some G)) :
    goesOn B (KCells B) (TI w X G n T (k + 1)) W .normal a (w4.setCell ⟨X, 0, none⟩ (.slice (some ⟨G, 0, none⟩) (k + 1) n)) := by
  have hlt := World.block_lt_of_cell? Wc _ cX
  have c4 := r2.cell cX (by simpa using hXG)
  have f4 : w4.frozen? ⟨X, 0, none⟩ = false := (World.frozen?_of_block (r2.block X hlt (by simpa using hXG))).trans fX
  have hsn : (T.take (k + 1)).map str = (T.take k).map str ++ [str (T.getD k [])] := by
    rw [List.take_add_one, List.getElem?_eq_getElem hk, List.map_append, List.getD_eq_getElem?_getD, List.getElem?_eq_getElem hk]; rfl
  refine body_end hX hG hwX hwG hI.below ((ht.trans (Trn.of_grown r2)).trans (Trn.of_store _)) (World.cell?_setCell_same' _ _ _ (by rw [c4]; rfl)) (by rw [World.frozen?_setCell]; exact f4) ?_
  rw [hsn]
  exact r1.kept (grownBy_setCell' w4 X _) (Or.inr (by simp only [Value.ownBlock, ne_eq, Option.some.injEq]; exact fun e => hXG e.symm))
end

attribute [local go_sem] Oper.semAt_some

set_option linter.unusedSimpArgs false in
set_option maxRecDepth 100000 in
set_option maxHeartbeats 1000000 in
theorem termTexts_any (BT BC : Nat) (ts : List Key) (w : World) (hl : ts.length ≤ 7) (hnd : ts.Nodup) (hM : MapIs w 97 BT kvT ts) (hv : ∀ x ∈ ts, ∃ l, keyOf Try.prog 97 (kvT x) = some l) (hi : Rdg.Inv ts) (HLEN : ∀ i, ((Rdg.texts ts).getD i []).length ≤ 100) :
    Calls Try.prog 29 #[.agg #[.map (some BT), .map (some BC)]] w fun e w' => ∃ G, e = .returned (.slice (some ⟨G, 0, none⟩) ts.length ts.length) ∧ w.heap.size ≤ G ∧ G < w'.heap.size ∧ Below w.heap.size w w' ∧
      ∀ j, j < ts.length → w'.cell? ⟨G, j, none⟩ = some (str ((Rdg.texts ts).getD j [])) := by
  refine (callsIn_wide (n := 5)).1 ?_
  obtain ⟨wb, hwb⟩ : ∃ wb, wb = w.alloc (.cells #[.map (some BT), .map (some BC)] 52) := ⟨_, rfl⟩
  have hMb : MapIs wb 97 BT kvT ts := hM.kept (by rw [hwb]; exact Below.heap_alloc _ _ _ hM.lt)
  obtain ⟨D, hown, hsz, hall, hback⟩ := id hMb
  obtain ⟨i0, hin, hz0, hz1, hz2⟩ := info_parts infoS
  have hlen := fun ty => hown.len Try.underlying48 ty
  obtain ⟨w1, hmk, hrow, hg1⟩ := run_make_own (P := Try.prog) wb wb.heap.size 60 9 i0 (.string ⟨#[]⟩) 1 Try.underlying60 hin hz0 hz1 .i64 .i64 (Maps.size D) (by rw [hz2, hsz]; omega) (by rw [hsz]; unfold maxLen; omega) (Nat.le_refl _)
  have hlt1 : w.heap.size + 1 < w1.heap.size := by have h := (hrow.lt wb.heap.size rfl).2; rw [hwb] at h; simpa using h
  have hlt0 : w.heap.size < w1.heap.size := by omega
  have hcb : w1.cell? ⟨w.heap.size, 0, none⟩ = some (.map (some BT)) := hg1.cell (by rw [hwb]; simp [go_sem]) (by simp)
  rw [hwb] at hlen hmk
  have HSZ := hide hsz
  have HI := hide hi
  have HM := hide hM
  have HMb := hide hMb
  have HWB := hide hwb
  clear hall hback hsz hM hwb hi hMb
  refine callsIn_of_wp_marks Try.func29 rfl trivial ?_ rfl
  simp only [Try.ntmps29, List.size_toArray, List.length_cons, List.length_nil, Nat.reduceAdd, Nat.reduceSub, Array.replicate_succ, Array.replicate_zero, List.push_toArray, List.append_toArray, List.nil_append, List.cons_append]
  gi_wp2
  refine ⟨trivial, (callsIn_wide.2 (orderT_any BT _)).mono ?_⟩
  rintro e w2 ⟨rfl, rfl⟩
  gi_wp2
  have hn := unhide HSZ
  obtain ⟨w2, hw2⟩ : ∃ w2, (w1.alloc (.cells #[.slice (some ⟨w.heap.size + 1, 0, none⟩) 0 (Maps.size D)] 60)).alloc (.cells #[.map (some BT)] 48) = w2 := ⟨_, rfl⟩
  have hwbs : wb.heap.size = w.heap.size + 1 := by rw [unhide HWB]; simp
  have hs2 : w2.heap.size = w1.heap.size + 2 := by rw [← hw2]; simp
  have hBn2 : w2.cell? ⟨w1.heap.size + 1, 0, none⟩ = some (.map (some BT)) := by rw [← hw2]; simp [go_sem]
  have hx2 : w2.cell? ⟨w1.heap.size, 0, none⟩ = some (.slice (some ⟨w.heap.size + 1, 0, none⟩) 0 (Maps.size D)) := by rw [← hw2]; simp [go_sem]
  have hfx2 : w2.frozen? ⟨w1.heap.size, 0, none⟩ = false := by rw [← hw2]; simp [go_sem]
  have hg2 : wb.grownBy w2 none := by rw [← hw2]; exact (hg1.trans (World.grownBy_alloc _ _ none)).trans (World.grownBy_alloc _ _ none)
  have hM2 : MapIs w2 97 BT kvT ts := (unhide HMb).kept (hg2.block BT (unhide HMb).lt (by simp))
  have hrow2 : w2.ownsRow 0 9 1 (.slice (some ⟨w.heap.size + 1, 0, none⟩) 0 (Maps.size D)) 0 [] := by
    rw [← hw2]
    rw [hwbs] at hrow
    have h := (hrow.alloc (.cells #[.slice (some ⟨w.heap.size + 1, 0, none⟩) 0 (Maps.size D)] 60)).alloc (.cells #[.map (some BT)] 48)
    exact ⟨h.1, h.2.imp id (fun ⟨g, cap, cur, h1, h2, h3⟩ => ⟨g, cap, cur, h1, Nat.zero_le _, h3⟩)⟩
  have hb2 : Below w.heap.size w w2 := by
    have hwb0 : Below w.heap.size w wb := by rw [unhide HWB]; exact (Below.refl _ w).alloc (Nat.le_refl _) _
    have hwb1 : Below w.heap.size wb w2 := ⟨hg2.os, hg2.tape, hg2.output, hg2.size, fun j hj => hg2.block j (by omega) (by simp)⟩
    exact hwb0.trans hwb1
  have hseq := iterT_all Fence.wide 4 trivial rfl (by omega) (w1.heap.size + 1) BT w2.heap.size ts w2 (Nat.le_refl _) (by omega) hnd hBn2 hM2 hv
  rw [hw2]
  clear hw2 hmk hlen hcb hrow hg1 hown hin hz0 hz1 hz2 hg2
  rw [hn] at hx2 hrow2 ⊢
  clear hn
  have hTI : TI w w1.heap.size (w.heap.size + 1) ts.length (Rdg.texts ts) 0 w2 := ⟨hx2, hfx2, hrow2, hb2⟩
  clear hx2 hfx2 hrow2 hb2 HSZ
  refine wpIn_rangeFunc_seq rfl (by omega) rfl trivial (fun _ _ => by simp [go_sem]) hseq KCells.trans ?_ (Below.refl _ _) ?_ (TI w w1.heap.size (w.heap.size + 1) ts.length (Rdg.texts ts)) (TI.own _ (by omega) (by omega) (by omega)) hTI
    (fun k a' W => ∃ p, p < W.heap.size ∧ p ≠ w1.heap.size ∧ p ≠ w.heap.size + 1 ∧ W.cell? ⟨p, 0, none⟩ = some (cellT (ts.getD k (0, 0, 0)) 0) ∧ W.cell? ⟨p, 1, none⟩ = some (cellT (ts.getD k (0, 0, 0)) 1) ∧ W.cell? ⟨p, 2, none⟩ = some (cellT (ts.getD k (0, 0, 0)) 2) ∧
      a' = { tmps := #[.agg #[.map (some BT), .map (some BC)], .pointer (some ⟨w.heap.size, 0, none⟩), .slice none 0 0, .pointer (some ⟨w1.heap.size, 0, none⟩), .pointer (some ⟨p, 0, none⟩), .pointer (some ⟨w.heap.size, 0, none⟩), .map (some BT), .int .i64 ts.length, .slice (some ⟨w.heap.size + 1, 0, none⟩) 0 ts.length,
          .pointer (some ⟨w.heap.size, 0, none⟩), .map (some BT), .func (.func 57) #[] #[.pointer (some ⟨w1.heap.size + 1, 0, none⟩)], kvT (ts.getD k (0, 0, 0)), undef, undef, undef, undef, undef, undef, undef, undef, undef, undef, undef, undef, undef, undef, undef, undef, undef, undef, undef, undef, undef, undef,
          undef, undef, undef, undef, undef, undef, undef, undef, undef, undef, undef, undef, undef, undef, undef, undef, undef], defers := [] }) ?own ?assign ?body ?done
  · intro W l o o' hl ho hc _ j x hj hx hxc
    refine (World.putObj_heap_other (fun e => ?_)).trans hx
    subst e
    rw [ho] at hx
    cases hx
    rw [hc] at hxc
    cases hxc
  · intro k hk; simp
  case own =>
    rintro k a' ⟨⟩ W W' row ⟨p, hp, hp1, hp2, c0, c1, c2, e⟩ hg hr
    have hr' : ∀ r, row = some r → ∃ o : Obj, W.heap[r]? = some o ∧ o.isCells = false := fun r e => (hr r e).2
    exact ⟨p, Nat.lt_of_lt_of_le hp hg.size, hp1, hp2, cell_own c0 hg hr', cell_own c1 hg hr', cell_own c2 hg hr', e⟩
  case assign =>
    intro l k hk W K hI hK
    have hk' : k < ts.length := by simpa using hk
    have e1 : (List.map (fun x => #[kvT x]) ts)[k]'hk = #[kvT (ts.getD k (0, 0, 0))] := by simp [List.getD_eq_getElem?_getD, List.getElem?_eq_getElem hk']
    rw [e1]
    generalize ts.getD k (0, 0, 0) = key at hK
    obtain ⟨kl, kf, ks⟩ := key
    have hlt := hI.lt
    simp only [kvT] at hK ⊢
    gi_wp2
    refine hK _ _ ((KeepsOthers.alloc _ _).from _) (fun j o hj ho hc => (Below.heap_alloc _ _ _ (Array.getElem?_eq_some_iff.1 ho).1).trans ho) ((TI.own w2.heap.size (by omega) (by omega) (by omega)).alloc _ hI) ⟨W.heap.size, by simp, by omega, by omega, ?_, ?_, ?_, rfl⟩
    all_goals simp [cellT, go_sem]
  case body =>
    rintro l k a' W hk hl hI ⟨p, hp, hp1, hp2, c0, c1, c2, rfl⟩
    have hk' : k < ts.length := by simpa using hk
    have hXB : w1.heap.size < w2.heap.size := by omega
    have hGB : w.heap.size + 1 < w2.heap.size := by omega
    have hwX : w.heap.size ≤ w1.heap.size := by omega
    have hwG : w.heap.size ≤ w.heap.size + 1 := by omega
    have hXG : w1.heap.size ≠ w.heap.size + 1 := by omega
    have hGX : w.heap.size + 1 ≠ w1.heap.size := by omega
    have hix := hI.x
    have hifx := hI.fx
    have hlt := hI.lt
    have hlX := hlt.1
    have hlG := hlt.2
    have hkey : Rdg.okKey k (ts.getD k (0, 0, 0)) := by have h := (unhide HI).key k hk'; simpa [List.getD_eq_getElem?_getD, hk'] using h
    have htx : (Rdg.texts ts).getD k [] = Rdg.rend (Rdg.texts ts) (ts.getD k (0, 0, 0)) := by have h := (unhide HI).get k hk'; simpa [List.getD_eq_getElem?_getD, hk'] using h
    have hfit : k + 1 ≤ ts.length := hk'
    obtain ⟨i0, hin, hz0, hz1, hz2⟩ := info_parts infoS
    have HTX := hide htx
    clear hs2 hwbs htx hlt hBn2 hM2 hseq hTI
    generalize ts.getD k (0, 0, 0) = key at c0 c1 c2 hkey HTX
    obtain ⟨kl, kf, ks⟩ := key
    simp only [cellT] at c0 c1 c2
    simp at c1 c2
    have hap : Hid (∀ W2 : World, W.grownBy W2 none → W2.ownsRow 0 9 1 (.slice (some ⟨w.heap.size + 1, 0, none⟩) k ts.length) k (((Rdg.texts ts).take k).map str)) := fun W2 h => hI.row.kept h (Or.inr (by simp [Value.ownBlock]))
    rcases hkey with ⟨g1, g2, g3, g4⟩ | ⟨g1, g2, g3⟩ | ⟨g1, g2, g3⟩
    · simp only at g1 g2 g3 g4
      have u1 : Utf8.encode 97 = ⟨#[97]⟩ := by kernel_rfl
      have u2 : Utf8.encode 98 = ⟨#[98]⟩ := by kernel_rfl
      have u3 : Utf8.encode 99 = ⟨#[99]⟩ := by kernel_rfl
      have u4 : Utf8.encode 100 = ⟨#[100]⟩ := by kernel_rfl
      have u5 : Utf8.encode 101 = ⟨#[101]⟩ := by kernel_rfl
      have hfive : kl = 97 ∨ kl = 98 ∨ kl = 99 ∨ kl = 100 ∨ kl = 101 := by omega
      clear g1 g2 g3 g4
      have hca : Hid (∀ o, (W.alloc o).cell? ⟨w1.heap.size, 0, none⟩ = some (.slice (some ⟨w.heap.size + 1, 0, none⟩) k ts.length)) := fun o => (World.cell?_alloc_lt W o ⟨w1.heap.size, 0, none⟩ hlX).trans hix
      have hfa : Hid (∀ o, (W.alloc o).frozen? ⟨w1.heap.size, 0, none⟩ = false) := fun o => (World.frozen?_of_block (Below.heap_alloc W o w1.heap.size hlX)).trans hifx
      rcases hfive with rfl | rfl | rfl | rfl | rfl
      · have htx2 : Rdg.rend (Rdg.texts ts) (97, kf, ks) = [97] := rfl
        rw [htx2] at HTX
        clear htx2
        simp only [if_true] at c0
        gi_wp2_with (refine wpListIn_append_fits _ rfl (.tmp 15) (.tmp 20) 60 rfl 0 9 i0 1 Try.underlying60 hin hz1 _ _ _ _ rfl (unhide hap _ (World.grownBy_alloc _ _ _)) _ 1 1 [str [97]] rfl rfl (news_one _ _ _) (one_str _) hfit ?_; intro w4 r1 r2; have q1 := r2.cell (unhide hca _) (by simpa using hXG); have q2 : w4.frozen? ⟨w1.heap.size, 0, none⟩ = false := (World.frozen?_of_block (r2.block w1.heap.size (by simp; omega) (by simpa using hXG))).trans (unhide hfa _))
        refine arm_close hXB hGB hwX hwG hXG hI (Trn.alloc _) (v := .slice (some ⟨w.heap.size + 1, 0, none⟩) k ts.length) (unhide hca _) (unhide hfa _) (by rw [Rdg.texts_length]; exact hk') (by rw [unhide HTX]; exact r1) r2
      · have htx2 : Rdg.rend (Rdg.texts ts) (98, kf, ks) = [98] := rfl
        rw [htx2] at HTX
        clear htx2
        simp only [if_true] at c0
        gi_wp2_with (refine wpListIn_append_fits _ rfl (.tmp 15) (.tmp 20) 60 rfl 0 9 i0 1 Try.underlying60 hin hz1 _ _ _ _ rfl (unhide hap _ (World.grownBy_alloc _ _ _)) _ 1 1 [str [98]] rfl rfl (news_one _ _ _) (one_str _) hfit ?_; intro w4 r1 r2; have q1 := r2.cell (unhide hca _) (by simpa using hXG); have q2 : w4.frozen? ⟨w1.heap.size, 0, none⟩ = false := (World.frozen?_of_block (r2.block w1.heap.size (by simp; omega) (by simpa using hXG))).trans (unhide hfa _))
        refine arm_close hXB hGB hwX hwG hXG hI (Trn.alloc _) (v := .slice (some ⟨w.heap.size + 1, 0, none⟩) k ts.length) (unhide hca _) (unhide hfa _) (by rw [Rdg.texts_length]; exact hk') (by rw [unhide HTX]; exact r1) r2
      · have htx2 : Rdg.rend (Rdg.texts ts) (99, kf, ks) = [99] := rfl
        rw [htx2] at HTX
        clear htx2
        simp only [if_true] at c0
        gi_wp2_with (refine wpListIn_append_fits _ rfl (.tmp 15) (.tmp 20) 60 rfl 0 9 i0 1 Try.underlying60 hin hz1 _ _ _ _ rfl (unhide hap _ (World.grownBy_alloc _ _ _)) _ 1 1 [str [99]] rfl rfl (news_one _ _ _) (one_str _) hfit ?_; intro w4 r1 r2; have q1 := r2.cell (unhide hca _) (by simpa using hXG); have q2 : w4.frozen? ⟨w1.heap.size, 0, none⟩ = false := (World.frozen?_of_block (r2.block w1.heap.size (by simp; omega) (by simpa using hXG))).trans (unhide hfa _))
        refine arm_close hXB hGB hwX hwG hXG hI (Trn.alloc _) (v := .slice (some ⟨w.heap.size + 1, 0, none⟩) k ts.length) (unhide hca _) (unhide hfa _) (by rw [Rdg.texts_length]; exact hk') (by rw [unhide HTX]; exact r1) r2
      · have htx2 : Rdg.rend (Rdg.texts ts) (100, kf, ks) = [100] := rfl
        rw [htx2] at HTX
        clear htx2
        simp only [if_true] at c0
        gi_wp2_with (refine wpListIn_append_fits _ rfl (.tmp 15) (.tmp 20) 60 rfl 0 9 i0 1 Try.underlying60 hin hz1 _ _ _ _ rfl (unhide hap _ (World.grownBy_alloc _ _ _)) _ 1 1 [str [100]] rfl rfl (news_one _ _ _) (one_str _) hfit ?_; intro w4 r1 r2; have q1 := r2.cell (unhide hca _) (by simpa using hXG); have q2 : w4.frozen? ⟨w1.heap.size, 0, none⟩ = false := (World.frozen?_of_block (r2.block w1.heap.size (by simp; omega) (by simpa using hXG))).trans (unhide hfa _))
        refine arm_close hXB hGB hwX hwG hXG hI (Trn.alloc _) (v := .slice (some ⟨w.heap.size + 1, 0, none⟩) k ts.length) (unhide hca _) (unhide hfa _) (by rw [Rdg.texts_length]; exact hk') (by rw [unhide HTX]; exact r1) r2
      · have htx2 : Rdg.rend (Rdg.texts ts) (101, kf, ks) = [101] := rfl
        rw [htx2] at HTX
        clear htx2
        simp only [if_true] at c0
        gi_wp2_with (refine wpListIn_append_fits _ rfl (.tmp 15) (.tmp 20) 60 rfl 0 9 i0 1 Try.underlying60 hin hz1 _ _ _ _ rfl (unhide hap _ (World.grownBy_alloc _ _ _)) _ 1 1 [str [101]] rfl rfl (news_one _ _ _) (one_str _) hfit ?_; intro w4 r1 r2; have q1 := r2.cell (unhide hca _) (by simpa using hXG); have q2 : w4.frozen? ⟨w1.heap.size, 0, none⟩ = false := (World.frozen?_of_block (r2.block w1.heap.size (by simp; omega) (by simpa using hXG))).trans (unhide hfa _))
        refine arm_close hXB hGB hwX hwG hXG hI (Trn.alloc _) (v := .slice (some ⟨w.heap.size + 1, 0, none⟩) k ts.length) (unhide hca _) (unhide hfa _) (by rw [Rdg.texts_length]; exact hk') (by rw [unhide HTX]; exact r1) r2
    · simp only at g1 g2 g3
      subst g1
      have g4 : ((kf : Nat) : Int) < (k : Int) := by omega
      have htx2 : Rdg.rend (Rdg.texts ts) (102, kf, ks) = appl 102 [(Rdg.texts ts).getD kf []] := by simp [appl, Rdg.rend, Lib.join_one]
      rw [htx2] at HTX
      clear htx2
      simp only [if_true] at c0
      have cG : W.cell? ⟨w.heap.size + 1, kf, none⟩ = some (str ((Rdg.texts ts).getD kf [])) := by
        rw [hI.row.cellAt kf (by omega)]
        simp [List.getD_eq_getElem?_getD, Rdg.texts_length, List.getElem?_take, g2, Nat.lt_trans g2 hk']
      have hlt1 : ((Rdg.texts ts).getD kf []).length ≤ 100 := HLEN kf
      generalize (Rdg.texts ts).getD kf [] = t1 at HTX cG hlt1
      unfold str at cG
      have HAP : Hid (Calls Try.prog 31 #[.int .u8 102, .slice (some ⟨W.heap.size, 0, none⟩) 1 1] (W.alloc (.cells #[.string ⟨t1.toArray⟩] 9)).drew fun e w' => e = .returned (str (appl 102 [t1])) ∧ Below (W.heap.size + 1) (W.alloc (.cells #[.string ⟨t1.toArray⟩] 9)) w') := by
        have h := applied_any 102 (by decide) [t1] W.heap.size 1 (W.alloc (.cells #[.string ⟨t1.toArray⟩] 9)).drew (by simp) (by simp) (by rw [Lib.join_one]; omega) (by simp) (fun j hj => by
          obtain rfl : j = 0 := by simp at hj; omega
          simp [go_sem, str])
        exact h.mono fun e w' ⟨h1, h2⟩ => ⟨h1, ⟨h2.os, h2.tape, h2.output, h2.size, fun q hq => h2.block q (by simpa using hq)⟩⟩
      generalize appl 102 [t1] = tn at HTX HAP
      gi_wp2
      refine region_last (fun W' => W'.cell? ⟨w1.heap.size, 0, none⟩ = some (.slice (some ⟨w.heap.size + 1, 0, none⟩) k ts.length) ∧ W'.cell? ⟨p, 1, none⟩ = some (.int .i64 kf) ∧ W'.cell? ⟨w.heap.size + 1, kf, none⟩ = some (.string ⟨t1.toArray⟩)) 10 11 #[false, false, false, false, false, false, false, false, false, false, false] (by kernel_rfl) rfl rfl (by kernel_rfl) ?_ ?_
      · rintro ⟨_, _, h⟩; exact h
      have hS0 : W.drew.cell? ⟨w1.heap.size, 0, none⟩ = some (.slice (some ⟨w.heap.size + 1, 0, none⟩) k ts.length) ∧ W.drew.cell? ⟨p, 1, none⟩ = some (.int .i64 kf) ∧ W.drew.cell? ⟨w.heap.size + 1, kf, none⟩ = some (.string ⟨t1.toArray⟩) := ⟨hix, c1, cG⟩
      refine wpAnyL_take (i := 0) (v := .slice (some ⟨w.heap.size + 1, 0, none⟩) k ts.length) rfl (by kernel_rfl) (by kernel_rfl) (by kernel_rfl) (by kernel_rfl) (fun _ _ _ h => h) (by rfl) (fun w hSw => by obtain ⟨s1, s2, s3⟩ := hSw; go_simp) hS0 ?_
      simp only [Act.put, List.setIfInBounds_toArray, List.set_cons_zero, List.set_cons_succ]
      refine wpAnyL_take (i := 1) (v := .slice (some ⟨w.heap.size + 1, 0, none⟩) k ts.length) rfl (by kernel_rfl) (by kernel_rfl) (by kernel_rfl) (by kernel_rfl) (fun _ _ _ h => h) (by rfl) (fun w hSw => by obtain ⟨s1, s2, s3⟩ := hSw; go_simp) hS0 ?_
      simp only [Act.put, List.setIfInBounds_toArray, List.set_cons_zero, List.set_cons_succ]
      refine wpAnyL_take (i := 2) (v := .pointer (some ⟨p, 1, none⟩)) rfl (by kernel_rfl) (by kernel_rfl) (by kernel_rfl) (by kernel_rfl) (fun _ _ _ h => h) (by rfl) (fun w hSw => by obtain ⟨s1, s2, s3⟩ := hSw; go_simp) hS0 ?_
      simp only [Act.put, List.setIfInBounds_toArray, List.set_cons_zero, List.set_cons_succ]
      refine wpAnyL_take (i := 3) (v := .int .i64 kf) rfl (by kernel_rfl) (by kernel_rfl) (by kernel_rfl) (by kernel_rfl) (fun _ _ _ h => h) (by rfl) (fun w hSw => by obtain ⟨s1, s2, s3⟩ := hSw; go_simp) hS0 ?_
      simp only [Act.put, List.setIfInBounds_toArray, List.set_cons_zero, List.set_cons_succ]
      refine wpAnyL_take (i := 4) (v := .pointer (some ⟨w.heap.size + 1, kf, none⟩)) rfl (by kernel_rfl) (by kernel_rfl) (by kernel_rfl) (by kernel_rfl) (fun _ _ _ h => h) (by rfl) (fun w hSw => by obtain ⟨s1, s2, s3⟩ := hSw; go_simp) hS0 ?_
      simp only [Act.put, List.setIfInBounds_toArray, List.set_cons_zero, List.set_cons_succ]
      refine wpAnyL_take (i := 5) (v := .string ⟨t1.toArray⟩) rfl (by kernel_rfl) (by kernel_rfl) (by kernel_rfl) (by kernel_rfl) (fun _ _ _ h => h) (by rfl) (fun w hSw => by obtain ⟨s1, s2, s3⟩ := hSw; go_simp) hS0 ?_
      simp only [Act.put, List.setIfInBounds_toArray, List.set_cons_zero, List.set_cons_succ]
      have hSt : ∀ W' : World, W.drew.grownBy W' none → W'.cell? ⟨w1.heap.size, 0, none⟩ = some (.slice (some ⟨w.heap.size + 1, 0, none⟩) k ts.length) ∧ W'.cell? ⟨p, 1, none⟩ = some (.int .i64 kf) ∧ W'.cell? ⟨w.heap.size + 1, kf, none⟩ = some (.string ⟨t1.toArray⟩) := fun W' hg => ⟨hg.cell hS0.1 (by simp), hg.cell hS0.2.1 (by simp), hg.cell hS0.2.2 (by simp)⟩
      have HST := hide hSt
      clear hSt
      refine wpAnyL_one (i := 6) (by kernel_rfl) rfl (by rfl) (fun K hK => ?_)
      go_simp
      refine hK.out _ _ (fun _ => unhide HST _ (World.grownBy_alloc _ _ _)) ?_
      clear hK K
      simp only [Act.put, List.setIfInBounds_toArray, List.set_cons_zero, List.set_cons_succ]
      refine wpAnyL_one (i := 7) (by kernel_rfl) rfl (by rfl) (fun K hK => ?_)
      go_simp
      refine (unhide HAP).mono ?_
      rintro e w3 ⟨rfl, hb3⟩
      have hg3 : W.drew.grownBy w3 none := by
        refine ⟨hb3.os, hb3.tape, hb3.output, ?_, fun q hq _ => (hb3.block q (Nat.lt_succ_of_lt hq)).trans (Below.heap_alloc W _ q hq)⟩
        have h := hb3.size
        simp at h
        exact Nat.le_of_succ_le h
      have HG3 := hide hg3
      clear hb3 hg3
      refine hK.out _ _ (fun _ => unhide HST _ (unhide HG3)) ?_
      clear hK K HAP
      unfold str
      simp only [Act.put, List.setIfInBounds_toArray, List.set_cons_zero, List.set_cons_succ]
      refine wpAnyL_one (i := 8) (by kernel_rfl) rfl (by rfl) (fun K hK => ?_)
      go_simp
      have hg4 : W.drew.grownBy (w3.alloc (.cells #[.string ⟨tn.toArray⟩] 9)) none := (unhide HG3).trans (World.grownBy_alloc _ _ _)
      have HG4 := hide hg4
      clear hg4
      refine hK.out _ _ (fun _ => unhide HST _ (unhide HG4)) ?_
      clear hK K
      simp only [Act.put, List.setIfInBounds_toArray, List.set_cons_zero, List.set_cons_succ]
      refine wpAnyL_one (i := 9) (by kernel_rfl) rfl (by rfl) (fun K hK => ?_)
      refine step_fits (.tmp 24) (.tmp 32) 60 rfl 0 9 i0 1 Try.underlying60 hin hz1 _ _ _ _ rfl (unhide hap _ ⟨(unhide HG4).os, (unhide HG4).tape, (unhide HG4).output, (unhide HG4).size, (unhide HG4).block⟩) _ 1 1 [str tn] rfl rfl (news_one _ _ _) (one_str _) hfit ?_
      intro w4 r1 r2
      have q0 := unhide HST _ (unhide HG4)
      have q1 := r2.cell q0.1 (by simpa using hXG)
      have qG : (w3.alloc (.cells #[.string ⟨tn.toArray⟩] 9)).frozen? ⟨w1.heap.size, 0, none⟩ = false := (World.frozen?_of_block ((unhide HG4).block w1.heap.size hlX (by simp))).trans hifx
      have q2 : w4.frozen? ⟨w1.heap.size, 0, none⟩ = false := (World.frozen?_of_block (r2.block w1.heap.size (Nat.lt_of_lt_of_le hlX (unhide HG4).size) (by simpa using hXG))).trans qG
      refine hK.out _ _ (fun _ => ⟨q1, r2.cell q0.2.1 (by simpa using hp2), ?_⟩) ?_
      · rw [r1.cellAt kf (by omega)]
        have e1 := (unhide hap _ ⟨(unhide HG4).os, (unhide HG4).tape, (unhide HG4).output, (unhide HG4).size, (unhide HG4).block⟩).cellAt kf (by omega)
        rw [q0.2.2] at e1
        rw [List.getElem?_append_left (by obtain ⟨h, _⟩ := List.getElem?_eq_some_iff.1 e1.symm; exact h)]
        exact e1.symm
      clear hK K q0
      simp only [Act.put, List.setIfInBounds_toArray, List.set_cons_zero, List.set_cons_succ]
      refine wpAnyL_one (i := 10) (by kernel_rfl) rfl (by rfl) (fun K hK => ?_)
      go_simp
      refine hK.out _ _ (fun h => absurd rfl h) (wpAnyL_done (by kernel_rfl) ?_ _)
      have htr : Trn w1.heap.size (w.heap.size + 1) W (w3.alloc (.cells #[.string ⟨tn.toArray⟩] 9)) := ⟨(unhide HG4).os, (unhide HG4).tape, (unhide HG4).output, (unhide HG4).size, fun q hq _ _ => (unhide HG4).block q hq (by simp)⟩
      exact arm_close (a := ⟨#[], []⟩) hXB hGB hwX hwG hXG hI htr (unhide HST _ (unhide HG4)).1 qG (by rw [Rdg.texts_length]; exact hk') (by rw [unhide HTX]; exact r1) r2
    · simp only at g1 g2 g3
      subst g1
      have g4 : ((kf : Nat) : Int) < (k : Int) := by omega
      have g5 : ((ks : Nat) : Int) < (k : Int) := by omega
      have htx2 : Rdg.rend (Rdg.texts ts) (103, kf, ks) = appl 103 [(Rdg.texts ts).getD kf [], (Rdg.texts ts).getD ks []] := by simp [appl, Rdg.rend, Lib.join_cons, Lib.joinTail]
      rw [htx2] at HTX
      clear htx2
      simp only [if_true] at c0
      have cG : W.cell? ⟨w.heap.size + 1, kf, none⟩ = some (str ((Rdg.texts ts).getD kf [])) := by
        rw [hI.row.cellAt kf (by omega)]
        simp [List.getD_eq_getElem?_getD, Rdg.texts_length, List.getElem?_take, g2, Nat.lt_trans g2 hk']
      have cH : W.cell? ⟨w.heap.size + 1, ks, none⟩ = some (str ((Rdg.texts ts).getD ks [])) := by
        rw [hI.row.cellAt ks (by omega)]
        simp [List.getD_eq_getElem?_getD, Rdg.texts_length, List.getElem?_take, g3, Nat.lt_trans g3 hk']
      have hlt1 : ((Rdg.texts ts).getD kf []).length ≤ 100 := HLEN kf
      have hlt2 : ((Rdg.texts ts).getD ks []).length ≤ 100 := HLEN ks
      obtain ⟨t1, e1⟩ : ∃ t1, (Rdg.texts ts).getD kf [] = t1 := ⟨_, rfl⟩
      obtain ⟨t2, e2⟩ : ∃ t2, (Rdg.texts ts).getD ks [] = t2 := ⟨_, rfl⟩
      rw [e1] at HTX cG hlt1
      rw [e2] at HTX cH hlt2
      clear e1 e2
      unfold str at cG cH
      have HAP : Hid (Calls Try.prog 31 #[.int .u8 103, .slice (some ⟨W.heap.size, 0, none⟩) 2 2] (W.alloc (.cells #[.string ⟨t1.toArray⟩, .string ⟨t2.toArray⟩] 9)).drew fun e w' => e = .returned (str (appl 103 [t1, t2])) ∧ Below (W.heap.size + 1) (W.alloc (.cells #[.string ⟨t1.toArray⟩, .string ⟨t2.toArray⟩] 9)) w') := by
        have h := applied_any 103 (by decide) [t1, t2] W.heap.size 2 (W.alloc (.cells #[.string ⟨t1.toArray⟩, .string ⟨t2.toArray⟩] 9)).drew (by simp) (by simp) (by simp [Lib.join_cons, Lib.joinTail]; omega) (by simp) (fun j hj => by
          obtain rfl | rfl : j = 0 ∨ j = 1 := by simp at hj; omega
          · simp [go_sem, str]
          · simp [go_sem, str])
        exact h.mono fun e w' ⟨h1, h2⟩ => ⟨h1, ⟨h2.os, h2.tape, h2.output, h2.size, fun q hq => h2.block q (by simpa using hq)⟩⟩
      generalize appl 103 [t1, t2] = tn at HTX HAP
      gi_wp2
      refine region_last (fun W' => W'.cell? ⟨w1.heap.size, 0, none⟩ = some (.slice (some ⟨w.heap.size + 1, 0, none⟩) k ts.length) ∧ W'.cell? ⟨p, 1, none⟩ = some (.int .i64 kf) ∧ W'.cell? ⟨w.heap.size + 1, kf, none⟩ = some (.string ⟨t1.toArray⟩) ∧ W'.cell? ⟨p, 2, none⟩ = some (.int .i64 ks) ∧ W'.cell? ⟨w.heap.size + 1, ks, none⟩ = some (.string ⟨t2.toArray⟩)) 15 16 #[false, false, false, false, false, false, false, false, false, false, false, false, false, false, false, false] (by kernel_rfl) rfl rfl (by kernel_rfl) ?_ ?_
      · rintro ⟨_, _, h⟩; exact h
      have hS0 : W.drew.cell? ⟨w1.heap.size, 0, none⟩ = some (.slice (some ⟨w.heap.size + 1, 0, none⟩) k ts.length) ∧ W.drew.cell? ⟨p, 1, none⟩ = some (.int .i64 kf) ∧ W.drew.cell? ⟨w.heap.size + 1, kf, none⟩ = some (.string ⟨t1.toArray⟩) ∧ W.drew.cell? ⟨p, 2, none⟩ = some (.int .i64 ks) ∧ W.drew.cell? ⟨w.heap.size + 1, ks, none⟩ = some (.string ⟨t2.toArray⟩) := ⟨hix, c1, cG, c2, cH⟩
      refine wpAnyL_take (i := 0) (v := .slice (some ⟨w.heap.size + 1, 0, none⟩) k ts.length) rfl (by kernel_rfl) (by kernel_rfl) (by kernel_rfl) (by kernel_rfl) (fun _ _ _ h => h) (by rfl) (fun w hSw => by obtain ⟨s1, s2, s3, s4, s5⟩ := hSw; go_simp) hS0 ?_
      simp only [Act.put, List.setIfInBounds_toArray, List.set_cons_zero, List.set_cons_succ]
      refine wpAnyL_take (i := 1) (v := .slice (some ⟨w.heap.size + 1, 0, none⟩) k ts.length) rfl (by kernel_rfl) (by kernel_rfl) (by kernel_rfl) (by kernel_rfl) (fun _ _ _ h => h) (by rfl) (fun w hSw => by obtain ⟨s1, s2, s3, s4, s5⟩ := hSw; go_simp) hS0 ?_
      simp only [Act.put, List.setIfInBounds_toArray, List.set_cons_zero, List.set_cons_succ]
      refine wpAnyL_take (i := 2) (v := .pointer (some ⟨p, 1, none⟩)) rfl (by kernel_rfl) (by kernel_rfl) (by kernel_rfl) (by kernel_rfl) (fun _ _ _ h => h) (by rfl) (fun w hSw => by obtain ⟨s1, s2, s3, s4, s5⟩ := hSw; go_simp) hS0 ?_
      simp only [Act.put, List.setIfInBounds_toArray, List.set_cons_zero, List.set_cons_succ]
      refine wpAnyL_take (i := 3) (v := .int .i64 kf) rfl (by kernel_rfl) (by kernel_rfl) (by kernel_rfl) (by kernel_rfl) (fun _ _ _ h => h) (by rfl) (fun w hSw => by obtain ⟨s1, s2, s3, s4, s5⟩ := hSw; go_simp) hS0 ?_
      simp only [Act.put, List.setIfInBounds_toArray, List.set_cons_zero, List.set_cons_succ]
      refine wpAnyL_take (i := 4) (v := .pointer (some ⟨w.heap.size + 1, kf, none⟩)) rfl (by kernel_rfl) (by kernel_rfl) (by kernel_rfl) (by kernel_rfl) (fun _ _ _ h => h) (by rfl) (fun w hSw => by obtain ⟨s1, s2, s3, s4, s5⟩ := hSw; go_simp) hS0 ?_
      simp only [Act.put, List.setIfInBounds_toArray, List.set_cons_zero, List.set_cons_succ]
      refine wpAnyL_take (i := 5) (v := .string ⟨t1.toArray⟩) rfl (by kernel_rfl) (by kernel_rfl) (by kernel_rfl) (by kernel_rfl) (fun _ _ _ h => h) (by rfl) (fun w hSw => by obtain ⟨s1, s2, s3, s4, s5⟩ := hSw; go_simp) hS0 ?_
      simp only [Act.put, List.setIfInBounds_toArray, List.set_cons_zero, List.set_cons_succ]
      refine wpAnyL_take (i := 6) (v := .slice (some ⟨w.heap.size + 1, 0, none⟩) k ts.length) rfl (by kernel_rfl) (by kernel_rfl) (by kernel_rfl) (by kernel_rfl) (fun _ _ _ h => h) (by rfl) (fun w hSw => by obtain ⟨s1, s2, s3, s4, s5⟩ := hSw; go_simp) hS0 ?_
      simp only [Act.put, List.setIfInBounds_toArray, List.set_cons_zero, List.set_cons_succ]
      refine wpAnyL_take (i := 7) (v := .pointer (some ⟨p, 2, none⟩)) rfl (by kernel_rfl) (by kernel_rfl) (by kernel_rfl) (by kernel_rfl) (fun _ _ _ h => h) (by rfl) (fun w hSw => by obtain ⟨s1, s2, s3, s4, s5⟩ := hSw; go_simp) hS0 ?_
      simp only [Act.put, List.setIfInBounds_toArray, List.set_cons_zero, List.set_cons_succ]
      refine wpAnyL_take (i := 8) (v := .int .i64 ks) rfl (by kernel_rfl) (by kernel_rfl) (by kernel_rfl) (by kernel_rfl) (fun _ _ _ h => h) (by rfl) (fun w hSw => by obtain ⟨s1, s2, s3, s4, s5⟩ := hSw; go_simp) hS0 ?_
      simp only [Act.put, List.setIfInBounds_toArray, List.set_cons_zero, List.set_cons_succ]
      refine wpAnyL_take (i := 9) (v := .pointer (some ⟨w.heap.size + 1, ks, none⟩)) rfl (by kernel_rfl) (by kernel_rfl) (by kernel_rfl) (by kernel_rfl) (fun _ _ _ h => h) (by rfl) (fun w hSw => by obtain ⟨s1, s2, s3, s4, s5⟩ := hSw; go_simp) hS0 ?_
      simp only [Act.put, List.setIfInBounds_toArray, List.set_cons_zero, List.set_cons_succ]
      refine wpAnyL_take (i := 10) (v := .string ⟨t2.toArray⟩) rfl (by kernel_rfl) (by kernel_rfl) (by kernel_rfl) (by kernel_rfl) (fun _ _ _ h => h) (by rfl) (fun w hSw => by obtain ⟨s1, s2, s3, s4, s5⟩ := hSw; go_simp) hS0 ?_
      simp only [Act.put, List.setIfInBounds_toArray, List.set_cons_zero, List.set_cons_succ]
      have hSt : ∀ W' : World, W.drew.grownBy W' none → W'.cell? ⟨w1.heap.size, 0, none⟩ = some (.slice (some ⟨w.heap.size + 1, 0, none⟩) k ts.length) ∧ W'.cell? ⟨p, 1, none⟩ = some (.int .i64 kf) ∧ W'.cell? ⟨w.heap.size + 1, kf, none⟩ = some (.string ⟨t1.toArray⟩) ∧ W'.cell? ⟨p, 2, none⟩ = some (.int .i64 ks) ∧ W'.cell? ⟨w.heap.size + 1, ks, none⟩ = some (.string ⟨t2.toArray⟩) := fun W' hg => ⟨hg.cell hS0.1 (by simp), hg.cell hS0.2.1 (by simp), hg.cell hS0.2.2.1 (by simp), hg.cell hS0.2.2.2.1 (by simp), hg.cell hS0.2.2.2.2 (by simp)⟩
      have HST := hide hSt
      clear hSt
      refine wpAnyL_one (i := 11) (by kernel_rfl) rfl (by rfl) (fun K hK => ?_)
      go_simp
      refine hK.out _ _ (fun _ => unhide HST _ (World.grownBy_alloc _ _ _)) ?_
      clear hK K
      simp only [Act.put, List.setIfInBounds_toArray, List.set_cons_zero, List.set_cons_succ]
      refine wpAnyL_one (i := 12) (by kernel_rfl) rfl (by rfl) (fun K hK => ?_)
      go_simp
      refine (unhide HAP).mono ?_
      rintro e w3 ⟨rfl, hb3⟩
      have hg3 : W.drew.grownBy w3 none := by
        refine ⟨hb3.os, hb3.tape, hb3.output, ?_, fun q hq _ => (hb3.block q (Nat.lt_succ_of_lt hq)).trans (Below.heap_alloc W _ q hq)⟩
        have h := hb3.size
        simp at h
        exact Nat.le_of_succ_le h
      have HG3 := hide hg3
      clear hb3 hg3
      refine hK.out _ _ (fun _ => unhide HST _ (unhide HG3)) ?_
      clear hK K HAP
      unfold str
      simp only [Act.put, List.setIfInBounds_toArray, List.set_cons_zero, List.set_cons_succ]
      refine wpAnyL_one (i := 13) (by kernel_rfl) rfl (by rfl) (fun K hK => ?_)
      go_simp
      have hg4 : W.drew.grownBy (w3.alloc (.cells #[.string ⟨tn.toArray⟩] 9)) none := (unhide HG3).trans (World.grownBy_alloc _ _ _)
      have HG4 := hide hg4
      clear hg4
      refine hK.out _ _ (fun _ => unhide HST _ (unhide HG4)) ?_
      clear hK K
      simp only [Act.put, List.setIfInBounds_toArray, List.set_cons_zero, List.set_cons_succ]
      refine wpAnyL_one (i := 14) (by kernel_rfl) rfl (by rfl) (fun K hK => ?_)
      refine step_fits (.tmp 36) (.tmp 49) 60 rfl 0 9 i0 1 Try.underlying60 hin hz1 _ _ _ _ rfl (unhide hap _ ⟨(unhide HG4).os, (unhide HG4).tape, (unhide HG4).output, (unhide HG4).size, (unhide HG4).block⟩) _ 1 1 [str tn] rfl rfl (news_one _ _ _) (one_str _) hfit ?_
      intro w4 r1 r2
      have q0 := unhide HST _ (unhide HG4)
      have q1 := r2.cell q0.1 (by simpa using hXG)
      have qG : (w3.alloc (.cells #[.string ⟨tn.toArray⟩] 9)).frozen? ⟨w1.heap.size, 0, none⟩ = false := (World.frozen?_of_block ((unhide HG4).block w1.heap.size hlX (by simp))).trans hifx
      have q2 : w4.frozen? ⟨w1.heap.size, 0, none⟩ = false := (World.frozen?_of_block (r2.block w1.heap.size (Nat.lt_of_lt_of_le hlX (unhide HG4).size) (by simpa using hXG))).trans qG
      refine hK.out _ _ (fun _ => ⟨q1, r2.cell q0.2.1 (by simpa using hp2), ?_, r2.cell q0.2.2.2.1 (by simpa using hp2), ?_⟩) ?_
      · rw [r1.cellAt kf (by omega)]
        have e1 := (unhide hap _ ⟨(unhide HG4).os, (unhide HG4).tape, (unhide HG4).output, (unhide HG4).size, (unhide HG4).block⟩).cellAt kf (by omega)
        rw [q0.2.2.1] at e1
        rw [List.getElem?_append_left (by obtain ⟨h, _⟩ := List.getElem?_eq_some_iff.1 e1.symm; exact h)]
        exact e1.symm
      · rw [r1.cellAt ks (by omega)]
        have e1 := (unhide hap _ ⟨(unhide HG4).os, (unhide HG4).tape, (unhide HG4).output, (unhide HG4).size, (unhide HG4).block⟩).cellAt ks (by omega)
        rw [q0.2.2.2.2] at e1
        rw [List.getElem?_append_left (by obtain ⟨h, _⟩ := List.getElem?_eq_some_iff.1 e1.symm; exact h)]
        exact e1.symm
      clear hK K q0
      simp only [Act.put, List.setIfInBounds_toArray, List.set_cons_zero, List.set_cons_succ]
      refine wpAnyL_one (i := 15) (by kernel_rfl) rfl (by rfl) (fun K hK => ?_)
      go_simp
      refine hK.out _ _ (fun h => absurd rfl h) (wpAnyL_done (by kernel_rfl) ?_ _)
      have htr : Trn w1.heap.size (w.heap.size + 1) W (w3.alloc (.cells #[.string ⟨tn.toArray⟩] 9)) := ⟨(unhide HG4).os, (unhide HG4).tape, (unhide HG4).output, (unhide HG4).size, fun q hq _ _ => (unhide HG4).block q hq (by simp)⟩
      exact arm_close (a := ⟨#[], []⟩) hXB hGB hwX hwG hXG hI htr (unhide HST _ (unhide HG4)).1 qG (by rw [Rdg.texts_length]; exact hk') (by rw [unhide HTX]; exact r1) r2
  case done =>
    intro D W hD hI hdef
    have hx := hI.x
    gi_wp2
    refine ⟨by simp, .inl ⟨_, _, rfl, run_takeDeferred hdef, ?_⟩⟩
    refine ⟨_, results_tmp rfl _ _ _, ?_⟩
    have hlt := hI.lt
    have hI2 := (TI.own w2.heap.size (by omega) (by omega) (by omega)).putObj (.deferred none) hI hD hdef rfl
    refine ⟨w.heap.size + 1, rfl, by omega, hI2.lt.2, hI2.below, fun j hj => ?_⟩
    rw [hI2.row.cellAt j (by simpa using hj)]
    simp [List.getD_eq_getElem?_getD, Rdg.texts_length, hj]

end Go.Proofs.Ythfjhjghohincaa
