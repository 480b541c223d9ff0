import Derived.Test.YthcppbmkacbbiaaGreatCandY
import Derived.Test.YthcppbmkacbbiaaGreatCandK
import Derived.Test.YthcppbmkacbbiaaGreatLawC
namespace Go.Proofs.YthcppbmkacbbiaaGreat
open Go.RowKit Go.Maps Go.WideMaps
open Rdg (Key put St)

set_option maxHeartbeats 400000 in
theorem parts_bad (w : World) (s : ByteArray) (hm : s.size ≤ maxLen) (hE : (chk s).1 ≠ 0) :
    Calls Tryz.prog 37 #[.string s] w fun e w' => e = .returned (.tuple #[.string ⟨#[]⟩, .int .i64 (chk s).1]) ∧ Below w.heap.size w w' := by
  have HR := hide (fun w => read_chk w s hm)
  generalize chk s = c at HR hE
  have hb : (c.1 != 0) = true := by simpa using hE
  go_enter Tryz.func37, Tryz.ntmps37
  go_wp2_with fail
  refine ((unhide HR) _).mono ?_
  rintro e w1 ⟨⟨p0, n0, c0, p1, n1, c1, p2, n2, c2, rfl⟩, h1⟩
  go_wp2_with fail
  go_ret2
  exact ⟨rfl, h1.alloc h1.size _⟩

set_option maxHeartbeats 400000 in
theorem parts_ok (w : World) (s : ByteArray) (hs : s.size ≤ 100) (ts : List Key) (cs : List (Int × Nat)) (ps : List Key) (m : Nat) (HR : Rdg.rdP (pk s) (s.size + 1) 0 0 [] [] [] = .ok (s.size, ts, cs, ps, m)) (h7 : ts.length ≤ 7) (h4 : cs.length ≤ 4) (hi : Rdg.Inv ts) (hic : Rdg.InvC ts cs)
    (hT : ∀ t ∈ Rdg.texts ts, t.length ≤ 100) (hC : ∀ t ∈ ctx ts cs, t.length ≤ 100) (hnd : cs.Nodup) (hip : Rdg.InvP ts.length cs.length ps) (hp : ps.length ≤ 100) :
    Calls Tryz.prog 37 #[.string s] w fun e w' => e = .returned (.tuple #[str (spc (Rdg.texts ts) ++ 47 :: spc (ctx ts cs)), .int .i64 0]) ∧ Below w.heap.size w w' := by
  have HO := hide (read_right w s hs ts cs ps m HR h7 h4 hi hic hnd hip hp)
  have HLEN : ∀ i, ((Rdg.texts ts).getD i []).length ≤ 100 := fun i => by
    by_cases hlt : i < (Rdg.texts ts).length
    · exact hT _ (Rdg.getD_mem hlt)
    · rw [List.getD_eq_getElem?_getD, List.getElem?_eq_none (by omega)]; simp
  have HX : Hid (∀ (GT GC GP : Nat) (w2 : World), RowsT w2 GT ts → RowsC w2 GC cs → Calls Tryz.prog 57 #[fv GT GC GP ts.length cs.length ps.length] w2 fun e w' => e = .returned (str (spc (Rdg.texts ts) ++ 47 :: spc (ctx ts cs))) ∧ Below w2.heap.size w2 w') := fun GT GC GP w2 r1 r2 =>
    text_any GT GC GP ps.length ts cs w2 h7 r1 r2 hi HLEN h4 hic hC
  unfold str at HX ⊢
  generalize spc (Rdg.texts ts) ++ 47 :: spc (ctx ts cs) = x at HX
  clear hT hC HLEN hnd hi hic HR hip
  unfold fv at HO HX
  go_enter Tryz.func37, Tryz.ntmps37
  go_wp2_with fail
  refine (unhide HO).mono ?_
  rintro e w1 ⟨GT, GC, GP, rfl, h1, hfr⟩
  have hT1 := rowT_of hfr.t
  have hC1 := rowC_of hfr.c
  have M1 := hide hT1
  have M2 := hide hC1
  clear hT1 hC1 HO hfr
  go_wp2_with fail
  have hbn := (Below.refl w1.heap.size w1).alloc (Nat.le_refl _) (.cells #[.slice (some ⟨GT, 0, none⟩) ts.length ts.length, .slice (some ⟨GC, 0, none⟩) cs.length cs.length, .slice (some ⟨GP, 0, none⟩) ps.length ps.length] 54)
  refine (unhide HX GT GC GP _ ((unhide M1).below hbn (unhide M1).1) ((unhide M2).below hbn (unhide M2).1)).mono ?_
  rintro e w3 ⟨rfl, h3⟩
  go_wp2_with fail
  go_ret2
  refine ⟨rfl, ?_⟩
  have hsz := h1.size
  exact (h1.trans (hbn.mono hsz)).trans (h3.mono (by simp; omega))

end Go.Proofs.YthcppbmkacbbiaaGreat
