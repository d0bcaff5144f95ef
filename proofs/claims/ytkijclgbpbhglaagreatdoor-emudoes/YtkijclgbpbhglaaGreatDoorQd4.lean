/-
  Contracts and plain mathematics of CRight, CRRight, CRMark, Rws.
-/
import Derived.Test.YtkijclgbpbhglaaGreatDoorQd3
import Derived.Test.YtkijclgbpbhglaaGreatDoorQd1
namespace Go.Proofs.YtkijclgbpbhglaaGreatDoor
set_option maxRecDepth 100000
set_option linter.unusedVariables false
set_option maxHeartbeats 8000000
section
open Go.ChangeShapes Go.WideShapes Go.ChangeAt Go.RowKit
theorem rightC_pen (c : Cel) (h : rightN c.p = false) : rightC c = false := by unfold rightC; rw [h]; rfl
theorem rightC_half (r m n : Int) (d f g b : Nat) (h : rightN ⟨f, g, b⟩ = true) (h0 : d = 0) : rightC ⟨r, m, n, d, ⟨f, g, b⟩⟩ = decide (r = 0 ∧ m = 0 ∧ n = 0) := by unfold rightC; simp only [h, Bool.true_and]; rw [if_pos h0]
theorem rightC_bears (r m n : Int) (d f g b : Nat) (h : rightN ⟨f, g, b⟩ = true) (h0 : d = 1 ∨ d = 2) : rightC ⟨r, m, n, d, ⟨f, g, b⟩⟩ = (decide (wOf r = d) && marksC m n) := by
 unfold rightC; simp only [h, Bool.true_and]; rw [if_neg (by omega), if_pos]; unfold bearsC; simpa using h0
theorem rightC_more (r m n : Int) (d f g b : Nat) (h0 : ¬ d = 0) (h1 : ¬ d = 1) (h2 : ¬ d = 2) : rightC ⟨r, m, n, d, ⟨f, g, b⟩⟩ = false := by
 unfold rightC; rw [if_neg h0, if_neg]; simp; unfold bearsC; simp [h1, h2]
theorem one_new (w : World) (t : TypeId) (l : List Value) : Below w.heap.size w (w.alloc (.cells l.toArray t)) := (Below.refl _ _).alloc (Nat.le_refl _) _
theorem cright_any (r m n : Int) (d f g b : Nat) (hd : d < 256) (w : World) (hS : Spans w) : Calls Tryz.prog 91 #[.agg #[.int .i32 r, .int .i32 m, .int .i32 n, .int .u8 d, .int .u8 f, .int .u8 g, .int .u8 b]] w (Said (rightC ⟨r, m, n, d, ⟨f, g, b⟩⟩) w) := by
 obtain ⟨W0, hW0⟩ := exq (w.alloc (.cells #[.int .i32 r, .int .i32 m, .int .i32 n, .int .u8 d, .int .u8 f, .int .u8 g, .int .u8 b] 73))
 have HS : Hid (Spans W0) := by unfold Hid; rw [← hW0]; exact hS.alloc _
 have HB : Hid (Below w.heap.size w W0) := by unfold Hid; rw [← hW0]; exact one_new w _ [.int .i32 r, .int .i32 m, .int .i32 n, .int .u8 d, .int .u8 f, .int .u8 g, .int .u8 b]
 have HC : Hid (Whole W0 w.heap.size 73 [.int .i32 r, .int .i32 m, .int .i32 n, .int .u8 d, .int .u8 f, .int .u8 g, .int .u8 b]) := by unfold Hid; rw [← hW0]; exact Whole.new _ _ _
 have HW0 := hide hW0; clear hS hW0
 have hd1 : (0 : Int) ≤ (d : Int) := by omega
 have hd2 : (d : Int) ≤ 255 := by omega
 have eC := eqlCell
 cases hp : rightN ⟨f, g, b⟩
 case false =>
  have E := hide (rightC_pen ⟨r, m, n, d, ⟨f, g, b⟩⟩ hp)
  have HP := hide hp; clear hp
  go_enter Tryz.func91, Tryz.ntmps91
  go_wp2_with fail
  rw [HW0.out]
  refine (right_any f g b _).mono ?_
  rintro e w1 ⟨rfl, hb1⟩
  rw [HP.out]
  have HC1 := hide (HC.out.later hb1)
  have HS1 := hide (HS.out.below hb1)
  have HB1 := hide (HB.out.trans (hb1.mono HB.out.size))
  obtain ⟨c0, c1, c2, c3, c4, c5, c6, cz⟩ := cells7 HC1.out
  clear hb1 cz; go_wp2; go_ret
  exact ⟨ret_bool E.out.symm, HB1.out⟩
 case true =>
  have HP := hide hp
  by_cases h0 : d = 0
  ·have E := hide (rightC_half r m n d f g b hp h0)
   have e0 : ((d : Int) == 0) = true := by simp; omega
   have HD0 := hide h0; clear hp h0
   go_enter Tryz.func91, Tryz.ntmps91
   go_wp2_with fail
   rw [HW0.out]
   refine (right_any f g b _).mono ?_
   rintro e w1 ⟨rfl, hb1⟩
   rw [HP.out]
   have HC1 := hide (HC.out.later hb1)
   have HS1 := hide (HS.out.below hb1)
   have HB1 := hide (HB.out.trans (hb1.mono HB.out.size))
   obtain ⟨c0, c1, c2, c3, c4, c5, c6, cz⟩ := cells7 HC1.out
   clear hb1 cz; go_wp2
   refine rgH (fun w' => Below w1.heap.size w1 w') [(true, 0), (false, 1), (false, 2), (false, 3), (false, 4)] bd1 ?_
   refine stH (hy := fun w hS => by obtain ⟨a0, a1, a2, a3, a4, a5, a6, -⟩ := cells7 (HC1.out.later hS); go_simp <;> with_reducible rfl) (h := ?_)
   refine alH fun K hK => ?_
   go_wp2
   refine hK.out _ _ bd1 ?_
   clear hK K
   refine alH fun K hK => ?_
   go_wp2_with fail
   refine (rest_any r m n d f g b _).mono ?_
   rintro e w2 ⟨rfl, hb⟩
   have Bw2 : Below w1.heap.size w1 w2 := bd1.trans hb
   clear hb; go_wp2
   refine hK.out _ _ Bw2 ?_
   clear hK K
   refine alH fun K hK => ?_
   go_wp2
   refine hK.out _ _ Bw2 ?_
   clear hK K
   refine alH fun K hK => ?_
   go_wp2
   refine hK.out _ _ Bw2 ?_
   clear hK K
   refine chainH_nil ?_
   go_wp2; go_ret
   exact ⟨ret_bool (by rw [E.out, eqC_iff, HD0.out]; simp [restC]), HB1.out.trans (Bw2.mono HB1.out.size)⟩
  ·have e0 : ((d : Int) == 0) = false := by simp; omega
   by_cases h1 : d = 1
   ·have E := hide (rightC_bears r m n d f g b hp (.inl h1))
    have e1 : ((d : Int) == 1) = true := by simp; omega
    obtain ⟨P1, hP1⟩ := exq (wOf r)
    have HX := hide hP1
    by_cases hq : P1 = d
    ·have hqq : (P1 == (d : Int)) = true := by simpa using hq
     have E2 : Hid (rightC ⟨r, m, n, d, ⟨f, g, b⟩⟩ = marksC m n) := by unfold Hid; rw [E.out, HX.out, decide_eq_true hq]; rfl
     clear hp hP1 hq h0 h1
     go_enter Tryz.func91, Tryz.ntmps91
     go_wp2_with fail
     rw [HW0.out]
     refine (right_any f g b _).mono ?_
     rintro e w1 ⟨rfl, hb1⟩
     rw [HP.out]
     have HC1 := hide (HC.out.later hb1)
     have HS1 := hide (HS.out.below hb1)
     have HB1 := hide (HB.out.trans (hb1.mono HB.out.size))
     obtain ⟨c0, c1, c2, c3, c4, c5, c6, cz⟩ := cells7 HC1.out
     clear hb1 cz; go_wp2
     refine rgH (fun w' => Below w1.heap.size w1 w') [(true, 0), (true, 3), (true, 1), (true, 4), (true, 5), (false, 2), (false, 6), (false, 7), (false, 8), (false, 9), (false, 10), (false, 11), (false, 12)] bd1 ?_
     refine stH (h := ?_)
     refine stH (h := ?_)
     refine stH (hy := fun w hS => by obtain ⟨a0, a1, a2, a3, a4, a5, a6, -⟩ := cells7 (HC1.out.later hS); go_simp <;> with_reducible rfl) (h := ?_)
     refine stH (hy := fun w hS => by obtain ⟨a0, a1, a2, a3, a4, a5, a6, -⟩ := cells7 (HC1.out.later hS); go_simp <;> with_reducible rfl) (h := ?_)
     refine stH (h := ?_)
     refine alH fun K hK => ?_
     go_wp2_with fail
     refine (of_any r _ (HS1.out.drewN 1)).mono ?_
     rintro e w2 ⟨rfl, hb⟩
     rw [HX.out]
     have Bw2 : Below w1.heap.size w1 w2 := bd1.trans hb
     clear hb
     obtain ⟨i0, i1, i2, i3, i4, i5, i6, -⟩ := cells7 (HC1.out.later Bw2)
     go_wp2
     refine hK.out _ _ Bw2 ?_
     clear hK K
     refine alH fun K hK => ?_
     go_wp2
     refine hK.out _ _ Bw2 ?_
     clear hK K
     refine alH fun K hK => ?_
     go_wp2
     refine hK.out _ _ Bw2 ?_
     clear hK K
     refine alH fun K hK => ?_
     go_wp2
     refine hK.out _ _ Bw2 ?_
     clear hK K
     refine alH fun K hK => ?_
     go_wp2
     refine hK.out _ _ Bw2 ?_
     clear hK K
     refine alH fun K hK => ?_
     go_wp2_with fail
     refine (rmarks_any m n _ (HS1.out.below Bw2)).mono ?_
     rintro e w3 ⟨rfl, hb⟩
     have Bw3 : Below w1.heap.size w1 w3 := Bw2.trans (hb.mono Bw2.size)
     clear hb; go_wp2
     refine hK.out _ _ Bw3 ?_
     clear hK K
     refine alH fun K hK => ?_
     go_wp2
     refine hK.out _ _ Bw3 ?_
     clear hK K
     refine alH fun K hK => ?_
     go_wp2
     refine hK.out _ _ Bw3 ?_
     clear hK K
     refine chainH_nil ?_
     go_wp2; go_ret
     exact ⟨ret_bool E2.out.symm, HB1.out.trans (Bw3.mono HB1.out.size)⟩
    ·have hqq : (P1 == (d : Int)) = false := by simpa using hq
     have E2 : Hid (rightC ⟨r, m, n, d, ⟨f, g, b⟩⟩ = false) := by unfold Hid; rw [E.out, HX.out, decide_eq_false hq]; rfl
     clear hp hP1 hq h0 h1
     go_enter Tryz.func91, Tryz.ntmps91
     go_wp2_with fail
     rw [HW0.out]
     refine (right_any f g b _).mono ?_
     rintro e w1 ⟨rfl, hb1⟩
     rw [HP.out]
     have HC1 := hide (HC.out.later hb1)
     have HS1 := hide (HS.out.below hb1)
     have HB1 := hide (HB.out.trans (hb1.mono HB.out.size))
     obtain ⟨c0, c1, c2, c3, c4, c5, c6, cz⟩ := cells7 HC1.out
     clear hb1 cz; go_wp2
     refine rgH (fun w' => Below w1.heap.size w1 w') [(true, 0), (true, 3), (true, 1), (true, 4), (true, 5), (false, 2), (false, 6), (false, 7), (false, 8), (false, 9), (false, 10), (false, 11), (false, 12)] bd1 ?_
     refine stH (h := ?_)
     refine stH (h := ?_)
     refine stH (hy := fun w hS => by obtain ⟨a0, a1, a2, a3, a4, a5, a6, -⟩ := cells7 (HC1.out.later hS); go_simp <;> with_reducible rfl) (h := ?_)
     refine stH (hy := fun w hS => by obtain ⟨a0, a1, a2, a3, a4, a5, a6, -⟩ := cells7 (HC1.out.later hS); go_simp <;> with_reducible rfl) (h := ?_)
     refine stH (h := ?_)
     refine alH fun K hK => ?_
     go_wp2_with fail
     refine (of_any r _ (HS1.out.drewN 1)).mono ?_
     rintro e w2 ⟨rfl, hb⟩
     rw [HX.out]
     have Bw2 : Below w1.heap.size w1 w2 := bd1.trans hb
     clear hb
     obtain ⟨i0, i1, i2, i3, i4, i5, i6, -⟩ := cells7 (HC1.out.later Bw2)
     go_wp2
     refine hK.out _ _ Bw2 ?_
     clear hK K
     refine alH fun K hK => ?_
     go_wp2
     refine hK.out _ _ Bw2 ?_
     clear hK K
     refine alH fun K hK => ?_
     go_wp2
     refine hK.out _ _ Bw2 ?_
     clear hK K
     rw [hqq]
     refine paH Bw2 (h := ?_)
     refine paH Bw2 (h := ?_)
     refine paH Bw2 (h := ?_)
     refine alH fun K hK => ?_
     go_wp2
     refine hK.out _ _ Bw2 ?_
     clear hK K
     refine alH fun K hK => ?_
     go_wp2
     refine hK.out _ _ Bw2 ?_
     clear hK K
     refine chainH_nil ?_
     go_wp2; go_ret
     exact ⟨ret_bool E2.out.symm, HB1.out.trans (Bw2.mono HB1.out.size)⟩
   ·have e1 : ((d : Int) == 1) = false := by simp; omega
    by_cases h2 : d = 2
    ·have E := hide (rightC_bears r m n d f g b hp (.inr h2))
     have e2 : ((d : Int) == 2) = true := by simp; omega
     obtain ⟨P1, hP1⟩ := exq (wOf r)
     have HX := hide hP1
     by_cases hq : P1 = d
     ·have hqq : (P1 == (d : Int)) = true := by simpa using hq
      have E2 : Hid (rightC ⟨r, m, n, d, ⟨f, g, b⟩⟩ = marksC m n) := by unfold Hid; rw [E.out, HX.out, decide_eq_true hq]; rfl
      clear hp hP1 hq h0 h1 h2
      go_enter Tryz.func91, Tryz.ntmps91
      go_wp2_with fail
      rw [HW0.out]
      refine (right_any f g b _).mono ?_
      rintro e w1 ⟨rfl, hb1⟩
      rw [HP.out]
      have HC1 := hide (HC.out.later hb1)
      have HS1 := hide (HS.out.below hb1)
      have HB1 := hide (HB.out.trans (hb1.mono HB.out.size))
      obtain ⟨c0, c1, c2, c3, c4, c5, c6, cz⟩ := cells7 HC1.out
      clear hb1 cz; go_wp2
      refine rgH (fun w' => Below w1.heap.size w1 w') [(true, 0), (true, 3), (true, 1), (true, 4), (true, 5), (false, 2), (false, 6), (false, 7), (false, 8), (false, 9), (false, 10), (false, 11), (false, 12)] bd1 ?_
      refine stH (h := ?_)
      refine stH (h := ?_)
      refine stH (hy := fun w hS => by obtain ⟨a0, a1, a2, a3, a4, a5, a6, -⟩ := cells7 (HC1.out.later hS); go_simp <;> with_reducible rfl) (h := ?_)
      refine stH (hy := fun w hS => by obtain ⟨a0, a1, a2, a3, a4, a5, a6, -⟩ := cells7 (HC1.out.later hS); go_simp <;> with_reducible rfl) (h := ?_)
      refine stH (h := ?_)
      refine alH fun K hK => ?_
      go_wp2_with fail
      refine (of_any r _ (HS1.out.drewN 1)).mono ?_
      rintro e w2 ⟨rfl, hb⟩
      rw [HX.out]
      have Bw2 : Below w1.heap.size w1 w2 := bd1.trans hb
      clear hb
      obtain ⟨i0, i1, i2, i3, i4, i5, i6, -⟩ := cells7 (HC1.out.later Bw2)
      go_wp2
      refine hK.out _ _ Bw2 ?_
      clear hK K
      refine alH fun K hK => ?_
      go_wp2
      refine hK.out _ _ Bw2 ?_
      clear hK K
      refine alH fun K hK => ?_
      go_wp2
      refine hK.out _ _ Bw2 ?_
      clear hK K
      refine alH fun K hK => ?_
      go_wp2
      refine hK.out _ _ Bw2 ?_
      clear hK K
      refine alH fun K hK => ?_
      go_wp2
      refine hK.out _ _ Bw2 ?_
      clear hK K
      refine alH fun K hK => ?_
      go_wp2_with fail
      refine (rmarks_any m n _ (HS1.out.below Bw2)).mono ?_
      rintro e w3 ⟨rfl, hb⟩
      have Bw3 : Below w1.heap.size w1 w3 := Bw2.trans (hb.mono Bw2.size)
      clear hb; go_wp2
      refine hK.out _ _ Bw3 ?_
      clear hK K
      refine alH fun K hK => ?_
      go_wp2
      refine hK.out _ _ Bw3 ?_
      clear hK K
      refine alH fun K hK => ?_
      go_wp2
      refine hK.out _ _ Bw3 ?_
      clear hK K
      refine chainH_nil ?_
      go_wp2; go_ret
      exact ⟨ret_bool E2.out.symm, HB1.out.trans (Bw3.mono HB1.out.size)⟩
     ·have hqq : (P1 == (d : Int)) = false := by simpa using hq
      have E2 : Hid (rightC ⟨r, m, n, d, ⟨f, g, b⟩⟩ = false) := by unfold Hid; rw [E.out, HX.out, decide_eq_false hq]; rfl
      clear hp hP1 hq h0 h1 h2
      go_enter Tryz.func91, Tryz.ntmps91
      go_wp2_with fail
      rw [HW0.out]
      refine (right_any f g b _).mono ?_
      rintro e w1 ⟨rfl, hb1⟩
      rw [HP.out]
      have HC1 := hide (HC.out.later hb1)
      have HS1 := hide (HS.out.below hb1)
      have HB1 := hide (HB.out.trans (hb1.mono HB.out.size))
      obtain ⟨c0, c1, c2, c3, c4, c5, c6, cz⟩ := cells7 HC1.out
      clear hb1 cz; go_wp2
      refine rgH (fun w' => Below w1.heap.size w1 w') [(true, 0), (true, 3), (true, 1), (true, 4), (true, 5), (false, 2), (false, 6), (false, 7), (false, 8), (false, 9), (false, 10), (false, 11), (false, 12)] bd1 ?_
      refine stH (h := ?_)
      refine stH (h := ?_)
      refine stH (hy := fun w hS => by obtain ⟨a0, a1, a2, a3, a4, a5, a6, -⟩ := cells7 (HC1.out.later hS); go_simp <;> with_reducible rfl) (h := ?_)
      refine stH (hy := fun w hS => by obtain ⟨a0, a1, a2, a3, a4, a5, a6, -⟩ := cells7 (HC1.out.later hS); go_simp <;> with_reducible rfl) (h := ?_)
      refine stH (h := ?_)
      refine alH fun K hK => ?_
      go_wp2_with fail
      refine (of_any r _ (HS1.out.drewN 1)).mono ?_
      rintro e w2 ⟨rfl, hb⟩
      rw [HX.out]
      have Bw2 : Below w1.heap.size w1 w2 := bd1.trans hb
      clear hb
      obtain ⟨i0, i1, i2, i3, i4, i5, i6, -⟩ := cells7 (HC1.out.later Bw2)
      go_wp2
      refine hK.out _ _ Bw2 ?_
      clear hK K
      refine alH fun K hK => ?_
      go_wp2
      refine hK.out _ _ Bw2 ?_
      clear hK K
      refine alH fun K hK => ?_
      go_wp2
      refine hK.out _ _ Bw2 ?_
      clear hK K
      rw [hqq]
      refine paH Bw2 (h := ?_)
      refine paH Bw2 (h := ?_)
      refine paH Bw2 (h := ?_)
      refine alH fun K hK => ?_
      go_wp2
      refine hK.out _ _ Bw2 ?_
      clear hK K
      refine alH fun K hK => ?_
      go_wp2
      refine hK.out _ _ Bw2 ?_
      clear hK K
      refine chainH_nil ?_
      go_wp2; go_ret
      exact ⟨ret_bool E2.out.symm, HB1.out.trans (Bw2.mono HB1.out.size)⟩
    ·have e2 : ((d : Int) == 2) = false := by simp; omega
     have E := hide (rightC_more r m n d f g b h0 h1 h2)
     clear hp h0 h1 h2
     go_enter Tryz.func91, Tryz.ntmps91
     go_wp2_with fail
     rw [HW0.out]
     refine (right_any f g b _).mono ?_
     rintro e w1 ⟨rfl, hb1⟩
     rw [HP.out]
     have HC1 := hide (HC.out.later hb1)
     have HS1 := hide (HS.out.below hb1)
     have HB1 := hide (HB.out.trans (hb1.mono HB.out.size))
     obtain ⟨c0, c1, c2, c3, c4, c5, c6, cz⟩ := cells7 HC1.out
     clear hb1 cz; go_wp2; go_ret
     exact ⟨ret_bool E.out.symm, HB1.out⟩
theorem rcright_any (r m n : Int) (d f g b : Nat) (hd : d < 256) (w : World) : Calls Tryz.prog 186 #[.agg #[.int .i64 r, .int .i64 m, .int .i64 n, .int .u8 d, .int .u8 f, .int .u8 g, .int .u8 b]] w (Said (rightC ⟨r, m, n, d, ⟨f, g, b⟩⟩) w) := by
 obtain ⟨W0, hW0⟩ := exq (w.alloc (.cells #[.int .i64 r, .int .i64 m, .int .i64 n, .int .u8 d, .int .u8 f, .int .u8 g, .int .u8 b] 166))
 have HB : Hid (Below w.heap.size w W0) := by unfold Hid; rw [← hW0]; exact one_new w _ [.int .i64 r, .int .i64 m, .int .i64 n, .int .u8 d, .int .u8 f, .int .u8 g, .int .u8 b]
 have HC : Hid (Whole W0 w.heap.size 166 [.int .i64 r, .int .i64 m, .int .i64 n, .int .u8 d, .int .u8 f, .int .u8 g, .int .u8 b]) := by unfold Hid; rw [← hW0]; exact Whole.new _ _ _
 have HW0 := hide hW0; clear hW0
 have hd1 : (0 : Int) ≤ (d : Int) := by omega
 have hd2 : (d : Int) ≤ 255 := by omega
 cases hp : rightN ⟨f, g, b⟩
 case false =>
  have E := hide (rightC_pen ⟨r, m, n, d, ⟨f, g, b⟩⟩ hp)
  have HP := hide hp; clear hp
  go_enter Tryz.func186, Tryz.ntmps186
  go_wp2_with fail
  rw [HW0.out]
  refine (rright_any f g b _).mono ?_
  rintro e w1 ⟨rfl, hb1⟩
  rw [HP.out]
  have HC1 := hide (HC.out.later hb1)
  have HB1 := hide (HB.out.trans (hb1.mono HB.out.size))
  obtain ⟨c0, c1, c2, c3, c4, c5, c6, cz⟩ := cells7 HC1.out
  clear hb1 cz; go_wp2; go_ret
  exact ⟨ret_bool E.out.symm, HB1.out⟩
 case true =>
  have HP := hide hp
  by_cases h3 : (2 : Int) < (d : Int)
  ·have E := hide (rightC_more r m n d f g b (by omega) (by omega) (by omega))
   clear hp
   go_enter Tryz.func186, Tryz.ntmps186
   go_wp2_with fail
   rw [HW0.out]
   refine (rright_any f g b _).mono ?_
   rintro e w1 ⟨rfl, hb1⟩
   rw [HP.out]
   have HC1 := hide (HC.out.later hb1)
   have HB1 := hide (HB.out.trans (hb1.mono HB.out.size))
   obtain ⟨c0, c1, c2, c3, c4, c5, c6, cz⟩ := cells7 HC1.out
   clear hb1 cz; go_wp2; go_ret
   exact ⟨ret_bool E.out.symm, HB1.out⟩
  ·by_cases h0 : d = 0
   ·have E := hide (rightC_half r m n d f g b hp h0)
    have e0 : ((d : Int) == 0) = true := by simp; omega
    by_cases hr : r = 0
    ·by_cases hm : m = 0
     ·by_cases hn : n = 0
      ·have E2 : Hid (rightC ⟨r, m, n, d, ⟨f, g, b⟩⟩ = true) := by unfold Hid; rw [E.out]; simp [hr, hm, hn]
       have q1 : (r == 0) = true := by simpa using hr
       have q2 : (m == 0) = true := by simpa using hm
       have q3 : (n == 0) = true := by simpa using hn
       clear hp h0 hr hm hn
       go_enter Tryz.func186, Tryz.ntmps186
       go_wp2_with fail
       rw [HW0.out]
       refine (rright_any f g b _).mono ?_
       rintro e w1 ⟨rfl, hb1⟩
       rw [HP.out]
       have HC1 := hide (HC.out.later hb1)
       have HB1 := hide (HB.out.trans (hb1.mono HB.out.size))
       obtain ⟨c0, c1, c2, c3, c4, c5, c6, cz⟩ := cells7 HC1.out
       clear hb1 cz; go_wp2; go_ret
       exact ⟨ret_bool E2.out.symm, HB1.out⟩
      ·have E2 : Hid (rightC ⟨r, m, n, d, ⟨f, g, b⟩⟩ = false) := by unfold Hid; rw [E.out]; simp [hr, hm, hn]
       have q1 : (r == 0) = true := by simpa using hr
       have q2 : (m == 0) = true := by simpa using hm
       have q3 : (n == 0) = false := by simpa using hn
       clear hp h0 hr hm hn
       go_enter Tryz.func186, Tryz.ntmps186
       go_wp2_with fail
       rw [HW0.out]
       refine (rright_any f g b _).mono ?_
       rintro e w1 ⟨rfl, hb1⟩
       rw [HP.out]
       have HC1 := hide (HC.out.later hb1)
       have HB1 := hide (HB.out.trans (hb1.mono HB.out.size))
       obtain ⟨c0, c1, c2, c3, c4, c5, c6, cz⟩ := cells7 HC1.out
       clear hb1 cz; go_wp2; go_ret
       exact ⟨ret_bool E2.out.symm, HB1.out⟩
     ·have E2 : Hid (rightC ⟨r, m, n, d, ⟨f, g, b⟩⟩ = false) := by unfold Hid; rw [E.out]; simp [hr, hm]
      have q1 : (r == 0) = true := by simpa using hr
      have q2 : (m == 0) = false := by simpa using hm
      clear hp h0 hr hm
      go_enter Tryz.func186, Tryz.ntmps186
      go_wp2_with fail
      rw [HW0.out]
      refine (rright_any f g b _).mono ?_
      rintro e w1 ⟨rfl, hb1⟩
      rw [HP.out]
      have HC1 := hide (HC.out.later hb1)
      have HB1 := hide (HB.out.trans (hb1.mono HB.out.size))
      obtain ⟨c0, c1, c2, c3, c4, c5, c6, cz⟩ := cells7 HC1.out
      clear hb1 cz; go_wp2; go_ret
      exact ⟨ret_bool E2.out.symm, HB1.out⟩
    ·have E2 : Hid (rightC ⟨r, m, n, d, ⟨f, g, b⟩⟩ = false) := by unfold Hid; rw [E.out]; simp [hr]
     have q1 : (r == 0) = false := by simpa using hr
     clear hp h0 hr
     go_enter Tryz.func186, Tryz.ntmps186
     go_wp2_with fail
     rw [HW0.out]
     refine (rright_any f g b _).mono ?_
     rintro e w1 ⟨rfl, hb1⟩
     rw [HP.out]
     have HC1 := hide (HC.out.later hb1)
     have HB1 := hide (HB.out.trans (hb1.mono HB.out.size))
     obtain ⟨c0, c1, c2, c3, c4, c5, c6, cz⟩ := cells7 HC1.out
     clear hb1 cz; go_wp2; go_ret
     exact ⟨ret_bool E2.out.symm, HB1.out⟩
   ·have e0 : ((d : Int) == 0) = false := by simp; omega
    have E := hide (rightC_bears r m n d f g b hp (by omega))
    obtain ⟨P1, hP1⟩ := exq (wOf r)
    have HX := hide hP1
    by_cases hq : P1 = d
    ·have hqq : (P1 != (d : Int)) = false := by simpa using hq
     by_cases hm : m = 0
     ·have q2 : (m == 0) = true := by simpa using hm
      by_cases hn : n = 0
      ·have E3 : Hid (rightC ⟨r, m, n, d, ⟨f, g, b⟩⟩ = true) := by unfold Hid; rw [E.out, HX.out, decide_eq_true hq]; unfold marksC; simp [hm, hn]
       have q3 : (n == 0) = true := by simpa using hn
       clear hp hP1 hq h0 hm hn
       go_enter Tryz.func186, Tryz.ntmps186
       go_wp2_with fail
       rw [HW0.out]
       refine (rright_any f g b _).mono ?_
       rintro e w1 ⟨rfl, hb1⟩
       rw [HP.out]
       have HC1 := hide (HC.out.later hb1)
       have HB1 := hide (HB.out.trans (hb1.mono HB.out.size))
       obtain ⟨c0, c1, c2, c3, c4, c5, c6, cz⟩ := cells7 HC1.out
       clear hb1 cz; go_wp2
       refine rgH (fun w' => Below w1.heap.size w1 w') [(true, 0), (true, 3), (true, 1), (true, 4), (true, 5), (false, 2), (false, 6)] bd1 ?_
       refine stH (h := ?_)
       refine stH (h := ?_)
       refine stH (hy := fun w hS => by obtain ⟨a0, a1, a2, a3, a4, a5, a6, -⟩ := cells7 (HC1.out.later hS); go_simp <;> with_reducible rfl) (h := ?_)
       refine stH (hy := fun w hS => by obtain ⟨a0, a1, a2, a3, a4, a5, a6, -⟩ := cells7 (HC1.out.later hS); go_simp <;> with_reducible rfl) (h := ?_)
       refine stH (h := ?_)
       refine alH fun K hK => ?_
       go_wp2_with fail
       refine (rof_any r _).mono ?_
       rintro e w2 ⟨rfl, hb⟩
       rw [HX.out]
       have Bw2 : Below w1.heap.size w1 w2 := bd1.trans hb
       clear hb; go_wp2
       refine hK.out _ _ Bw2 ?_
       clear hK K
       refine alH fun K hK => ?_
       go_wp2
       refine hK.out _ _ Bw2 ?_
       clear hK K
       refine chainH_nil ?_
       replace HB1 := hide (HB1.out.trans (Bw2.mono HB1.out.size))
       replace HC1 := hide (HC1.out.later Bw2)
       clear Bw2 c0 c1 c2 c3 c4 c5 c6
       obtain ⟨c0, c1, c2, c3, c4, c5, c6, cz⟩ := cells7 HC1.out
       clear cz; go_wp2
       go_quiet (fail)
       have HB2 := hide (HB1.out.drewN nq)
       go_wp2; go_ret
       exact ⟨ret_bool E3.out.symm, HB2.out⟩
      ·have E3 : Hid (rightC ⟨r, m, n, d, ⟨f, g, b⟩⟩ = false) := by unfold Hid; rw [E.out, HX.out, decide_eq_true hq]; unfold marksC; simp [hm, hn]
       have q3 : (n == 0) = false := by simpa using hn
       have HM : Hid (wOf m = -1) := by unfold Hid; rw [hm]; exact wOf_zero
       clear hp hP1 hq h0 hm hn
       go_enter Tryz.func186, Tryz.ntmps186
       go_wp2_with fail
       rw [HW0.out]
       refine (rright_any f g b _).mono ?_
       rintro e w1 ⟨rfl, hb1⟩
       rw [HP.out]
       have HC1 := hide (HC.out.later hb1)
       have HB1 := hide (HB.out.trans (hb1.mono HB.out.size))
       obtain ⟨c0, c1, c2, c3, c4, c5, c6, cz⟩ := cells7 HC1.out
       clear hb1 cz; go_wp2
       refine rgH (fun w' => Below w1.heap.size w1 w') [(true, 0), (true, 3), (true, 1), (true, 4), (true, 5), (false, 2), (false, 6)] bd1 ?_
       refine stH (h := ?_)
       refine stH (h := ?_)
       refine stH (hy := fun w hS => by obtain ⟨a0, a1, a2, a3, a4, a5, a6, -⟩ := cells7 (HC1.out.later hS); go_simp <;> with_reducible rfl) (h := ?_)
       refine stH (hy := fun w hS => by obtain ⟨a0, a1, a2, a3, a4, a5, a6, -⟩ := cells7 (HC1.out.later hS); go_simp <;> with_reducible rfl) (h := ?_)
       refine stH (h := ?_)
       refine alH fun K hK => ?_
       go_wp2_with fail
       refine (rof_any r _).mono ?_
       rintro e w2 ⟨rfl, hb⟩
       rw [HX.out]
       have Bw2 : Below w1.heap.size w1 w2 := bd1.trans hb
       clear hb; go_wp2
       refine hK.out _ _ Bw2 ?_
       clear hK K
       refine alH fun K hK => ?_
       go_wp2
       refine hK.out _ _ Bw2 ?_
       clear hK K
       refine chainH_nil ?_
       replace HB1 := hide (HB1.out.trans (Bw2.mono HB1.out.size))
       replace HC1 := hide (HC1.out.later Bw2)
       clear Bw2 c0 c1 c2 c3 c4 c5 c6
       obtain ⟨c0, c1, c2, c3, c4, c5, c6, cz⟩ := cells7 HC1.out
       clear cz; go_wp2
       go_quiet (fail)
       have HB2 := hide (HB1.out.drewN nq)
       go_wp2_with fail
       refine (rof_any m _).mono ?_
       rintro e w3 ⟨rfl, hb⟩
       rw [HM.out]
       have HB3 := hide (HB2.out.trans (hb.mono HB2.out.size))
       clear hb; go_wp2; go_ret
       exact ⟨ret_bool E3.out.symm, HB3.out⟩
     ·have q2 : (m == 0) = false := by simpa using hm
      have q4 : (m != 0) = true := by simpa using hm
      obtain ⟨P2, hP2⟩ := exq (wOf m)
      have HM := hide hP2
      by_cases hz : P2 = 0
      ·have q5 : (P2 == 0) = true := by simpa using hz
       by_cases hn : n = 0
       ·have E3 : Hid (rightC ⟨r, m, n, d, ⟨f, g, b⟩⟩ = true) := by unfold Hid; rw [E.out, HX.out, decide_eq_true hq]; unfold marksC; simp [hm, hn, hP2, hz]
        have q3 : (n == 0) = true := by simpa using hn
        clear hp hP1 hq h0 hP2 hm hn hz
        go_enter Tryz.func186, Tryz.ntmps186
        go_wp2_with fail
        rw [HW0.out]
        refine (rright_any f g b _).mono ?_
        rintro e w1 ⟨rfl, hb1⟩
        rw [HP.out]
        have HC1 := hide (HC.out.later hb1)
        have HB1 := hide (HB.out.trans (hb1.mono HB.out.size))
        obtain ⟨c0, c1, c2, c3, c4, c5, c6, cz⟩ := cells7 HC1.out
        clear hb1 cz; go_wp2
        refine rgH (fun w' => Below w1.heap.size w1 w') [(true, 0), (true, 3), (true, 1), (true, 4), (true, 5), (false, 2), (false, 6)] bd1 ?_
        refine stH (h := ?_)
        refine stH (h := ?_)
        refine stH (hy := fun w hS => by obtain ⟨a0, a1, a2, a3, a4, a5, a6, -⟩ := cells7 (HC1.out.later hS); go_simp <;> with_reducible rfl) (h := ?_)
        refine stH (hy := fun w hS => by obtain ⟨a0, a1, a2, a3, a4, a5, a6, -⟩ := cells7 (HC1.out.later hS); go_simp <;> with_reducible rfl) (h := ?_)
        refine stH (h := ?_)
        refine alH fun K hK => ?_
        go_wp2_with fail
        refine (rof_any r _).mono ?_
        rintro e w2 ⟨rfl, hb⟩
        rw [HX.out]
        have Bw2 : Below w1.heap.size w1 w2 := bd1.trans hb
        clear hb; go_wp2
        refine hK.out _ _ Bw2 ?_
        clear hK K
        refine alH fun K hK => ?_
        go_wp2
        refine hK.out _ _ Bw2 ?_
        clear hK K
        refine chainH_nil ?_
        replace HB1 := hide (HB1.out.trans (Bw2.mono HB1.out.size))
        replace HC1 := hide (HC1.out.later Bw2)
        clear Bw2 c0 c1 c2 c3 c4 c5 c6
        obtain ⟨c0, c1, c2, c3, c4, c5, c6, cz⟩ := cells7 HC1.out
        clear cz; go_wp2
        go_quiet (fail)
        have HB2 := hide (HB1.out.drewN nq)
        go_wp2_with fail
        refine (rof_any m _).mono ?_
        rintro e w3 ⟨rfl, hb⟩
        rw [HM.out]
        have HB3 := hide (HB2.out.trans (hb.mono HB2.out.size))
        clear hb; go_wp2; go_ret
        exact ⟨ret_bool E3.out.symm, HB3.out⟩
       ·have q3 : (n == 0) = false := by simpa using hn
        obtain ⟨P3, hP3⟩ := exq (wOf n)
        have HN := hide hP3
        have E3 : Hid (rightC ⟨r, m, n, d, ⟨f, g, b⟩⟩ = (P3 == 0)) := by unfold Hid; rw [E.out, HX.out, decide_eq_true hq]; unfold marksC; simp [hm, hn, hP2, hz, hP3]; rfl
        clear hp hP1 hq h0 hP2 hP3 hm hn hz
        go_enter Tryz.func186, Tryz.ntmps186
        go_wp2_with fail
        rw [HW0.out]
        refine (rright_any f g b _).mono ?_
        rintro e w1 ⟨rfl, hb1⟩
        rw [HP.out]
        have HC1 := hide (HC.out.later hb1)
        have HB1 := hide (HB.out.trans (hb1.mono HB.out.size))
        obtain ⟨c0, c1, c2, c3, c4, c5, c6, cz⟩ := cells7 HC1.out
        clear hb1 cz; go_wp2
        refine rgH (fun w' => Below w1.heap.size w1 w') [(true, 0), (true, 3), (true, 1), (true, 4), (true, 5), (false, 2), (false, 6)] bd1 ?_
        refine stH (h := ?_)
        refine stH (h := ?_)
        refine stH (hy := fun w hS => by obtain ⟨a0, a1, a2, a3, a4, a5, a6, -⟩ := cells7 (HC1.out.later hS); go_simp <;> with_reducible rfl) (h := ?_)
        refine stH (hy := fun w hS => by obtain ⟨a0, a1, a2, a3, a4, a5, a6, -⟩ := cells7 (HC1.out.later hS); go_simp <;> with_reducible rfl) (h := ?_)
        refine stH (h := ?_)
        refine alH fun K hK => ?_
        go_wp2_with fail
        refine (rof_any r _).mono ?_
        rintro e w2 ⟨rfl, hb⟩
        rw [HX.out]
        have Bw2 : Below w1.heap.size w1 w2 := bd1.trans hb
        clear hb; go_wp2
        refine hK.out _ _ Bw2 ?_
        clear hK K
        refine alH fun K hK => ?_
        go_wp2
        refine hK.out _ _ Bw2 ?_
        clear hK K
        refine chainH_nil ?_
        replace HB1 := hide (HB1.out.trans (Bw2.mono HB1.out.size))
        replace HC1 := hide (HC1.out.later Bw2)
        clear Bw2 c0 c1 c2 c3 c4 c5 c6
        obtain ⟨c0, c1, c2, c3, c4, c5, c6, cz⟩ := cells7 HC1.out
        clear cz; go_wp2
        go_quiet (fail)
        have HB2 := hide (HB1.out.drewN nq)
        go_wp2_with fail
        refine (rof_any m _).mono ?_
        rintro e w3 ⟨rfl, hb⟩
        rw [HM.out]
        have HB3 := hide (HB2.out.trans (hb.mono HB2.out.size))
        clear hb; go_wp2_with fail
        refine (rof_any n _).mono ?_
        rintro e w4 ⟨rfl, hb⟩
        rw [HN.out]
        have HB4 := hide (HB3.out.trans (hb.mono HB3.out.size))
        clear hb; go_wp2; go_ret
        exact ⟨ret_bool E3.out.symm, HB4.out⟩
      ·have q5 : (P2 == 0) = false := by simpa using hz
       have E3 : Hid (rightC ⟨r, m, n, d, ⟨f, g, b⟩⟩ = false) := by unfold Hid; rw [E.out, HX.out, decide_eq_true hq]; unfold marksC; simp [hm, hP2, hz]
       clear hp hP1 hq h0 hP2 hm hz
       go_enter Tryz.func186, Tryz.ntmps186
       go_wp2_with fail
       rw [HW0.out]
       refine (rright_any f g b _).mono ?_
       rintro e w1 ⟨rfl, hb1⟩
       rw [HP.out]
       have HC1 := hide (HC.out.later hb1)
       have HB1 := hide (HB.out.trans (hb1.mono HB.out.size))
       obtain ⟨c0, c1, c2, c3, c4, c5, c6, cz⟩ := cells7 HC1.out
       clear hb1 cz; go_wp2
       refine rgH (fun w' => Below w1.heap.size w1 w') [(true, 0), (true, 3), (true, 1), (true, 4), (true, 5), (false, 2), (false, 6)] bd1 ?_
       refine stH (h := ?_)
       refine stH (h := ?_)
       refine stH (hy := fun w hS => by obtain ⟨a0, a1, a2, a3, a4, a5, a6, -⟩ := cells7 (HC1.out.later hS); go_simp <;> with_reducible rfl) (h := ?_)
       refine stH (hy := fun w hS => by obtain ⟨a0, a1, a2, a3, a4, a5, a6, -⟩ := cells7 (HC1.out.later hS); go_simp <;> with_reducible rfl) (h := ?_)
       refine stH (h := ?_)
       refine alH fun K hK => ?_
       go_wp2_with fail
       refine (rof_any r _).mono ?_
       rintro e w2 ⟨rfl, hb⟩
       rw [HX.out]
       have Bw2 : Below w1.heap.size w1 w2 := bd1.trans hb
       clear hb; go_wp2
       refine hK.out _ _ Bw2 ?_
       clear hK K
       refine alH fun K hK => ?_
       go_wp2
       refine hK.out _ _ Bw2 ?_
       clear hK K
       refine chainH_nil ?_
       replace HB1 := hide (HB1.out.trans (Bw2.mono HB1.out.size))
       replace HC1 := hide (HC1.out.later Bw2)
       clear Bw2 c0 c1 c2 c3 c4 c5 c6
       obtain ⟨c0, c1, c2, c3, c4, c5, c6, cz⟩ := cells7 HC1.out
       clear cz; go_wp2
       go_quiet (fail)
       have HB2 := hide (HB1.out.drewN nq)
       go_wp2_with fail
       refine (rof_any m _).mono ?_
       rintro e w3 ⟨rfl, hb⟩
       rw [HM.out]
       have HB3 := hide (HB2.out.trans (hb.mono HB2.out.size))
       clear hb; go_wp2; go_ret
       exact ⟨ret_bool E3.out.symm, HB3.out⟩
    ·have hqq : (P1 != (d : Int)) = true := by simpa using hq
     have E2 : Hid (rightC ⟨r, m, n, d, ⟨f, g, b⟩⟩ = false) := by unfold Hid; rw [E.out, HX.out, decide_eq_false hq]; rfl
     clear hp hP1 hq h0
     go_enter Tryz.func186, Tryz.ntmps186
     go_wp2_with fail
     rw [HW0.out]
     refine (rright_any f g b _).mono ?_
     rintro e w1 ⟨rfl, hb1⟩
     rw [HP.out]
     have HC1 := hide (HC.out.later hb1)
     have HB1 := hide (HB.out.trans (hb1.mono HB.out.size))
     obtain ⟨c0, c1, c2, c3, c4, c5, c6, cz⟩ := cells7 HC1.out
     clear hb1 cz; go_wp2
     refine rgH (fun w' => Below w1.heap.size w1 w') [(true, 0), (true, 3), (true, 1), (true, 4), (true, 5), (false, 2), (false, 6)] bd1 ?_
     refine stH (h := ?_)
     refine stH (h := ?_)
     refine stH (hy := fun w hS => by obtain ⟨a0, a1, a2, a3, a4, a5, a6, -⟩ := cells7 (HC1.out.later hS); go_simp <;> with_reducible rfl) (h := ?_)
     refine stH (hy := fun w hS => by obtain ⟨a0, a1, a2, a3, a4, a5, a6, -⟩ := cells7 (HC1.out.later hS); go_simp <;> with_reducible rfl) (h := ?_)
     refine stH (h := ?_)
     refine alH fun K hK => ?_
     go_wp2_with fail
     refine (rof_any r _).mono ?_
     rintro e w2 ⟨rfl, hb⟩
     rw [HX.out]
     have Bw2 : Below w1.heap.size w1 w2 := bd1.trans hb
     clear hb; go_wp2
     refine hK.out _ _ Bw2 ?_
     clear hK K
     refine alH fun K hK => ?_
     go_wp2
     refine hK.out _ _ Bw2 ?_
     clear hK K
     refine chainH_nil ?_
     go_wp2; go_ret
     exact ⟨ret_bool E2.out.symm, HB1.out.trans (Bw2.mono HB1.out.size)⟩
theorem rcmark_any (r m n : Int) (d f g b : Nat) (x : Int) (w : World) : Calls Tryz.prog 185 #[.agg #[.int .i64 r, .int .i64 m, .int .i64 n, .int .u8 d, .int .u8 f, .int .u8 g, .int .u8 b], .int .i64 x] w (Celled2 .i64 (markC ⟨r, m, n, d, ⟨f, g, b⟩⟩ x) w) := by
 obtain ⟨W0, hW0⟩ := exq ((w.alloc (.cells #[.int .i64 r, .int .i64 m, .int .i64 n, .int .u8 d, .int .u8 f, .int .u8 g, .int .u8 b] 166)).alloc (.cells #[.int .i64 0, .int .i64 0, .int .i64 0, .int .u8 0, .int .u8 0, .int .u8 0, .int .u8 0] 166))
 have HB : Hid (Below w.heap.size w W0) := by unfold Hid; rw [← hW0]; exact two_new _ _ _ _ _
 have HC : Hid (Whole W0 w.heap.size 166 [.int .i64 r, .int .i64 m, .int .i64 n, .int .u8 d, .int .u8 f, .int .u8 g, .int .u8 b]) := by unfold Hid; rw [← hW0]; exact (Whole.new _ _ _).alloc _
 have HR : Hid (Whole W0 (w.heap.size + 1) 166 [.int .i64 0, .int .i64 0, .int .i64 0, .int .u8 0, .int .u8 0, .int .u8 0, .int .u8 0]) := by unfold Hid; rw [← hW0]; exact whole_snd _ _ _ _
 have HW0 := hide hW0; clear hW0
 rcases wOf_range x with h | h | h | h
 ·have E := hide (markC_rune ⟨r, m, n, d, ⟨f, g, b⟩⟩ x (by omega))
  have HX := hide h; clear h
  go_enter Tryz.func185, Tryz.ntmps185
  go_wp2_with fail
  rw [HW0.out]
  refine (rof_any x _).mono ?_
  rintro e w1 ⟨rfl, hb1⟩
  rw [HX.out]
  have HC1 := hide (HC.out.later hb1)
  have HR1 := hide (HR.out.later hb1)
  have HB1 := hide (HB.out.trans (hb1.mono HB.out.size))
  obtain ⟨c0, c1, c2, c3, c4, c5, c6, cz⟩ := cells7 HC1.out
  obtain ⟨d0, d1, d2, d3, d4, d5, d6, dz⟩ := cells7 HR1.out
  clear hb1; go_wp2
  exact ret72 Tryz.results185 (.inr rfl) rfl rfl rfl (put7 HR1.out _ _ _ _ _ _ _) ⟨by rw [E.out]; rfl, below_put7 HB1.out (Nat.le_succ _) _ _ _ _ _ _ _⟩
 ·have HX := hide h
  by_cases h1 : d = 1
  ·have HBR := hide (bears_1 r m n d f g b h1)
   have e1 : ((d : Int) != 1) = false := by simp; omega
   clear h h1
   by_cases hm : m = 0
   ·have E := hide (markC_fst ⟨r, m, n, d, ⟨f, g, b⟩⟩ x HX.out HBR.out hm)
    have hq : (m == 0) = true := by simpa using hm
    clear hm
    go_enter Tryz.func185, Tryz.ntmps185
    go_wp2_with fail
    rw [HW0.out]
    refine (rof_any x _).mono ?_
    rintro e w1 ⟨rfl, hb1⟩
    rw [HX.out]
    have HC1 := hide (HC.out.later hb1)
    have HR1 := hide (HR.out.later hb1)
    have HB1 := hide (HB.out.trans (hb1.mono HB.out.size))
    obtain ⟨c0, c1, c2, c3, c4, c5, c6, cz⟩ := cells7 HC1.out
    obtain ⟨d0, d1, d2, d3, d4, d5, d6, dz⟩ := cells7 HR1.out
    clear hb1; go_wp2
    exact ret72 Tryz.results185 (.inr rfl) rfl rfl rfl (put7 (whole_put HR1.out (Nat.succ_ne_self _) _) _ _ _ _ _ _ _) ⟨by rw [E.out]; rfl, below_put7 (HB1.out.setCell (p := ⟨w.heap.size, 1, none⟩) (Nat.le_refl _) _) (Nat.le_succ _) _ _ _ _ _ _ _⟩
   ·have hq : (m == 0) = false := by simpa using hm
    by_cases hn : n = 0
    ·have E := hide (markC_snd ⟨r, m, n, d, ⟨f, g, b⟩⟩ x HX.out HBR.out hm hn)
     have hr : (n == 0) = true := by simpa using hn
     clear hm hn
     go_enter Tryz.func185, Tryz.ntmps185
     go_wp2_with fail
     rw [HW0.out]
     refine (rof_any x _).mono ?_
     rintro e w1 ⟨rfl, hb1⟩
     rw [HX.out]
     have HC1 := hide (HC.out.later hb1)
     have HR1 := hide (HR.out.later hb1)
     have HB1 := hide (HB.out.trans (hb1.mono HB.out.size))
     obtain ⟨c0, c1, c2, c3, c4, c5, c6, cz⟩ := cells7 HC1.out
     obtain ⟨d0, d1, d2, d3, d4, d5, d6, dz⟩ := cells7 HR1.out
     clear hb1; go_wp2
     exact ret72 Tryz.results185 (.inr rfl) rfl rfl rfl (put7 (whole_put HR1.out (Nat.succ_ne_self _) _) _ _ _ _ _ _ _) ⟨by rw [E.out]; rfl, below_put7 (HB1.out.setCell (p := ⟨w.heap.size, 2, none⟩) (Nat.le_refl _) _) (Nat.le_succ _) _ _ _ _ _ _ _⟩
    ·have E := hide (markC_full ⟨r, m, n, d, ⟨f, g, b⟩⟩ x HX.out HBR.out hm hn)
     have hr : (n == 0) = false := by simpa using hn
     clear hm hn
     go_enter Tryz.func185, Tryz.ntmps185
     go_wp2_with fail
     rw [HW0.out]
     refine (rof_any x _).mono ?_
     rintro e w1 ⟨rfl, hb1⟩
     rw [HX.out]
     have HC1 := hide (HC.out.later hb1)
     have HR1 := hide (HR.out.later hb1)
     have HB1 := hide (HB.out.trans (hb1.mono HB.out.size))
     obtain ⟨c0, c1, c2, c3, c4, c5, c6, cz⟩ := cells7 HC1.out
     obtain ⟨d0, d1, d2, d3, d4, d5, d6, dz⟩ := cells7 HR1.out
     clear hb1; go_wp2
     exact ret72 Tryz.results185 (.inr rfl) rfl rfl rfl (put7 HR1.out _ _ _ _ _ _ _) ⟨by rw [E.out]; rfl, below_put7 HB1.out (Nat.le_succ _) _ _ _ _ _ _ _⟩
  ·have e1 : ((d : Int) != 1) = true := by simp; omega
   by_cases h2 : d = 2
   ·have HBR := hide (bears_2 r m n d f g b h2)
    have e2 : ((d : Int) != 2) = false := by simp; omega
    clear h h1 h2
    by_cases hm : m = 0
    ·have E := hide (markC_fst ⟨r, m, n, d, ⟨f, g, b⟩⟩ x HX.out HBR.out hm)
     have hq : (m == 0) = true := by simpa using hm
     clear hm
     go_enter Tryz.func185, Tryz.ntmps185
     go_wp2_with fail
     rw [HW0.out]
     refine (rof_any x _).mono ?_
     rintro e w1 ⟨rfl, hb1⟩
     rw [HX.out]
     have HC1 := hide (HC.out.later hb1)
     have HR1 := hide (HR.out.later hb1)
     have HB1 := hide (HB.out.trans (hb1.mono HB.out.size))
     obtain ⟨c0, c1, c2, c3, c4, c5, c6, cz⟩ := cells7 HC1.out
     obtain ⟨d0, d1, d2, d3, d4, d5, d6, dz⟩ := cells7 HR1.out
     clear hb1; go_wp2
     exact ret72 Tryz.results185 (.inr rfl) rfl rfl rfl (put7 (whole_put HR1.out (Nat.succ_ne_self _) _) _ _ _ _ _ _ _) ⟨by rw [E.out]; rfl, below_put7 (HB1.out.setCell (p := ⟨w.heap.size, 1, none⟩) (Nat.le_refl _) _) (Nat.le_succ _) _ _ _ _ _ _ _⟩
    ·have hq : (m == 0) = false := by simpa using hm
     by_cases hn : n = 0
     ·have E := hide (markC_snd ⟨r, m, n, d, ⟨f, g, b⟩⟩ x HX.out HBR.out hm hn)
      have hr : (n == 0) = true := by simpa using hn
      clear hm hn
      go_enter Tryz.func185, Tryz.ntmps185
      go_wp2_with fail
      rw [HW0.out]
      refine (rof_any x _).mono ?_
      rintro e w1 ⟨rfl, hb1⟩
      rw [HX.out]
      have HC1 := hide (HC.out.later hb1)
      have HR1 := hide (HR.out.later hb1)
      have HB1 := hide (HB.out.trans (hb1.mono HB.out.size))
      obtain ⟨c0, c1, c2, c3, c4, c5, c6, cz⟩ := cells7 HC1.out
      obtain ⟨d0, d1, d2, d3, d4, d5, d6, dz⟩ := cells7 HR1.out
      clear hb1; go_wp2
      exact ret72 Tryz.results185 (.inr rfl) rfl rfl rfl (put7 (whole_put HR1.out (Nat.succ_ne_self _) _) _ _ _ _ _ _ _) ⟨by rw [E.out]; rfl, below_put7 (HB1.out.setCell (p := ⟨w.heap.size, 2, none⟩) (Nat.le_refl _) _) (Nat.le_succ _) _ _ _ _ _ _ _⟩
     ·have E := hide (markC_full ⟨r, m, n, d, ⟨f, g, b⟩⟩ x HX.out HBR.out hm hn)
      have hr : (n == 0) = false := by simpa using hn
      clear hm hn
      go_enter Tryz.func185, Tryz.ntmps185
      go_wp2_with fail
      rw [HW0.out]
      refine (rof_any x _).mono ?_
      rintro e w1 ⟨rfl, hb1⟩
      rw [HX.out]
      have HC1 := hide (HC.out.later hb1)
      have HR1 := hide (HR.out.later hb1)
      have HB1 := hide (HB.out.trans (hb1.mono HB.out.size))
      obtain ⟨c0, c1, c2, c3, c4, c5, c6, cz⟩ := cells7 HC1.out
      obtain ⟨d0, d1, d2, d3, d4, d5, d6, dz⟩ := cells7 HR1.out
      clear hb1; go_wp2
      exact ret72 Tryz.results185 (.inr rfl) rfl rfl rfl (put7 HR1.out _ _ _ _ _ _ _) ⟨by rw [E.out]; rfl, below_put7 HB1.out (Nat.le_succ _) _ _ _ _ _ _ _⟩
   ·have E := hide (markC_half ⟨r, m, n, d, ⟨f, g, b⟩⟩ x (bears_no r m n d f g b h1 h2))
    have e2 : ((d : Int) != 2) = true := by simp; omega
    clear h h1 h2
    go_enter Tryz.func185, Tryz.ntmps185
    go_wp2_with fail
    rw [HW0.out]
    refine (rof_any x _).mono ?_
    rintro e w1 ⟨rfl, hb1⟩
    rw [HX.out]
    have HC1 := hide (HC.out.later hb1)
    have HR1 := hide (HR.out.later hb1)
    have HB1 := hide (HB.out.trans (hb1.mono HB.out.size))
    obtain ⟨c0, c1, c2, c3, c4, c5, c6, cz⟩ := cells7 HC1.out
    obtain ⟨d0, d1, d2, d3, d4, d5, d6, dz⟩ := cells7 HR1.out
    clear hb1; go_wp2
    exact ret72 Tryz.results185 (.inr rfl) rfl rfl rfl (put7 HR1.out _ _ _ _ _ _ _) ⟨by rw [E.out]; rfl, below_put7 HB1.out (Nat.le_succ _) _ _ _ _ _ _ _⟩
 ·have E := hide (markC_rune ⟨r, m, n, d, ⟨f, g, b⟩⟩ x (by omega))
  have HX := hide h; clear h
  go_enter Tryz.func185, Tryz.ntmps185
  go_wp2_with fail
  rw [HW0.out]
  refine (rof_any x _).mono ?_
  rintro e w1 ⟨rfl, hb1⟩
  rw [HX.out]
  have HC1 := hide (HC.out.later hb1)
  have HR1 := hide (HR.out.later hb1)
  have HB1 := hide (HB.out.trans (hb1.mono HB.out.size))
  obtain ⟨c0, c1, c2, c3, c4, c5, c6, cz⟩ := cells7 HC1.out
  obtain ⟨d0, d1, d2, d3, d4, d5, d6, dz⟩ := cells7 HR1.out
  clear hb1; go_wp2
  exact ret72 Tryz.results185 (.inr rfl) rfl rfl rfl (put7 HR1.out _ _ _ _ _ _ _) ⟨by rw [E.out]; rfl, below_put7 HB1.out (Nat.le_succ _) _ _ _ _ _ _ _⟩
 ·have E := hide (markC_rune ⟨r, m, n, d, ⟨f, g, b⟩⟩ x (by omega))
  have HX := hide h; clear h
  go_enter Tryz.func185, Tryz.ntmps185
  go_wp2_with fail
  rw [HW0.out]
  refine (rof_any x _).mono ?_
  rintro e w1 ⟨rfl, hb1⟩
  rw [HX.out]
  have HC1 := hide (HC.out.later hb1)
  have HR1 := hide (HR.out.later hb1)
  have HB1 := hide (HB.out.trans (hb1.mono HB.out.size))
  obtain ⟨c0, c1, c2, c3, c4, c5, c6, cz⟩ := cells7 HC1.out
  obtain ⟨d0, d1, d2, d3, d4, d5, d6, dz⟩ := cells7 HR1.out
  clear hb1; go_wp2
  exact ret72 Tryz.results185 (.inr rfl) rfl rfl rfl (put7 HR1.out _ _ _ _ _ _ _) ⟨by rw [E.out]; rfl, below_put7 HB1.out (Nat.le_succ _) _ _ _ _ _ _ _⟩
def Cl (te : TypeId) (k : IntKind) (B : Nat) (w : World) (x : Value) (z : List Int) : Prop := w.ownsRow B te 1 x z.length (z.map (Value.int k))
section
variable {te e : TypeId} {k : IntKind} {B : Nat} {w w' wr : World} {x v : Value} {z : List Int}
theorem Own.cl (h : Own te k B w wr x z) : Cl te k B wr x z := h.own
theorem Cl.less {C : Nat} (h : Cl te k B w x z) (hC : C ≤ B) : Cl te k C w x z := by
 refine ⟨h.1, ?_⟩
 rcases h.2 with h0 | ⟨g, cap, cur, hv, hB, h1⟩
 ·exact .inl h0
 ·exact .inr ⟨g, cap, cur, hv, Nat.le_trans hC hB, h1⟩
theorem Cl.keep (h : Cl te k B w x z) (hb : ∀ (g : Nat) (cur : Array Value), w.heap[g]? = some (Obj.cells cur te (0, 0)) → w'.heap[g]? = w.heap[g]?) : Cl te k B w' x z := by
 refine ⟨h.1, ?_⟩
 rcases h.2 with h0 | ⟨g, cap, cur, hv, hB, hh, h1⟩
 ·exact .inl h0
 ·exact .inr ⟨g, cap, cur, hv, hB, (hb g cur hh).trans hh, h1⟩
theorem Cl.later (h : Cl te k B w x z) (hb : Below w.heap.size w w') : Cl te k B w' x z := h.keep fun g cur hh => hb.block g (Array.getElem?_eq_some_iff.1 hh).1
theorem Cl.alloc (h : Cl te k B w x z) (o : Obj) : Cl te k B (w.alloc o) x z := h.keep fun g cur hh => Below.heap_alloc w o g (Array.getElem?_eq_some_iff.1 hh).1
theorem Cl.one (h : Cl te k B w x z) : x.oneCell' = true := by
 rcases h.2 with ⟨rfl, _⟩ | ⟨g, cap, cur, rfl, _⟩ <;> rfl
theorem Cl.form (h : Cl te k B w x z) : ∃ A cap, x = .slice A z.length cap ∧ Ints k w A z ∧ z.length ≤ cap ∧ (A = none → cap = 0) ∧ cap ≤ maxLen :=
 Own.form2 (w := w) (B := min B w.heap.size) ⟨h.less (Nat.min_le_left _ _), Below.refl _ _, Nat.min_le_right _ _⟩
end
structure Rws (e te : TypeId) (k : IntKind) (B : Nat) (w wr : World) (v : Value) (zss : List (List Int)) : Prop where
 row : ∃ xs : List Value, wr.ownsRow B e 1 v zss.length xs ∧ ∀ (i : Nat) (x : Value) (z : List Int), xs[i]? = some x → zss[i]? = some z → Cl te k B wr x z
 bel : Below B w wr
 le : B ≤ wr.heap.size
section
variable {te e : TypeId} {k : IntKind} {B : Nat} {w wr w1 : World} {v : Value} {zss : List (List Int)}
theorem Rws.start (hB : B ≤ w.heap.size) : Rws e te k B w w (.slice none 0 0) [] := ⟨⟨[], World.ownsRow_nil _ _ _ _, fun i x z h => by simp at h⟩, Below.refl _ _, hB⟩
theorem Rws.later (h : Rws e te k B w wr v zss) (hb : Below wr.heap.size wr w1) : Rws e te k B w w1 v zss := by
 obtain ⟨xs, ho, hc⟩ := h.row
 refine ⟨⟨xs, ⟨ho.1, ?_⟩, fun i x z h1 h2 => (hc i x z h1 h2).later hb⟩, h.bel.trans (hb.mono h.le), Nat.le_trans h.le hb.size⟩
 rcases ho.2 with h0 | ⟨g, cap, cur, hv, hB, hh, h1⟩
 ·exact .inl h0
 ·exact .inr ⟨g, cap, cur, hv, hB, by rw [hb.block g (Array.getElem?_eq_some_iff.1 hh).1, hh], h1⟩
theorem Rws.alloc (h : Rws e te k B w wr v zss) (o : Obj) : Rws e te k B w (wr.alloc o) v zss := h.later ((Below.refl _ _).alloc (Nat.le_refl _) _)
theorem Rws.form (h : Rws e te k B w wr v zss) : ∃ A cap, v = .slice A zss.length cap ∧ zss.length ≤ cap ∧ (A = none → cap = 0) ∧
  ∀ (i : Nat) (z : List Int), zss[i]? = some z → ∃ g A' c', A = some ⟨g, 0, none⟩ ∧ g < wr.heap.size ∧ wr.cell? ⟨g, 0 + i, none⟩ = some (.slice A' z.length c') ∧ Ints k wr A' z ∧ z.length ≤ c' ∧ (A' = none → c' = 0) ∧ c' ≤ maxLen := by
 obtain ⟨xs, ho, hc⟩ := h.row
 have hxl : xs.length = zss.length := by have := ho.1; omega
 rcases ho.2 with ⟨rfl, h0⟩ | ⟨g, cap, cur, rfl, _, hh, hcap, hm, _, _⟩
 ·have : zss = [] := List.eq_nil_of_length_eq_zero h0
  subst this
  exact ⟨none, 0, rfl, Nat.le_refl _, (fun _ => rfl), fun i z hz => by simp at hz⟩
 ·refine ⟨_, cap, rfl, hcap, (fun h => by cases h), fun i z hz => ?_⟩
  have hi : i < zss.length := (List.getElem?_eq_some_iff.1 hz).1
  have hx : xs[i]? = some xs[i] := List.getElem?_eq_getElem (by omega)
  obtain ⟨A', c', e1, h1, h2, h3, h4⟩ := (hc i _ z hx hz).form
  have hcell := ho.cellAt i (by omega)
  refine ⟨g, A', c', rfl, (Array.getElem?_eq_some_iff.1 hh).1, ?_, h1, h2, h3, h4⟩
  rw [Nat.zero_add, hcell, hx, e1]
end
structure ElemR (P : Program) (S e : TypeId) : Prop where
 under : P.underlying S = some (.slice e)
 info : (P.info? e).map (fun i => (i.zero, i.size, i.bytes)) = some (some (.slice none 0 0), 1, 24)
end
end Go.Proofs.YtkijclgbpbhglaaGreatDoor
