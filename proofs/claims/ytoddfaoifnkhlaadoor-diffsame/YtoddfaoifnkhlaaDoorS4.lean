/-
  Contracts and plain mathematics of CRight, Rws, CRunes, CLaw, LOwn, COk, LRef, LNew, LErase, LRef3, LMark, LPut, LRef4.
-/
import Derived.Test.YtoddfaoifnkhlaaDoorS3
import Derived.Test.YtoddfaoifnkhlaaDoorS1
namespace Go.Proofs.YtoddfaoifnkhlaaDoor
set_option maxRecDepth 100000
set_option linter.unusedVariables false
set_option maxHeartbeats 8000000
section
open Go.ChangeShapes Go.WideShapes Go.ChangeAt Go.RowKit
theorem rightC_pen (c : Cel) (h : rightN c.p = false) : rightC c = false := by unfold rightC; rw [h]; rfl
theorem rightC_half (r m n : Int) (d f g b : Nat) (h : rightN ⟨f, g, b⟩ = true) (h0 : d = 0) : rightC ⟨r, m, n, d, ⟨f, g, b⟩⟩ = decide (r = 0 ∧ m = 0 ∧ n = 0) := by unfold rightC; simp only [h, Bool.true_and]; rw [if_pos h0]
theorem rightC_bears (r m n : Int) (d f g b : Nat) (h : rightN ⟨f, g, b⟩ = true) (h0 : d = 1 ∨ d = 2) : rightC ⟨r, m, n, d, ⟨f, g, b⟩⟩ = (decide (wOf r = d) && marksC m n) := by
 unfold rightC; simp only [h, Bool.true_and]; rw [if_neg (by omega), if_pos]; unfold bearsC; simpa using h0
theorem rightC_more (r m n : Int) (d f g b : Nat) (h0 : ¬ d = 0) (h1 : ¬ d = 1) (h2 : ¬ d = 2) : rightC ⟨r, m, n, d, ⟨f, g, b⟩⟩ = false := by
 unfold rightC; rw [if_neg h0, if_neg]; simp; unfold bearsC; simp [h1, h2]
theorem one_new (w : World) (t : TypeId) (l : List Value) : Below w.heap.size w (w.alloc (.cells l.toArray t)) := (Below.refl _ _).alloc (Nat.le_refl _) _
theorem cright_any (r m n : Int) (d f g b : Nat) (hd : d < 256) (w : World) (hS : Spans w) : Calls Tryd.prog 44 #[.agg #[.int .i32 r, .int .i32 m, .int .i32 n, .int .u8 d, .int .u8 f, .int .u8 g, .int .u8 b]] w (Said (rightC ⟨r, m, n, d, ⟨f, g, b⟩⟩) w) := by
 obtain ⟨W0, hW0⟩ := exq (w.alloc (.cells #[.int .i32 r, .int .i32 m, .int .i32 n, .int .u8 d, .int .u8 f, .int .u8 g, .int .u8 b] 48))
 have HS : Hid (Spans W0) := by unfold Hid; rw [← hW0]; exact hS.alloc _
 have HB : Hid (Below w.heap.size w W0) := by unfold Hid; rw [← hW0]; exact one_new w _ [.int .i32 r, .int .i32 m, .int .i32 n, .int .u8 d, .int .u8 f, .int .u8 g, .int .u8 b]
 have HC : Hid (Whole W0 w.heap.size 48 [.int .i32 r, .int .i32 m, .int .i32 n, .int .u8 d, .int .u8 f, .int .u8 g, .int .u8 b]) := by unfold Hid; rw [← hW0]; exact Whole.new _ _ _
 have HW0 := hide hW0; clear hS hW0
 have hd1 : (0 : Int) ≤ (d : Int) := by omega
 have hd2 : (d : Int) ≤ 255 := by omega
 have eC := eqlCell
 cases hp : rightN ⟨f, g, b⟩
 case false =>
  have E := hide (rightC_pen ⟨r, m, n, d, ⟨f, g, b⟩⟩ hp)
  have HP := hide hp; clear hp
  go_enter Tryd.func44, Tryd.ntmps44
  go_wp2_with fail
  rw [HW0.out]
  refine (right_any f g b _).mono ?_
  rintro e w1 ⟨rfl, hb1⟩
  rw [HP.out]
  have HC1 := hide (HC.out.later hb1)
  have HS1 := hide (HS.out.below hb1)
  have HB1 := hide (HB.out.trans (hb1.mono HB.out.size))
  obtain ⟨c0, c1, c2, c3, c4, c5, c6, cz⟩ := cells7 HC1.out
  clear hb1 cz; go_wp2; go_ret
  exact ⟨ret_bool E.out.symm, HB1.out⟩
 case true =>
  have HP := hide hp
  by_cases h0 : d = 0
  ·have E := hide (rightC_half r m n d f g b hp h0)
   have e0 : ((d : Int) == 0) = true := by simp; omega
   have HD0 := hide h0; clear hp h0
   go_enter Tryd.func44, Tryd.ntmps44
   go_wp2_with fail
   rw [HW0.out]
   refine (right_any f g b _).mono ?_
   rintro e w1 ⟨rfl, hb1⟩
   rw [HP.out]
   have HC1 := hide (HC.out.later hb1)
   have HS1 := hide (HS.out.below hb1)
   have HB1 := hide (HB.out.trans (hb1.mono HB.out.size))
   obtain ⟨c0, c1, c2, c3, c4, c5, c6, cz⟩ := cells7 HC1.out
   clear hb1 cz; go_wp2
   refine rgH (fun w' => Below w1.heap.size w1 w') [(true, 0), (false, 1), (false, 2), (false, 3), (false, 4)] bd1 ?_
   refine stH (hy := fun w hS => by obtain ⟨a0, a1, a2, a3, a4, a5, a6, -⟩ := cells7 (HC1.out.later hS); go_simp <;> with_reducible rfl) (h := ?_)
   refine alH fun K hK => ?_
   go_wp2
   refine hK.out _ _ bd1 ?_
   clear hK K
   refine alH fun K hK => ?_
   go_wp2_with fail
   refine (rest_any r m n d f g b _).mono ?_
   rintro e w2 ⟨rfl, hb⟩
   have Bw2 : Below w1.heap.size w1 w2 := bd1.trans hb
   clear hb; go_wp2
   refine hK.out _ _ Bw2 ?_
   clear hK K
   refine alH fun K hK => ?_
   go_wp2
   refine hK.out _ _ Bw2 ?_
   clear hK K
   refine alH fun K hK => ?_
   go_wp2
   refine hK.out _ _ Bw2 ?_
   clear hK K
   refine chainH_nil ?_
   go_wp2; go_ret
   exact ⟨ret_bool (by rw [E.out, eqC_iff, HD0.out]; simp [restC]), HB1.out.trans (Bw2.mono HB1.out.size)⟩
  ·have e0 : ((d : Int) == 0) = false := by simp; omega
   by_cases h1 : d = 1
   ·have E := hide (rightC_bears r m n d f g b hp (.inl h1))
    have e1 : ((d : Int) == 1) = true := by simp; omega
    obtain ⟨P1, hP1⟩ := exq (wOf r)
    have HX := hide hP1
    by_cases hq : P1 = d
    ·have hqq : (P1 == (d : Int)) = true := by simpa using hq
     have E2 : Hid (rightC ⟨r, m, n, d, ⟨f, g, b⟩⟩ = marksC m n) := by unfold Hid; rw [E.out, HX.out, decide_eq_true hq]; rfl
     clear hp hP1 hq h0 h1
     go_enter Tryd.func44, Tryd.ntmps44
     go_wp2_with fail
     rw [HW0.out]
     refine (right_any f g b _).mono ?_
     rintro e w1 ⟨rfl, hb1⟩
     rw [HP.out]
     have HC1 := hide (HC.out.later hb1)
     have HS1 := hide (HS.out.below hb1)
     have HB1 := hide (HB.out.trans (hb1.mono HB.out.size))
     obtain ⟨c0, c1, c2, c3, c4, c5, c6, cz⟩ := cells7 HC1.out
     clear hb1 cz; go_wp2
     refine rgH (fun w' => Below w1.heap.size w1 w') [(true, 0), (true, 3), (true, 1), (true, 4), (true, 5), (false, 2), (false, 6), (false, 7), (false, 8), (false, 9), (false, 10), (false, 11), (false, 12)] bd1 ?_
     refine stH (h := ?_)
     refine stH (h := ?_)
     refine stH (hy := fun w hS => by obtain ⟨a0, a1, a2, a3, a4, a5, a6, -⟩ := cells7 (HC1.out.later hS); go_simp <;> with_reducible rfl) (h := ?_)
     refine stH (hy := fun w hS => by obtain ⟨a0, a1, a2, a3, a4, a5, a6, -⟩ := cells7 (HC1.out.later hS); go_simp <;> with_reducible rfl) (h := ?_)
     refine stH (h := ?_)
     refine alH fun K hK => ?_
     go_wp2_with fail
     refine (of_any r _ (HS1.out.drewN 1)).mono ?_
     rintro e w2 ⟨rfl, hb⟩
     rw [HX.out]
     have Bw2 : Below w1.heap.size w1 w2 := bd1.trans hb
     clear hb
     obtain ⟨i0, i1, i2, i3, i4, i5, i6, -⟩ := cells7 (HC1.out.later Bw2)
     go_wp2
     refine hK.out _ _ Bw2 ?_
     clear hK K
     refine alH fun K hK => ?_
     go_wp2
     refine hK.out _ _ Bw2 ?_
     clear hK K
     refine alH fun K hK => ?_
     go_wp2
     refine hK.out _ _ Bw2 ?_
     clear hK K
     refine alH fun K hK => ?_
     go_wp2
     refine hK.out _ _ Bw2 ?_
     clear hK K
     refine alH fun K hK => ?_
     go_wp2
     refine hK.out _ _ Bw2 ?_
     clear hK K
     refine alH fun K hK => ?_
     go_wp2_with fail
     refine (rmarks_any m n _ (HS1.out.below Bw2)).mono ?_
     rintro e w3 ⟨rfl, hb⟩
     have Bw3 : Below w1.heap.size w1 w3 := Bw2.trans (hb.mono Bw2.size)
     clear hb; go_wp2
     refine hK.out _ _ Bw3 ?_
     clear hK K
     refine alH fun K hK => ?_
     go_wp2
     refine hK.out _ _ Bw3 ?_
     clear hK K
     refine alH fun K hK => ?_
     go_wp2
     refine hK.out _ _ Bw3 ?_
     clear hK K
     refine chainH_nil ?_
     go_wp2; go_ret
     exact ⟨ret_bool E2.out.symm, HB1.out.trans (Bw3.mono HB1.out.size)⟩
    ·have hqq : (P1 == (d : Int)) = false := by simpa using hq
     have E2 : Hid (rightC ⟨r, m, n, d, ⟨f, g, b⟩⟩ = false) := by unfold Hid; rw [E.out, HX.out, decide_eq_false hq]; rfl
     clear hp hP1 hq h0 h1
     go_enter Tryd.func44, Tryd.ntmps44
     go_wp2_with fail
     rw [HW0.out]
     refine (right_any f g b _).mono ?_
     rintro e w1 ⟨rfl, hb1⟩
     rw [HP.out]
     have HC1 := hide (HC.out.later hb1)
     have HS1 := hide (HS.out.below hb1)
     have HB1 := hide (HB.out.trans (hb1.mono HB.out.size))
     obtain ⟨c0, c1, c2, c3, c4, c5, c6, cz⟩ := cells7 HC1.out
     clear hb1 cz; go_wp2
     refine rgH (fun w' => Below w1.heap.size w1 w') [(true, 0), (true, 3), (true, 1), (true, 4), (true, 5), (false, 2), (false, 6), (false, 7), (false, 8), (false, 9), (false, 10), (false, 11), (false, 12)] bd1 ?_
     refine stH (h := ?_)
     refine stH (h := ?_)
     refine stH (hy := fun w hS => by obtain ⟨a0, a1, a2, a3, a4, a5, a6, -⟩ := cells7 (HC1.out.later hS); go_simp <;> with_reducible rfl) (h := ?_)
     refine stH (hy := fun w hS => by obtain ⟨a0, a1, a2, a3, a4, a5, a6, -⟩ := cells7 (HC1.out.later hS); go_simp <;> with_reducible rfl) (h := ?_)
     refine stH (h := ?_)
     refine alH fun K hK => ?_
     go_wp2_with fail
     refine (of_any r _ (HS1.out.drewN 1)).mono ?_
     rintro e w2 ⟨rfl, hb⟩
     rw [HX.out]
     have Bw2 : Below w1.heap.size w1 w2 := bd1.trans hb
     clear hb
     obtain ⟨i0, i1, i2, i3, i4, i5, i6, -⟩ := cells7 (HC1.out.later Bw2)
     go_wp2
     refine hK.out _ _ Bw2 ?_
     clear hK K
     refine alH fun K hK => ?_
     go_wp2
     refine hK.out _ _ Bw2 ?_
     clear hK K
     refine alH fun K hK => ?_
     go_wp2
     refine hK.out _ _ Bw2 ?_
     clear hK K
     rw [hqq]
     refine paH Bw2 (h := ?_)
     refine paH Bw2 (h := ?_)
     refine paH Bw2 (h := ?_)
     refine alH fun K hK => ?_
     go_wp2
     refine hK.out _ _ Bw2 ?_
     clear hK K
     refine alH fun K hK => ?_
     go_wp2
     refine hK.out _ _ Bw2 ?_
     clear hK K
     refine chainH_nil ?_
     go_wp2; go_ret
     exact ⟨ret_bool E2.out.symm, HB1.out.trans (Bw2.mono HB1.out.size)⟩
   ·have e1 : ((d : Int) == 1) = false := by simp; omega
    by_cases h2 : d = 2
    ·have E := hide (rightC_bears r m n d f g b hp (.inr h2))
     have e2 : ((d : Int) == 2) = true := by simp; omega
     obtain ⟨P1, hP1⟩ := exq (wOf r)
     have HX := hide hP1
     by_cases hq : P1 = d
     ·have hqq : (P1 == (d : Int)) = true := by simpa using hq
      have E2 : Hid (rightC ⟨r, m, n, d, ⟨f, g, b⟩⟩ = marksC m n) := by unfold Hid; rw [E.out, HX.out, decide_eq_true hq]; rfl
      clear hp hP1 hq h0 h1 h2
      go_enter Tryd.func44, Tryd.ntmps44
      go_wp2_with fail
      rw [HW0.out]
      refine (right_any f g b _).mono ?_
      rintro e w1 ⟨rfl, hb1⟩
      rw [HP.out]
      have HC1 := hide (HC.out.later hb1)
      have HS1 := hide (HS.out.below hb1)
      have HB1 := hide (HB.out.trans (hb1.mono HB.out.size))
      obtain ⟨c0, c1, c2, c3, c4, c5, c6, cz⟩ := cells7 HC1.out
      clear hb1 cz; go_wp2
      refine rgH (fun w' => Below w1.heap.size w1 w') [(true, 0), (true, 3), (true, 1), (true, 4), (true, 5), (false, 2), (false, 6), (false, 7), (false, 8), (false, 9), (false, 10), (false, 11), (false, 12)] bd1 ?_
      refine stH (h := ?_)
      refine stH (h := ?_)
      refine stH (hy := fun w hS => by obtain ⟨a0, a1, a2, a3, a4, a5, a6, -⟩ := cells7 (HC1.out.later hS); go_simp <;> with_reducible rfl) (h := ?_)
      refine stH (hy := fun w hS => by obtain ⟨a0, a1, a2, a3, a4, a5, a6, -⟩ := cells7 (HC1.out.later hS); go_simp <;> with_reducible rfl) (h := ?_)
      refine stH (h := ?_)
      refine alH fun K hK => ?_
      go_wp2_with fail
      refine (of_any r _ (HS1.out.drewN 1)).mono ?_
      rintro e w2 ⟨rfl, hb⟩
      rw [HX.out]
      have Bw2 : Below w1.heap.size w1 w2 := bd1.trans hb
      clear hb
      obtain ⟨i0, i1, i2, i3, i4, i5, i6, -⟩ := cells7 (HC1.out.later Bw2)
      go_wp2
      refine hK.out _ _ Bw2 ?_
      clear hK K
      refine alH fun K hK => ?_
      go_wp2
      refine hK.out _ _ Bw2 ?_
      clear hK K
      refine alH fun K hK => ?_
      go_wp2
      refine hK.out _ _ Bw2 ?_
      clear hK K
      refine alH fun K hK => ?_
      go_wp2
      refine hK.out _ _ Bw2 ?_
      clear hK K
      refine alH fun K hK => ?_
      go_wp2
      refine hK.out _ _ Bw2 ?_
      clear hK K
      refine alH fun K hK => ?_
      go_wp2_with fail
      refine (rmarks_any m n _ (HS1.out.below Bw2)).mono ?_
      rintro e w3 ⟨rfl, hb⟩
      have Bw3 : Below w1.heap.size w1 w3 := Bw2.trans (hb.mono Bw2.size)
      clear hb; go_wp2
      refine hK.out _ _ Bw3 ?_
      clear hK K
      refine alH fun K hK => ?_
      go_wp2
      refine hK.out _ _ Bw3 ?_
      clear hK K
      refine alH fun K hK => ?_
      go_wp2
      refine hK.out _ _ Bw3 ?_
      clear hK K
      refine chainH_nil ?_
      go_wp2; go_ret
      exact ⟨ret_bool E2.out.symm, HB1.out.trans (Bw3.mono HB1.out.size)⟩
     ·have hqq : (P1 == (d : Int)) = false := by simpa using hq
      have E2 : Hid (rightC ⟨r, m, n, d, ⟨f, g, b⟩⟩ = false) := by unfold Hid; rw [E.out, HX.out, decide_eq_false hq]; rfl
      clear hp hP1 hq h0 h1 h2
      go_enter Tryd.func44, Tryd.ntmps44
      go_wp2_with fail
      rw [HW0.out]
      refine (right_any f g b _).mono ?_
      rintro e w1 ⟨rfl, hb1⟩
      rw [HP.out]
      have HC1 := hide (HC.out.later hb1)
      have HS1 := hide (HS.out.below hb1)
      have HB1 := hide (HB.out.trans (hb1.mono HB.out.size))
      obtain ⟨c0, c1, c2, c3, c4, c5, c6, cz⟩ := cells7 HC1.out
      clear hb1 cz; go_wp2
      refine rgH (fun w' => Below w1.heap.size w1 w') [(true, 0), (true, 3), (true, 1), (true, 4), (true, 5), (false, 2), (false, 6), (false, 7), (false, 8), (false, 9), (false, 10), (false, 11), (false, 12)] bd1 ?_
      refine stH (h := ?_)
      refine stH (h := ?_)
      refine stH (hy := fun w hS => by obtain ⟨a0, a1, a2, a3, a4, a5, a6, -⟩ := cells7 (HC1.out.later hS); go_simp <;> with_reducible rfl) (h := ?_)
      refine stH (hy := fun w hS => by obtain ⟨a0, a1, a2, a3, a4, a5, a6, -⟩ := cells7 (HC1.out.later hS); go_simp <;> with_reducible rfl) (h := ?_)
      refine stH (h := ?_)
      refine alH fun K hK => ?_
      go_wp2_with fail
      refine (of_any r _ (HS1.out.drewN 1)).mono ?_
      rintro e w2 ⟨rfl, hb⟩
      rw [HX.out]
      have Bw2 : Below w1.heap.size w1 w2 := bd1.trans hb
      clear hb
      obtain ⟨i0, i1, i2, i3, i4, i5, i6, -⟩ := cells7 (HC1.out.later Bw2)
      go_wp2
      refine hK.out _ _ Bw2 ?_
      clear hK K
      refine alH fun K hK => ?_
      go_wp2
      refine hK.out _ _ Bw2 ?_
      clear hK K
      refine alH fun K hK => ?_
      go_wp2
      refine hK.out _ _ Bw2 ?_
      clear hK K
      rw [hqq]
      refine paH Bw2 (h := ?_)
      refine paH Bw2 (h := ?_)
      refine paH Bw2 (h := ?_)
      refine alH fun K hK => ?_
      go_wp2
      refine hK.out _ _ Bw2 ?_
      clear hK K
      refine alH fun K hK => ?_
      go_wp2
      refine hK.out _ _ Bw2 ?_
      clear hK K
      refine chainH_nil ?_
      go_wp2; go_ret
      exact ⟨ret_bool E2.out.symm, HB1.out.trans (Bw2.mono HB1.out.size)⟩
    ·have e2 : ((d : Int) == 2) = false := by simp; omega
     have E := hide (rightC_more r m n d f g b h0 h1 h2)
     clear hp h0 h1 h2
     go_enter Tryd.func44, Tryd.ntmps44
     go_wp2_with fail
     rw [HW0.out]
     refine (right_any f g b _).mono ?_
     rintro e w1 ⟨rfl, hb1⟩
     rw [HP.out]
     have HC1 := hide (HC.out.later hb1)
     have HS1 := hide (HS.out.below hb1)
     have HB1 := hide (HB.out.trans (hb1.mono HB.out.size))
     obtain ⟨c0, c1, c2, c3, c4, c5, c6, cz⟩ := cells7 HC1.out
     clear hb1 cz; go_wp2; go_ret
     exact ⟨ret_bool E.out.symm, HB1.out⟩
def Cl (te : TypeId) (k : IntKind) (B : Nat) (w : World) (x : Value) (z : List Int) : Prop := w.ownsRow B te 1 x z.length (z.map (Value.int k))
section
variable {te e : TypeId} {k : IntKind} {B : Nat} {w w' wr : World} {x v : Value} {z : List Int}
theorem Own.cl (h : Own te k B w wr x z) : Cl te k B wr x z := h.own
theorem Cl.less {C : Nat} (h : Cl te k B w x z) (hC : C ≤ B) : Cl te k C w x z := by
 refine ⟨h.1, ?_⟩
 rcases h.2 with h0 | ⟨g, cap, cur, hv, hB, h1⟩
 ·exact .inl h0
 ·exact .inr ⟨g, cap, cur, hv, Nat.le_trans hC hB, h1⟩
theorem Cl.keep (h : Cl te k B w x z) (hb : ∀ (g : Nat) (cur : Array Value), w.heap[g]? = some (Obj.cells cur te (0, 0)) → w'.heap[g]? = w.heap[g]?) : Cl te k B w' x z := by
 refine ⟨h.1, ?_⟩
 rcases h.2 with h0 | ⟨g, cap, cur, hv, hB, hh, h1⟩
 ·exact .inl h0
 ·exact .inr ⟨g, cap, cur, hv, hB, (hb g cur hh).trans hh, h1⟩
theorem Cl.later (h : Cl te k B w x z) (hb : Below w.heap.size w w') : Cl te k B w' x z := h.keep fun g cur hh => hb.block g (Array.getElem?_eq_some_iff.1 hh).1
theorem Cl.alloc (h : Cl te k B w x z) (o : Obj) : Cl te k B (w.alloc o) x z := h.keep fun g cur hh => Below.heap_alloc w o g (Array.getElem?_eq_some_iff.1 hh).1
theorem Cl.one (h : Cl te k B w x z) : x.oneCell' = true := by
 rcases h.2 with ⟨rfl, _⟩ | ⟨g, cap, cur, rfl, _⟩ <;> rfl
theorem Cl.form (h : Cl te k B w x z) : ∃ A cap, x = .slice A z.length cap ∧ Ints k w A z ∧ z.length ≤ cap ∧ (A = none → cap = 0) ∧ cap ≤ maxLen :=
 Own.form2 (w := w) (B := min B w.heap.size) ⟨h.less (Nat.min_le_left _ _), Below.refl _ _, Nat.min_le_right _ _⟩
end
structure Rws (e te : TypeId) (k : IntKind) (B : Nat) (w wr : World) (v : Value) (zss : List (List Int)) : Prop where
 row : ∃ xs : List Value, wr.ownsRow B e 1 v zss.length xs ∧ ∀ (i : Nat) (x : Value) (z : List Int), xs[i]? = some x → zss[i]? = some z → Cl te k B wr x z
 bel : Below B w wr
 le : B ≤ wr.heap.size
section
variable {te e : TypeId} {k : IntKind} {B : Nat} {w wr w1 : World} {v : Value} {zss : List (List Int)}
theorem Rws.start (hB : B ≤ w.heap.size) : Rws e te k B w w (.slice none 0 0) [] := ⟨⟨[], World.ownsRow_nil _ _ _ _, fun i x z h => by simp at h⟩, Below.refl _ _, hB⟩
theorem Rws.later (h : Rws e te k B w wr v zss) (hb : Below wr.heap.size wr w1) : Rws e te k B w w1 v zss := by
 obtain ⟨xs, ho, hc⟩ := h.row
 refine ⟨⟨xs, ⟨ho.1, ?_⟩, fun i x z h1 h2 => (hc i x z h1 h2).later hb⟩, h.bel.trans (hb.mono h.le), Nat.le_trans h.le hb.size⟩
 rcases ho.2 with h0 | ⟨g, cap, cur, hv, hB, hh, h1⟩
 ·exact .inl h0
 ·exact .inr ⟨g, cap, cur, hv, hB, by rw [hb.block g (Array.getElem?_eq_some_iff.1 hh).1, hh], h1⟩
theorem Rws.alloc (h : Rws e te k B w wr v zss) (o : Obj) : Rws e te k B w (wr.alloc o) v zss := h.later ((Below.refl _ _).alloc (Nat.le_refl _) _)
theorem Rws.form (h : Rws e te k B w wr v zss) : ∃ A cap, v = .slice A zss.length cap ∧ zss.length ≤ cap ∧ (A = none → cap = 0) ∧
  ∀ (i : Nat) (z : List Int), zss[i]? = some z → ∃ g A' c', A = some ⟨g, 0, none⟩ ∧ g < wr.heap.size ∧ wr.cell? ⟨g, 0 + i, none⟩ = some (.slice A' z.length c') ∧ Ints k wr A' z ∧ z.length ≤ c' ∧ (A' = none → c' = 0) ∧ c' ≤ maxLen := by
 obtain ⟨xs, ho, hc⟩ := h.row
 have hxl : xs.length = zss.length := by have := ho.1; omega
 rcases ho.2 with ⟨rfl, h0⟩ | ⟨g, cap, cur, rfl, _, hh, hcap, hm, _, _⟩
 ·have : zss = [] := List.eq_nil_of_length_eq_zero h0
  subst this
  exact ⟨none, 0, rfl, Nat.le_refl _, (fun _ => rfl), fun i z hz => by simp at hz⟩
 ·refine ⟨_, cap, rfl, hcap, (fun h => by cases h), fun i z hz => ?_⟩
  have hi : i < zss.length := (List.getElem?_eq_some_iff.1 hz).1
  have hx : xs[i]? = some xs[i] := List.getElem?_eq_getElem (by omega)
  obtain ⟨A', c', e1, h1, h2, h3, h4⟩ := (hc i _ z hx hz).form
  have hcell := ho.cellAt i (by omega)
  refine ⟨g, A', c', rfl, (Array.getElem?_eq_some_iff.1 hh).1, ?_, h1, h2, h3, h4⟩
  rw [Nat.zero_add, hcell, hx, e1]
end
structure ElemR (P : Program) (S e : TypeId) : Prop where
 under : P.underlying S = some (.slice e)
 info : (P.info? e).map (fun i => (i.zero, i.size, i.bytes)) = some (some (.slice none 0 0), 1, 24)
theorem Own.from {e : TypeId} {k : IntKind} {B : Nat} {w w1 wr : World} {v : Value} {bs : List Int} (h : Own e k w1.heap.size w1 wr v bs) (hb : Below B w w1) (hB : B ≤ w1.heap.size) : Own e k B w wr v bs :=
 ⟨h.cl.less hB, hb.trans (h.bel.mono hB), Nat.le_trans hB h.le⟩
def Gave (v : Value) (w : World) (e : Ending) (w' : World) : Prop := e = .returned v ∧ Below w.heap.size w w'
theorem lof_v (r m n : Int) (d f g b : Nat) (hr : R32 r) (hm : R32 m) (hn : R32 n) (w : World) : Calls Tryd.prog 39 #[.agg #[.int .i32 r, .int .i32 m, .int .i32 n, .int .u8 d, .int .u8 f, .int .u8 g, .int .u8 b]] w (Gave (.agg #[.int .i64 r, .int .i64 m, .int .i64 n, .int .u8 d, .int .u8 f, .int .u8 g, .int .u8 b]) w) := lof_any r m n d f g b hr hm hn w
theorem blank_v (f g b : Nat) (w : World) : Calls Tryd.prog 41 #[.agg #[.int .u8 f, .int .u8 g, .int .u8 b]] w (Gave (.agg #[.int .i32 32, .int .i32 0, .int .i32 0, .int .u8 1, .int .u8 f, .int .u8 g, .int .u8 b]) w) := blank_any f g b w
theorem rest_v (r m n : Int) (d f g b : Nat) (w : World) : Calls Tryd.prog 46 #[.agg #[.int .i32 r, .int .i32 m, .int .i32 n, .int .u8 d, .int .u8 f, .int .u8 g, .int .u8 b]] w (Gave (.agg #[.int .i32 0, .int .i32 0, .int .i32 0, .int .u8 0, .int .u8 f, .int .u8 g, .int .u8 b]) w) := rest_any r m n d f g b w
theorem r32_0 : R32 0 := by unfold R32; omega
theorem mark_r32 {x r m n : Int} {d : Nat} {p : Pn} {r' m' n' : Int} {d' : Nat} {q : Pn} {ok : Bool} (hx : R32 x) (hr : R32 r) (hm : R32 m) (hn : R32 n) (hd : d < 256) (h : markC ⟨r, m, n, d, p⟩ x = (⟨r', m', n', d', q⟩, ok)) : R32 r' ∧ R32 m' ∧ R32 n' ∧ d' < 256 := by
 unfold markC at h
 split at h
 ·split at h
  ·cases h; exact ⟨hr, hx, hn, hd⟩
  ·split at h
   ·cases h; exact ⟨hr, hm, hx, hd⟩
   ·cases h; exact ⟨hr, hm, hn, hd⟩
 ·cases h; exact ⟨hr, hm, hn, hd⟩
theorem cells3 {w : World} {q : Nat} {t : TypeId} {x0 x1 x2 : Value} (h : Whole w q t [x0, x1, x2]) : w.cell? ⟨q, 0, none⟩ = some x0 ∧ w.cell? ⟨q, 1, none⟩ = some x1 ∧ w.cell? ⟨q, 2, none⟩ = some x2 ∧ q < w.heap.size := ⟨h.cell 0, h.cell 1, h.cell 2, h.lt⟩
theorem i32_R {a : Int} (h : (Lit.int .i32 a).wf = true) : R32 a := by
 have : -2147483648 ≤ a ∧ a ≤ 2147483647 := by simpa [Lit.wf, IntKind.min, IntKind.max, IntKind.signed, IntKind.bits] using h
 exact this
def Lined (cs : List Cel) (w : World) (e : Ending) (w' : World) : Prop := ∃ g, e = .returned (.slice (some ⟨g, 0, none⟩) cs.length cs.length) ∧ w.heap.size ≤ g ∧ Whole w' g 48 (flatC .i32 cs) ∧ Below w.heap.size w w'
theorem lay_zero (n : Nat) (cs : List Cel) (h : cs.length = n) : layC (List.replicate n zeroC) 0 (cs.take n) = cs := by
 subst h; unfold layC; simp
theorem copied_any (A : Option Addr) (n c : Nat) (cs : List Cel) (w : World) (h : Cels .i32 w A cs) (hn : cs.length = n) (hl : n ≤ 1000000) : Calls Tryd.prog 43 #[.slice A n c] w (Lined cs w) := by
 have HC := hide h; have HN := hide hn; clear h hn
 go_enter Tryd.func43, Tryd.ntmps43
 go_wp2_with (at_make; refine stopw ?_)
 unfold Hid
 refine wpList_makeL elemL rfl _ _ rfl n rfl rfl hl (by omega) ?_
 intro w1 hw1 hb1; have HW1 := hide hw1; have HB1 := hide hb1; clear hw1 hb1
 obtain ⟨w2, hrun, hw2, ho2⟩ := run_copyL elemL w1 3 w.heap.size 0 48 (List.replicate n zeroC) cs A n n n c HW1.out (HC.out.below HB1.out) HN.out (by simp)
 rw [Nat.zero_mul] at hrun
 rw [lay_zero n cs HN.out] at hw2
 have HW2 := hide hw2
 have HB2 := hide (ho2.below HB1.out HB1.out.size (Nat.le_refl _))
 clear hw2 ho2; go_wp2; go_ret
 exact ⟨_, by rw [HN.out]; rfl, Nat.le_refl _, HW2.out, HB2.out⟩
theorem set7 {α : Type} (L : List α) (o : Nat) (h : o + 7 ≤ L.length) (v0 v1 v2 v3 v4 v5 v6 : α) : ((((((L.set o v0).set (o + 1) v1).set (o + 2) v2).set (o + 3) v3).set (o + 4) v4).set (o + 5) v5).set (o + 6) v6 = L.take o ++ ([v0, v1, v2, v3, v4, v5, v6] ++ L.drop (o + 7)) := by
 apply List.ext_getElem?
 intro i
 by_cases h1 : i < o
 ·rw [List.getElem?_append_left (by simp; omega), List.getElem?_take, if_pos h1]
  simp only [List.getElem?_set, List.length_set]
  simp [show ¬ o = i by omega, show ¬ o + 1 = i by omega, show ¬ o + 2 = i by omega, show ¬ o + 3 = i by omega, show ¬ o + 4 = i by omega, show ¬ o + 5 = i by omega, show ¬ o + 6 = i by omega]
 ·obtain ⟨d, rfl⟩ : ∃ d, i = o + d := ⟨i - o, by omega⟩
  have hl : (L.take o).length = o := by simp; omega
  rw [List.getElem?_append_right (by omega), hl, show o + d - o = d by omega]
  simp only [List.getElem?_set, List.length_set]
  match d with
  | 0 => simp; omega
  | 1 => simp; omega
  | 2 => simp; omega
  | 3 => simp; omega
  | 4 => simp; omega
  | 5 => simp; omega
  | 6 => simp; omega
  | d + 7 =>
   rw [List.getElem?_append_right (by simp), List.getElem?_drop]
   simp
   congr 1
   omega
theorem put_cell {k : IntKind} {w : World} {g : Nat} {t : TypeId} {ds : List Cel} (h : Whole w g t (flatC k ds)) (o j : Nat) (ho : o = j * 7) (hj : j < ds.length) (c : Cel) :
  Whole (((((((w.setCell ⟨g, o, none⟩ (.int k c.r)).setCell ⟨g, o + 1, none⟩ (.int k c.m)).setCell ⟨g, o + 2, none⟩ (.int k c.n)).setCell ⟨g, o + 3, none⟩ (.int .u8 c.w)).setCell ⟨g, o + 4, none⟩ (.int .u8 c.p.f)).setCell ⟨g, o + 5, none⟩ (.int .u8 c.p.g)).setCell ⟨g, o + 6, none⟩ (.int .u8 c.p.b)) g t (flatC k (ds.set j c)) := by
 have e := ((((((h.put o (.int k c.r)).put (o + 1) (.int k c.m)).put (o + 2) (.int k c.n)).put (o + 3) (.int .u8 c.w)).put (o + 4) (.int .u8 c.p.f)).put (o + 5) (.int .u8 c.p.g)).put (o + 6) (.int .u8 c.p.b)
 rw [set7 _ o (by rw [flatC_len]; omega)] at e
 rw [set_lay ds j c hj, flat_lay]
 subst ho
 exact e
theorem only_cell {w : World} {g : Nat} (o : Nat) (x0 x1 x2 x3 x4 x5 x6 : Value) : Only g w (((((((w.setCell ⟨g, o, none⟩ x0).setCell ⟨g, o + 1, none⟩ x1).setCell ⟨g, o + 2, none⟩ x2).setCell ⟨g, o + 3, none⟩ x3).setCell ⟨g, o + 4, none⟩ x4).setCell ⟨g, o + 5, none⟩ x5).setCell ⟨g, o + 6, none⟩ x6) :=
 ((((((Only.put _ _).trans (Only.put _ _)).trans (Only.put _ _)).trans (Only.put _ _)).trans (Only.put _ _)).trans (Only.put _ _)).trans (Only.put _ _)
theorem Whole.seven {k : IntKind} {w : World} {g : Nat} {t : TypeId} {ds : List Cel} (h : Whole w g t (flatC k ds)) (o j : Nat) (ho : o = j * 7) (hj : j < ds.length) :
  w.cell? ⟨g, o, none⟩ = some (.int k (cAt ds j).r) ∧ w.cell? ⟨g, o + 1, none⟩ = some (.int k (cAt ds j).m) ∧ w.cell? ⟨g, o + 2, none⟩ = some (.int k (cAt ds j).n) ∧ w.cell? ⟨g, o + 3, none⟩ = some (.int .u8 ((cAt ds j).w : Int)) ∧ w.cell? ⟨g, o + 4, none⟩ = some (.int .u8 ((cAt ds j).p.f : Int)) ∧ w.cell? ⟨g, o + 5, none⟩ = some (.int .u8 ((cAt ds j).p.g : Int)) ∧ w.cell? ⟨g, o + 6, none⟩ = some (.int .u8 ((cAt ds j).p.b : Int)) ∧ ∀ i, w.frozen? ⟨g, i, none⟩ = false := by
 subst ho
 have key : ∀ d v, d < 7 → (cellL k (cAt ds j))[d]? = some v → w.cell? ⟨g, j * 7 + d, none⟩ = some v := by
  intro d v hd hv
  rw [h.cell, flatC_get k ds j d hd, get_cAt ds j hj]
  exact hv
 exact ⟨key 0 _ (by omega) rfl, key 1 _ (by omega) rfl, key 2 _ (by omega) rfl, key 3 _ (by omega) rfl, key 4 _ (by omega) rfl, key 5 _ (by omega) rfl, key 6 _ (by omega) rfl, h.frozen⟩
def fillC (ds : List Cel) (p k : Nat) (c : Cel) : List Cel := tab ds.length (fun i => if p ≤ i ∧ i < p + k then c else cAt ds i)
theorem fill_len (ds : List Cel) (p k : Nat) (c : Cel) : (fillC ds p k c).length = ds.length := tab_len _ _
theorem fill_0 (ds : List Cel) (p : Nat) (c : Cel) : fillC ds p 0 c = ds := by
 unfold fillC
 conv => rhs; rw [← tab_self ds]
 exact tab_eq fun i _ => by rw [if_neg (by omega)]
theorem fill_next (ds : List Cel) (p k : Nat) (c : Cel) : fillC ds p (k + 1) c = (fillC ds p k c).set (p + k) c := by
 unfold fillC
 rw [tab_set]
 refine tab_eq fun i _ => ?_
 by_cases h : i = p + k
 ·rw [if_pos (by omega), if_pos h]
 ·rw [if_neg h]
  by_cases h2 : p ≤ i ∧ i < p + k
  ·rw [if_pos (by omega), if_pos h2]
  ·rw [if_neg (by omega), if_neg h2]
theorem fill_any (g p n cap : Nat) (r m x : Int) (d f y b : Nat) (ds : List Cel) (w : World) (h : Whole w g 48 (flatC .i32 ds)) (hp : p + n ≤ ds.length) (hl : ds.length ≤ 1000000) :
  Calls Tryd.prog 40 #[.slice (some ⟨g, p * 7, none⟩) n cap, .agg #[.int .i32 r, .int .i32 m, .int .i32 x, .int .u8 d, .int .u8 f, .int .u8 y, .int .u8 b]] w fun e w' => e = .returned (.tuple #[]) ∧ Whole w' g 48 (flatC .i32 (fillC ds p n ⟨r, m, x, d, ⟨f, y, b⟩⟩)) ∧ Only g w w' := by
 obtain ⟨W0, hW0⟩ := exq (w.alloc (.cells #[.int .i32 r, .int .i32 m, .int .i32 x, .int .u8 d, .int .u8 f, .int .u8 y, .int .u8 b] 48))
 have HA : Hid (Whole W0 w.heap.size 48 [.int .i32 r, .int .i32 m, .int .i32 x, .int .u8 d, .int .u8 f, .int .u8 y, .int .u8 b]) := by unfold Hid; rw [← hW0]; exact Whole.new _ _ _
 have HG : Hid (Whole W0 g 48 (flatC .i32 ds)) := by unfold Hid; rw [← hW0]; exact h.alloc _
 have HO : Hid (Only g w W0) := by unfold Hid; rw [← hW0]; exact Only.of_below ((Below.refl _ _).alloc (Nat.le_refl _) _)
 have HL : Hid (g < w.heap.size) := h.lt
 have HW0 := hide hW0; clear hW0 h
 obtain ⟨P, hP⟩ := exq (p * 7)
 rw [hP]
 have HP := hide hP; clear hP
 go_enter Tryd.func40, Tryd.ntmps40
 go_wp2; rw [HW0.out]
 go_loopw [4, 7] (fun _ i wr => ∃ k : Nat, k ≤ n ∧ i = .int .i64 k ∧ Whole wr g 48 (flatC .i32 (fillC ds p k ⟨r, m, x, d, ⟨f, y, b⟩⟩)) ∧ Only g W0 wr) (fun _ i _ => n - (intOf i).toNat)
 case atStart => exact ⟨0, Nat.zero_le _, rfl, by rw [fill_0]; exact HG.out, Only.refl⟩
 case round =>
  obtain ⟨k, hk, rfl, hw, ho⟩ := hrel
  by_cases hlt : k < n
  ·obtain ⟨a0, a1, a2, a3, a4, a5, a6, -⟩ := cells7 (HA.out.far ho (by have := HL.out; omega))
   obtain ⟨b0, b1, b2, b3, b4, b5, b6, b7⟩ := hw.seven (P + k * 7) (p + k) (by rw [← HP.out]; omega) (by rw [fill_len]; omega)
   have HV := hide hw; have HOO := hide ho; clear hw ho; go_wp2
   go_roundw
   case rel => exact ⟨k + 1, by omega, by go_num, by rw [fill_next]; exact put_cell HV.out _ (p + k) (by rw [← HP.out]; omega) (by rw [fill_len]; omega) ⟨r, m, x, d, ⟨f, y, b⟩⟩, HOO.out.trans (only_cell _ _ _ _ _ _ _ _)⟩
   case measure => simp [intOf]; omega
  ·have HV := hide hw
   have HOO := hide ho; clear hw ho
   obtain rfl : k = n := by omega
   go_wp2
   exact bodyPost_end (v := .tuple #[]) (by simp [results, Tryd.results40]) rfl ⟨rfl, HV.out, HO.out.trans HOO.out⟩
theorem Whole.sevenC {k : IntKind} {w : World} {g : Nat} {t : TypeId} {ds : List Cel} (h : Whole w g t (flatC k ds)) (o j : Nat) (ho : o = j * 7) (hj : j < ds.length) {r m x : Int} {d f y b : Nat} (hc : cAt ds j = ⟨r, m, x, d, ⟨f, y, b⟩⟩) :
  w.cell? ⟨g, o, none⟩ = some (.int k r) ∧ w.cell? ⟨g, o + 1, none⟩ = some (.int k m) ∧ w.cell? ⟨g, o + 2, none⟩ = some (.int k x) ∧ w.cell? ⟨g, o + 3, none⟩ = some (.int .u8 d) ∧ w.cell? ⟨g, o + 4, none⟩ = some (.int .u8 f) ∧ w.cell? ⟨g, o + 5, none⟩ = some (.int .u8 y) ∧ w.cell? ⟨g, o + 6, none⟩ = some (.int .u8 b) ∧ ∀ i, w.frozen? ⟨g, i, none⟩ = false := by
 have := h.seven o j ho hj
 rw [hc] at this
 exact this
theorem Cels.sevenC {k : IntKind} {w : World} {g off : Nat} {ds : List Cel} (h : Cels k w (some ⟨g, off, none⟩) ds) (j : Nat) (hj : j < ds.length) {r m x : Int} {d f y b : Nat} (hc : cAt ds j = ⟨r, m, x, d, ⟨f, y, b⟩⟩) :
  w.cell? ⟨g, off + j * 7, none⟩ = some (.int k r) ∧ w.cell? ⟨g, off + j * 7 + 1, none⟩ = some (.int k m) ∧ w.cell? ⟨g, off + j * 7 + 2, none⟩ = some (.int k x) ∧ w.cell? ⟨g, off + j * 7 + 3, none⟩ = some (.int .u8 d) ∧ w.cell? ⟨g, off + j * 7 + 4, none⟩ = some (.int .u8 f) ∧ w.cell? ⟨g, off + j * 7 + 5, none⟩ = some (.int .u8 y) ∧ w.cell? ⟨g, off + j * 7 + 6, none⟩ = some (.int .u8 b) ∧ g < w.heap.size := by
 obtain ⟨b', off', e, hb, key⟩ := h.at hj
 cases e
 rw [hc] at key
 exact ⟨key 0 _ rfl, key 1 _ rfl, key 2 _ rfl, key 3 _ rfl, key 4 _ rfl, key 5 _ rfl, key 6 _ rfl, hb⟩
theorem mendown_any (g n : Nat) (ds : List Cel) (w : World) (h : Whole w g 48 (flatC .i32 ds)) (hn : ds.length = n) (hl : n ≤ 1000000) :
  Calls Tryd.prog 47 #[.slice (some ⟨g, 0, none⟩) n n] w fun e w' => e = .returned (.slice (some ⟨g, 0, none⟩) n n) ∧ Whole w' g 48 (flatC .i32 (mendC ds)) ∧ Only g w w' := by
 have HG := hide h; have HN := hide hn; clear h hn
 go_enter Tryd.func47, Tryd.ntmps47
 go_wp2
 go_loopw [3, 4, 7] (fun _ _ i wr => ∃ k : Nat, k ≤ n ∧ i = .int .i64 k ∧ Whole wr g 48 (flatC .i32 (mixC ds k)) ∧ Only g w wr) (fun _ _ i _ => n - (intOf i).toNat)
 case atStart => exact ⟨0, Nat.zero_le _, rfl, by rw [mix_0]; exact HG.out, Only.refl⟩
 case round =>
  obtain ⟨k, hk, rfl, hw, ho⟩ := hrel
  have HV := hide hw; have HOO := hide ho; clear hw ho
  by_cases hlt : k < n
  ·obtain ⟨⟨r, m, x, d, ⟨f, y, b⟩⟩, hc⟩ : ∃ c, cAt (mixC ds k) k = c := ⟨_, rfl⟩
   have HM : Hid (cAt ds k = ⟨r, m, x, d, ⟨f, y, b⟩⟩) := by unfold Hid; rw [← hc, mix_self ds k (by rw [HN.out]; exact hlt)]
   obtain ⟨a0, a1, a2, a3, a4, a5, a6, -⟩ := HV.out.sevenC (k * 7) k rfl (by rw [mix_len, HN.out]; exact hlt) hc
   obtain ⟨W1, hW1⟩ := exq (wr.alloc (.cells #[.int .i32 r, .int .i32 m, .int .i32 x, .int .u8 d, .int .u8 f, .int .u8 y, .int .u8 b] 48))
   have HA : Hid (Whole W1 wr.heap.size 48 [.int .i32 r, .int .i32 m, .int .i32 x, .int .u8 d, .int .u8 f, .int .u8 y, .int .u8 b]) := by unfold Hid; rw [← hW1]; exact Whole.new _ _ _
   have HG1 : Hid (Whole W1 g 48 (flatC .i32 (mixC ds k))) := by unfold Hid; rw [← hW1]; exact HV.out.alloc _
   have HO1 : Hid (Only g w W1) := by unfold Hid; rw [← hW1]; exact HOO.out.trans (Only.of_below ((Below.refl _ _).alloc (Nat.le_refl _) _))
   have HL : Hid (g < wr.heap.size) := HV.out.lt
   have HW1 := hide hW1
   have HAL := hide (mix_alone ds k (by rw [HN.out]; exact hlt))
   clear hW1 hc HV HOO; go_wp2_with fail
   rw [HW1.out]
   refine (alone_any (some ⟨g, 0, none⟩) n n k (mixC ds k) W1 HG1.out.cels (by rw [mix_len, HN.out]) hlt hl).mono ?_
   rintro e w1 ⟨rfl, rfl⟩
   rw [HAL.out]
   clear a0 a1 a2 a3 a4 a5 a6
   cases hal : aloneC ds k
   case false =>
    have HS := hide (mix_stay ds k (by rw [HN.out]; exact hlt) hal)
    clear hal; go_wp2
    go_roundw
    case rel => exact ⟨k + 1, by omega, by go_num, by rw [HS.out]; exact HG1.out, HO1.out⟩
    case measure => simp [intOf]; omega
   case true =>
    have HS : Hid (mixC ds (k + 1) = (mixC ds k).set k ⟨32, 0, 0, 1, ⟨f, y, b⟩⟩) := by unfold Hid; rw [mix_next, mendAt_yes ds k hal, HM.out]; rfl
    clear hal
    obtain ⟨a0, a1, a2, a3, a4, a5, a6, -⟩ := cells7 HA.out
    go_wp2_with fail
    refine (blank_v f y b W1).mono ?_
    rintro e w2 ⟨rfl, hb⟩
    clear a0 a1 a2 a3 a4 a5 a6
    have HG2 := hide (HG1.out.later hb)
    have HO2 := hide (HO1.out.trans (Only.of_below hb))
    clear hb
    obtain ⟨b0, b1, b2, b3, b4, b5, b6, b7⟩ := HG2.out.seven (k * 7) k rfl (by rw [mix_len, HN.out]; exact hlt)
    go_wp2
    go_roundw
    case rel => exact ⟨k + 1, by omega, by go_num, by rw [HS.out]; exact put_cell HG2.out _ k rfl (by rw [mix_len, HN.out]; exact hlt) ⟨32, 0, 0, 1, ⟨f, y, b⟩⟩, HO2.out.trans (only_cell _ _ _ _ _ _ _ _)⟩
    case measure => simp [intOf]; omega
  ·go_wp2
   go_ret
   exact ⟨rfl, by rw [← mix_all ds k (by rw [HN.out]; omega)]; exact HV.out, HOO.out⟩
def CelOk (r m n : Int) (d f g b : Nat) : Prop := R32 r ∧ R32 m ∧ R32 n ∧ d < 256 ∧ f < 256 ∧ g < 256 ∧ b < 256
def PenOk (f g b : Nat) : Prop := f < 256 ∧ g < 256 ∧ b < 256
def CelB (c : Cel) : Prop := R32 c.r ∧ R32 c.m ∧ R32 c.n ∧ c.w < 256
def LB (cs : List Cel) : Prop := ∀ i, i < cs.length → CelB (cAt cs i)
def MadeC (t : TypeId) (k : IntKind) (w : World) (cs : List Cel) (e : Ending) (w' : World) : Prop := ∃ v, e = .returned v ∧ OwnC t k w.heap.size w w' v cs
theorem lcut_any (A : Option Addr) (n c : Nat) (cs : List Cel) (w : World) (h : Cels .i32 w A cs) (hn : n ≤ cs.length) (hc : A = none → c = 0) (hnc : n ≤ c) : Calls Tryd.prog 10 #[.slice A n c] w (MadeC 48 .i32 w (cs.take (min n 30))) := by
 obtain ⟨m, hm⟩ := exq (min n 30)
 have em : min (n : Int) 30 = (m : Int) := by omega
 have hm1 : m ≤ c := by omega
 have hm2 : m ≤ 30 := by omega
 have HC := hide ((h.take m).alloc (.cells #[] 48))
 have HA := hide hc
 have HL : Hid ((cs.take m).length = m) := by unfold Hid; rw [List.length_take]; omega
 have HM := hide hm; clear h hn hc hm hnc
 go_enter Tryd.func10, Tryd.ntmps10
 go_wp2_with (at_builtin; refine stopw ?_)
 unfold Hid
 refine wpList_catC elemL rfl _ _ rfl rfl rfl (OwnC.empty w 48 .i32) HC.out HL.out HA.out (by simp; omega) (by omega) ?_
 intro v' w1 hown
 simp only [List.nil_append] at hown
 have HV := hide hown; clear hown; go_wp2; go_ret
 exact ⟨_, rfl, by rw [HM.out]; exact HV.out⟩
theorem take_cAt (cs : List Cel) (k : Nat) (h : k < cs.length) : cs.take (k + 1) = cs.take k ++ [cAt cs k] := by
 rw [List.take_succ_eq_append_getElem h]
 congr 2
 exact Option.some.inj ((List.getElem?_eq_getElem h).symm.trans (get_cAt cs k h))
theorem lineof_any (A : Option Addr) (n c : Nat) (cs : List Cel) (w : World) (h : Cels .i32 w A cs) (hn : cs.length = n) (hl : n ≤ 1000000) (hb : LB cs) : Calls Tryd.prog 20 #[.slice A n c] w (MadeC 82 .i64 w cs) := by
 have HC := hide h; have HN := hide hn; have HLB := hide hb; clear h hn hb
 go_enter Tryd.func20, Tryd.ntmps20
 go_wp2
 go_loopw [3, 4] (fun v i wr => ∃ k : Nat, k ≤ n ∧ i = .int .i64 k ∧ OwnC 82 .i64 w.heap.size w wr v (cs.take k)) (fun _ i _ => n - (intOf i).toNat)
 case atStart => exact ⟨0, Nat.zero_le _, rfl, OwnC.start (Nat.le_refl _)⟩
 case round =>
  obtain ⟨k, hk, rfl, hown⟩ := hrel
  have HV := hide hown; clear hown
  by_cases hlt : k < n
  ·obtain ⟨b1, o1, rfl, l1, -⟩ := HC.out.at (i := k) (by rw [HN.out]; exact hlt)
   have hcb := HLB.out k (by rw [HN.out]; exact hlt)
   have HT := hide (take_cAt cs k (by rw [HN.out]; exact hlt))
   obtain ⟨⟨r, x, y, z, ⟨f, g, b⟩⟩, hc⟩ : ∃ q, cAt cs k = q := ⟨_, rfl⟩
   rw [hc] at hcb HT
   obtain ⟨hr, hx, hy, -⟩ := hcb
   obtain ⟨u0, u1, u2, u3, u4, u5, u6, -⟩ := (HC.out.below HV.out.bel).sevenC k (by rw [HN.out]; exact hlt) hc
   clear hc; go_wp2_with fail
   refine (lof_v r x y z f g b hr hx hy wr).mono ?_
   rintro e w1 ⟨rfl, hb1⟩
   have HV1 := hide (HV.out.later hb1)
   clear hb1 u0 u1 u2 u3 u4 u5 u6
   go_wp2_with (at_builtin; refine stopw ?_)
   unfold Hid
   refine wpList_pushC elemLC ⟨r, x, y, z, ⟨f, g, b⟩⟩ rfl _ _ rfl rfl rfl HV1.out (by rw [List.length_take]; omega) (by omega) ?_
   intro v' wn hn1
   rw [← HT.out] at hn1
   have HV' := hide hn1
   clear hn1 hr hx hy; go_wp2
   go_roundw
   case rel => exact ⟨k + 1, by omega, by go_num, HV'.out⟩
   case measure => simp [intOf]; omega
  ·go_wp2
   go_ret
   exact ⟨_, rfl, by have q := HV.out; rwa [List.take_of_length_le (by rw [HN.out]; omega)] at q⟩
theorem fill_new (n : Int) : fillC (List.replicate (lenN n) zeroC) 0 (lenN n) (blankC zeroP) = newC n := by
 unfold fillC newC
 rw [List.length_replicate]
 exact tab_eq fun i hi => by rw [if_pos (by omega)]
theorem new_len (n : Int) : (newC n).length = lenN n := tab_len _ _
theorem new_any (n : Int) (w : World) : Calls Tryd.prog 22 #[.int .i64 n] w (Lined (newC n) w) := by
 obtain ⟨N, hN⟩ := exq (lenN n)
 have hm : min (max n 0) 512 = (N : Int) := by rw [← hN]; unfold lenN; omega
 have hl : N ≤ 512 := by rw [← hN]; exact lenN_le n
 have HN := hide hN; clear hN
 go_enter Tryd.func22, Tryd.ntmps22
 go_wp2_with (at_make; refine stopw ?_)
 unfold Hid
 refine wpList_makeL elemL rfl _ _ rfl N rfl rfl (by omega) (by omega) ?_
 intro w1 hw1 hb1; have HW1 := hide hw1; have HB1 := hide hb1; clear hw1 hb1; go_wp2_with fail
 refine (blank_v 0 0 0 w1).mono ?_
 rintro e w2 ⟨rfl, hb⟩
 have HW2 := hide (HW1.out.later hb)
 have HB2 := hide (HB1.out.trans (hb.mono HB1.out.size))
 clear hb; go_wp2_with fail
 refine (fill_any w.heap.size 0 N N 32 0 0 1 0 0 0 (List.replicate N zeroC) w2 HW2.out (by simp) (by simp; omega)).mono ?_
 rintro e w3 ⟨rfl, hw3, ho3⟩
 have HW3 : Hid (Whole w3 w.heap.size 48 (flatC .i32 (newC n))) := by unfold Hid; rw [← fill_new, HN.out]; exact hw3
 have HB3 := hide (ho3.below HB2.out HB2.out.size (Nat.le_refl _))
 clear hw3 ho3; go_wp2; go_ret
 exact ⟨_, by rw [new_len, HN.out]; rfl, Nat.le_refl _, HW3.out, HB3.out⟩
theorem lay_new (n : Int) (cs : List Cel) : layC (newC n) 0 (cs.take (lenN n)) = fitTab cs n := by
 rw [lay_tab _ _ _ (by rw [new_len, List.length_take]; omega), new_len]
 unfold fitTab
 refine tab_eq fun i hi => ?_
 rw [List.length_take]
 by_cases h : i < cs.length
 ·rw [if_pos (by omega), if_pos h]
  unfold cAt
  simp [hi]
 ·rw [if_neg (by omega), if_neg h]
  exact tab_cAt _ _ _ hi
theorem fitTab_len (cs : List Cel) (n : Int) : (fitTab cs n).length = lenN n := tab_len _ _
theorem fit_len (cs : List Cel) (n : Int) : (fitC cs n).length = lenN n := by unfold fitC; rw [mend_len, fitTab_len]
theorem lfit_any (A : Option Addr) (n c : Nat) (x : Int) (cs : List Cel) (w : World) (h : Cels .i32 w A cs) (hn : cs.length = n) : Calls Tryd.prog 49 #[.slice A n c, .int .i64 x] w (Lined (fitC cs x) w) := by
 have HC := hide h; have HN := hide hn; clear h hn
 obtain ⟨N, hN⟩ := exq (lenN x)
 have hl : N ≤ 512 := by rw [← hN]; exact lenN_le x
 have HX := hide hN; clear hN
 go_enter Tryd.func49, Tryd.ntmps49
 go_wp2_with fail
 refine (new_any x w).mono ?_
 rintro e w1 ⟨g, rfl, hg, hw, hb⟩
 have HW1 := hide hw; have HB1 := hide hb; have HG := hide hg; clear hw hb hg
 rw [new_len, HX.out]
 obtain ⟨w2, hrun, hw2, ho2⟩ := run_copyL elemL w1 3 g 0 48 (newC x) cs A N N n c HW1.out (HC.out.below HB1.out) HN.out (by rw [new_len, HX.out]; omega)
 rw [Nat.zero_mul] at hrun
 have HW2 : Hid (Whole w2 g 48 (flatC .i32 (fitTab cs x))) := by unfold Hid; rw [← lay_new, HX.out]; exact hw2
 have HB2 := hide (ho2.below HB1.out HB1.out.size HG.out)
 clear hw2 ho2; go_wp2_with fail
 refine (mendown_any g N (fitTab cs x) w2 HW2.out (by rw [fitTab_len, HX.out]) (by omega)).mono ?_
 rintro e w3 ⟨rfl, hw, ho⟩
 have HW3 := hide hw
 have HB3 := hide (ho.below HB2.out HB2.out.size HG.out)
 clear hw ho; go_wp2; go_ret
 exact ⟨g, by rw [fit_len, HX.out]; rfl, HG.out, HW3.out, HB3.out⟩
theorem cut_any (g n p q : Nat) (w : World) (h : p < q) (hq : q ≤ n) : Calls Tryd.prog 45 #[.slice (some ⟨g, 0, none⟩) n n, .int .i64 p, .int .i64 q] w fun e w' => e = .returned (.slice (some ⟨g, p * 7, none⟩) (q - p) (q - p)) ∧ w = w' := by
 have hne : ¬ n = p := by omega
 go_enter Tryd.func45, Tryd.ntmps45
 go_wp2; go_ret
 exact ⟨rfl, rfl⟩
theorem eraseTab_len (cs : List Cel) (x y : Int) (p : Pn) : (eraseTab cs x y p).length = cs.length := tab_len _ _
theorem erase_len (cs : List Cel) (x y : Int) (p : Pn) : (eraseC cs x y p).length = cs.length := by unfold eraseC; rw [mend_len, eraseTab_len]
theorem OwnC.from {e : TypeId} {k : IntKind} {B : Nat} {w w1 wr : World} {v : Value} {cs : List Cel} (h : OwnC e k w1.heap.size w1 wr v cs) (hb : Below B w w1) (hB : B ≤ w1.heap.size) : OwnC e k B w wr v cs := by
 refine ⟨⟨h.own.1, ?_⟩, hb.trans (h.bel.mono hB), Nat.le_trans hB h.le⟩
 rcases h.own.2 with h0 | ⟨g, cap, cur, hv, hg, h1⟩
 ·exact .inl h0
 ·exact .inr ⟨g, cap, cur, hv, Nat.le_trans hB hg, h1⟩
def Lined2 (cs : List Cel) (ok : Bool) (w : World) (e : Ending) (w' : World) : Prop := ∃ g, e = .returned (.tuple #[.slice (some ⟨g, 0, none⟩) cs.length cs.length, .bool ok]) ∧ w.heap.size ≤ g ∧ Whole w' g 48 (flatC .i32 cs) ∧ Below w.heap.size w w'
theorem putOk_no {cs : List Cel} {a : Int} {c : Cel} (h : ¬ (rightC c = true ∧ c.w ≠ 0 ∧ 0 ≤ a ∧ a + (c.w : Int) ≤ (cs.length : Int))) : putOk cs a c = false := by unfold putOk; exact decide_eq_false h
theorem putOk_yes {cs : List Cel} {a : Int} {c : Cel} (h : rightC c = true ∧ c.w ≠ 0 ∧ 0 ≤ a ∧ a + (c.w : Int) ≤ (cs.length : Int)) : putOk cs a c = true := by unfold putOk; exact decide_eq_true h
theorem put_no {cs : List Cel} {a : Int} {c : Cel} (h : putOk cs a c = false) : putC cs a c = cs := by unfold putC; rw [h]; simp
theorem put_yes {cs : List Cel} {a : Int} {c : Cel} (h : putOk cs a c = true) : putC cs a c = mendC (putTab cs a.toNat c) := by unfold putC; rw [if_pos h]
theorem putTab_len (cs : List Cel) (k : Nat) (c : Cel) : (putTab cs k c).length = cs.length := tab_len _ _
theorem put_len (cs : List Cel) (a : Int) (c : Cel) : (putC cs a c).length = cs.length := by
 unfold putC; split
 ·rw [mend_len, putTab_len]
 ·rfl
theorem lay_put (cs : List Cel) (k : Nat) (c : Cel) (hw : c.w = 1 ∨ c.w = 2) (h : k + c.w ≤ cs.length) : layC cs k ([c, restC c].take c.w) = putTab cs k c := by
 have hl : ([c, restC c].take c.w).length = c.w := by simp; omega
 rw [lay_tab _ _ _ (by omega), hl]
 unfold putTab
 refine tab_eq fun i hi => ?_
 rcases hw with hw | hw
 ·rw [hw]
  by_cases h1 : i = k
  ·subst h1; rw [if_pos (by omega), if_pos rfl]; unfold cAt; simp
  ·rw [if_neg (by omega), if_neg h1, if_neg (by omega)]
 ·rw [hw]
  by_cases h1 : i = k
  ·subst h1; rw [if_pos (by omega), if_pos rfl]; unfold cAt; simp
  ·by_cases h2 : i = k + 1
   ·subst h2; rw [if_pos (by omega), if_neg h1, if_pos ⟨rfl, rfl⟩, show k + 1 - k = 1 by omega]; unfold cAt; simp
   ·rw [if_neg (by omega), if_neg h1, if_neg (by omega)]
theorem cels_two (w : World) (t : TypeId) (c d : Cel) : Cels .i32 (w.alloc (.cells #[.int .i32 c.r, .int .i32 c.m, .int .i32 c.n, .int .u8 c.w, .int .u8 c.p.f, .int .u8 c.p.g, .int .u8 c.p.b, .int .i32 d.r, .int .i32 d.m, .int .i32 d.n, .int .u8 d.w, .int .u8 d.p.f, .int .u8 d.p.g, .int .u8 d.p.b] t)) (some ⟨w.heap.size, 0, none⟩) [c, d] :=
 (Whole.new w t (flatC .i32 [c, d])).cels
theorem put_any (A : Option Addr) (n c : Nat) (at_ : Int) (r m x : Int) (d f g b : Nat) (hd : d < 256) (cs : List Cel) (w : World) (h : Cels .i32 w A cs) (hn : cs.length = n) (hl : n ≤ 1000000) (hS : Spans w) (ha : -9223372036854775808 ≤ at_ ∧ at_ < 9223372036854775808) :
  Calls Tryd.prog 30 #[.slice A n c, .int .i64 at_, .agg #[.int .i32 r, .int .i32 m, .int .i32 x, .int .u8 d, .int .u8 f, .int .u8 g, .int .u8 b]] w (Lined2 (putC cs at_ ⟨r, m, x, d, ⟨f, g, b⟩⟩) (putOk cs at_ ⟨r, m, x, d, ⟨f, g, b⟩⟩) w) := by
 have HN := hide hn
 obtain ⟨W0, hW0⟩ := exq (w.alloc (.cells #[.int .i32 r, .int .i32 m, .int .i32 x, .int .u8 d, .int .u8 f, .int .u8 g, .int .u8 b] 48))
 have HB0 : Hid (Below w.heap.size w W0) := by unfold Hid; rw [← hW0]; exact (Below.refl _ _).alloc (Nat.le_refl _) _
 have HP0 : Hid (Whole W0 w.heap.size 48 [.int .i32 r, .int .i32 m, .int .i32 x, .int .u8 d, .int .u8 f, .int .u8 g, .int .u8 b]) := by unfold Hid; rw [← hW0]; exact Whole.new _ _ _
 have HC0 : Hid (Cels .i32 W0 A cs) := by unfold Hid; rw [← hW0]; exact h.alloc _
 have HS0 : Hid (Spans W0) := by unfold Hid; rw [← hW0]; exact hS.alloc _
 have HW0 := hide hW0
 obtain ⟨R, hR⟩ := exq (rightC ⟨r, m, x, d, ⟨f, g, b⟩⟩)
 have key : (R = false ∧ putOk cs at_ ⟨r, m, x, d, ⟨f, g, b⟩⟩ = false) ∨ (R = true ∧ d = 0 ∧ putOk cs at_ ⟨r, m, x, d, ⟨f, g, b⟩⟩ = false) ∨ (R = true ∧ d ≠ 0 ∧ at_ < 0 ∧ putOk cs at_ ⟨r, m, x, d, ⟨f, g, b⟩⟩ = false) ∨ (R = true ∧ d ≠ 0 ∧ 0 ≤ at_ ∧ (n : Int) - d < at_ ∧ putOk cs at_ ⟨r, m, x, d, ⟨f, g, b⟩⟩ = false) ∨ (R = true ∧ d ≠ 0 ∧ 0 ≤ at_ ∧ at_ ≤ (n : Int) - d ∧ putOk cs at_ ⟨r, m, x, d, ⟨f, g, b⟩⟩ = true) := by
  cases R
  ·exact .inl ⟨rfl, putOk_no (by rw [hR]; simp)⟩
  ·by_cases h0 : d = 0
   ·exact .inr (.inl ⟨rfl, h0, putOk_no (by simp [h0])⟩)
   ·by_cases h1 : at_ < 0
    ·exact .inr (.inr (.inl ⟨rfl, h0, h1, putOk_no (by rintro ⟨_, _, q, _⟩; omega)⟩))
    ·by_cases h2 : (n : Int) - d < at_
     ·exact .inr (.inr (.inr (.inl ⟨rfl, h0, by omega, h2, putOk_no (by rintro ⟨_, _, _, q⟩; simp only at q; omega)⟩)))
     ·exact .inr (.inr (.inr (.inr ⟨rfl, h0, by omega, by omega, putOk_yes ⟨hR, h0, by omega, by simp only; omega⟩⟩)))
 have HR := hide hR; clear h hn hW0 hS hR
 go_enter Tryd.func30, Tryd.ntmps30
 go_wp2; rw [HW0.out]
 refine rgH (fun w' => Below W0.heap.size W0 w') [(true, 0), (true, 2), (true, 3), (true, 4), (false, 1), (false, 5), (false, 6)] bd1 ?_
 refine stH (h := ?_)
 refine stH (h := ?_)
 refine stH (hy := fun w hS => by have f3 := (HP0.out.later hS).cell 3; simp only [List.getElem?_cons_zero, List.getElem?_cons_succ] at f3; go_simp <;> with_reducible rfl) (h := ?_)
 refine stH (h := ?_)
 refine alH fun K hK => ?_
 go_wp2_with fail
 refine (copied_any A n c cs _ (HC0.out.drewN 1) HN.out hl).mono ?_
 rintro e k1 ⟨g1, rfl, hg, hw, hb⟩
 rw [HN.out]
 have Bk1 : Below W0.heap.size W0 k1 := bd1.trans hb
 have HG1 := hide hw
 have HGE : Hid (W0.heap.size ≤ g1) := hg
 clear hb hw hg; go_wp2
 refine hK.out _ _ Bk1 ?_
 clear hK K
 refine alH fun K hK => ?_
 go_wp2
 refine hK.out _ _ Bk1 ?_
 clear hK K
 refine alH fun K hK => ?_
 go_wp2
 refine hK.out _ _ Bk1 ?_
 clear hK K
 refine chainH_nil ?_
 have HB1 := hide (HB0.out.trans (Bk1.mono HB0.out.size))
 have HS1 := hide (HS0.out.below Bk1)
 have HP1 := hide (HP0.out.later Bk1)
 have HG : Hid (w.heap.size ≤ g1) := by unfold Hid; exact Nat.le_trans HB0.out.size HGE.out
 have HNP : Hid (w.heap.size ≠ g1) := by unfold Hid; have := HP0.out.lt; have := HGE.out; omega
 clear Bk1
 obtain ⟨a0, a1, a2, a3, a4, a5, a6, -⟩ := cells7 HP1.out
 go_wp2_with fail
 refine (cright_any r m x d f g b hd k1 HS1.out).mono ?_
 rintro e w2 ⟨rfl, hb⟩
 rw [HR.out]
 clear a0 a1 a2 a3 a4 a5 a6
 have HB2 := hide (HB1.out.trans (hb.mono HB1.out.size))
 have HP2 := hide (HP1.out.later hb)
 have HG2 := hide (HG1.out.later hb)
 clear hb HS0 HC0 HP0 HB0 HS1 HP1 HG1 HB1
 obtain ⟨a0, a1, a2, a3, a4, a5, a6, -⟩ := cells7 HP2.out
 rcases key with ⟨rfl, hk⟩ | ⟨rfl, h0, hk⟩ | ⟨rfl, h0, h1, hk⟩ | ⟨rfl, h0, h1, h2, hk⟩ | ⟨rfl, h0, h1, h2, hk⟩
 ·have HK := hide hk
  clear hk; go_wp2; go_ret2
  exact ⟨g1, by rw [HK.out, put_no HK.out, HN.out]; rfl, HG.out, by rw [put_no HK.out]; exact HG2.out, HB2.out⟩
 ·have HK := hide hk
  have e0 : ((d : Int) == 0) = true := by simp; omega
  clear hk h0; go_wp2; go_ret2
  exact ⟨g1, by rw [HK.out, put_no HK.out, HN.out]; rfl, HG.out, by rw [put_no HK.out]; exact HG2.out, HB2.out⟩
 ·have HK := hide hk
  have e0 : ((d : Int) == 0) = false := by simp; omega
  clear hk h0; go_wp2; go_ret2
  exact ⟨g1, by rw [HK.out, put_no HK.out, HN.out]; rfl, HG.out, by rw [put_no HK.out]; exact HG2.out, HB2.out⟩
 ·have HK := hide hk
  have e0 : ((d : Int) == 0) = false := by simp; omega
  clear hk h0; go_wp2; go_ret2
  exact ⟨g1, by rw [HK.out, put_no HK.out, HN.out]; rfl, HG.out, by rw [put_no HK.out]; exact HG2.out, HB2.out⟩
 ·have HK := hide hk
  have hd2 : d = 1 ∨ d = 2 := by rcases right_w HR.out with q | q | q; exact absurd q h0; exact .inl q; exact .inr q
  have e0 : ((d : Int) == 0) = false := by simp; omega
  obtain ⟨k, rfl⟩ : ∃ k : Nat, at_ = (k : Int) := ⟨at_.toNat, by omega⟩
  have hk2 : k + d ≤ n := by omega
  have HL := hide (lay_put cs k ⟨r, m, x, d, ⟨f, g, b⟩⟩ hd2 (by rw [HN.out]; exact hk2))
  have ed : ((k + d : Nat) : Int) = (k : Int) + (d : Int) := by omega
  clear hk h0; go_wp2
  refine rgH (fun w' => Only g1 w2 w') [(true, 0), (true, 1), (true, 2), (true, 3), (true, 4), (true, 6), (true, 7), (false, 5), (false, 8), (false, 9), (false, 10)] (Only.of_below bd1) ?_
  iterate 5 refine stH (h := ?_)
  refine stH (hy := fun w hS => by obtain ⟨a0, a1, a2, a3, a4, a5, a6, -⟩ := cells7 (HP2.out.far hS HNP.out); go_simp <;> with_reducible rfl) (h := ?_)
  refine stH (hy := fun w hS => by obtain ⟨a0, a1, a2, a3, a4, a5, a6, -⟩ := cells7 (HP2.out.far hS HNP.out); go_simp <;> with_reducible rfl) (h := ?_)
  refine alH fun K hK => ?_
  go_wp2_with fail
  have hcut := cut_any g1 n k (k + d) w2.drew (by omega) hk2
  rw [ed, show k + d - k = d by omega] at hcut
  refine hcut.mono ?_
  rintro e j1 ⟨rfl, rfl⟩
  clear hcut
  have Oj1 : Only g1 w2 w2.drew := Only.of_below bd1
  go_wp2
  refine hK.out _ _ Oj1 ?_
  clear hK K
  refine alH fun K hK => ?_
  go_wp2_with fail
  refine (rest_v r m x d f g b _).mono ?_
  rintro e j2 ⟨rfl, hb⟩
  have Oj2 : Only g1 w2 j2 := Oj1.trans (Only.of_below hb)
  have Wj2 := hide ((HG2.out.drewN 1).later (w' := j2) hb)
  have HJ2 := hide Oj2; clear hb; go_wp2
  refine hK.out _ _ Oj2 ?_
  clear hK K
  refine alH fun K hK => ?_
  go_wp2
  have Oj3 : Only g1 w2 (j2.alloc (.cells #[.int .i32 r, .int .i32 m, .int .i32 x, .int .u8 d, .int .u8 f, .int .u8 g, .int .u8 b, .int .i32 0, .int .i32 0, .int .i32 0, .int .u8 0, .int .u8 f, .int .u8 g, .int .u8 b] 48)) := HJ2.out.trans (Only.of_below ((Below.refl _ _).alloc (Nat.le_refl _) _))
  refine hK.out _ _ Oj3 ?_
  clear hK K
  obtain ⟨j3, hj3⟩ := exq (j2.alloc (.cells #[.int .i32 r, .int .i32 m, .int .i32 x, .int .u8 d, .int .u8 f, .int .u8 g, .int .u8 b, .int .i32 0, .int .i32 0, .int .i32 0, .int .u8 0, .int .u8 f, .int .u8 g, .int .u8 b] 48))
  have Cj3 : Hid (Cels .i32 j3 (some ⟨j2.heap.size, 0, none⟩) [⟨r, m, x, d, ⟨f, g, b⟩⟩, restC ⟨r, m, x, d, ⟨f, g, b⟩⟩]) := by unfold Hid; rw [← hj3]; exact cels_two j2 48 ⟨r, m, x, d, ⟨f, g, b⟩⟩ (restC ⟨r, m, x, d, ⟨f, g, b⟩⟩)
  have Wj3 : Hid (Whole j3 g1 48 (flatC .i32 cs)) := by unfold Hid; rw [← hj3]; exact Wj2.out.alloc _
  rw [hj3]
  rw [hj3] at Oj3
  have HJ3 := hide Oj3; clear hj3 Oj3
  obtain ⟨j4, hrun, hw4, ho4⟩ := run_copyL elemL j3 3 g1 k 48 cs [⟨r, m, x, d, ⟨f, g, b⟩⟩, restC ⟨r, m, x, d, ⟨f, g, b⟩⟩] (some ⟨j2.heap.size, 0, none⟩) d d 2 2 Wj3.out Cj3.out rfl (by rw [HN.out]; omega)
  have Oj4 : Only g1 w2 j4 := HJ3.out.trans ho4
  have HJ4 := hide Oj4
  have Wj4 : Hid (Whole j4 g1 48 (flatC .i32 (putTab cs k ⟨r, m, x, d, ⟨f, g, b⟩⟩))) := by unfold Hid; rw [← HL.out]; exact hw4
  clear hw4 ho4
  refine alH fun K hK => ?_
  go_wp2
  refine hK.out _ _ HJ4.out ?_
  clear hK K
  refine chainH_nil ?_
  clear Oj1 Oj2 Oj4 hrun; go_wp2_with fail
  refine (mendown_any g1 n (putTab cs k ⟨r, m, x, d, ⟨f, g, b⟩⟩) j4 Wj4.out (by rw [putTab_len, HN.out]) hl).mono ?_
  rintro e j5 ⟨rfl, hw, ho⟩
  have HW5 := hide hw; have HO5 := hide ho; clear hw ho; go_wp2; go_ret2
  exact ⟨g1, by rw [HK.out, put_len, HN.out]; rfl, HG.out, by rw [put_yes HK.out]; exact HW5.out, (HJ4.out.trans HO5.out).below HB2.out HB2.out.size HG.out⟩
def LineV2 (k : IntKind) (cs : List Cel) (ok : Bool) (w : World) (e : Ending) (w' : World) : Prop := ∃ A c, e = .returned (.tuple #[.slice A cs.length c, .bool ok]) ∧ Cels k w' A cs ∧ Below w.heap.size w w'
theorem flat_set (k : IntKind) (cs : List Cel) (j : Nat) (c : Cel) (h : j < cs.length) : (flatC k cs).take (j * 7) ++ ([.int k c.r, .int k c.m, .int k c.n, .int .u8 c.w, .int .u8 c.p.f, .int .u8 c.p.g, .int .u8 c.p.b] ++ (flatC k cs).drop (j * 7 + 7)) = flatC k (cs.set j c) := by
 rw [set_lay cs j c h, flat_lay]
 rfl
theorem OwnC.put {e : TypeId} {k : IntKind} {B : Nat} {w wr : World} {g n cap : Nat} {cs : List Cel} (h : OwnC e k B w wr (.slice (some ⟨g, 0, none⟩) n cap) cs) (hn : cs.length = n) (o j : Nat) (ho : o = j * 7) (hj : j < n) (c : Cel) :
  OwnC e k B w (((((((wr.setCell ⟨g, o, none⟩ (.int k c.r)).setCell ⟨g, o + 1, none⟩ (.int k c.m)).setCell ⟨g, o + 2, none⟩ (.int k c.n)).setCell ⟨g, o + 3, none⟩ (.int .u8 c.w)).setCell ⟨g, o + 4, none⟩ (.int .u8 c.p.f)).setCell ⟨g, o + 5, none⟩ (.int .u8 c.p.g)).setCell ⟨g, o + 6, none⟩ (.int .u8 c.p.b)) (.slice (some ⟨g, 0, none⟩) n cap) (cs.set j c) := by
 subst hn
 have hB : B ≤ g := (h.own.lt g rfl).1
 have s0 := (h.own.stored o (.int k c.r)).1
 have s1 := (s0.stored (o + 1) (.int k c.m)).1
 have s2 := (s1.stored (o + 2) (.int k c.n)).1
 have s3 := (s2.stored (o + 3) (.int .u8 c.w)).1
 have s4 := (s3.stored (o + 4) (.int .u8 c.p.f)).1
 have s5 := (s4.stored (o + 5) (.int .u8 c.p.g)).1
 have s6 := (s5.stored (o + 6) (.int .u8 c.p.b)).1
 clear s0 s1 s2 s3 s4 s5
 rw [set7 _ o (by rw [flatC_len]; omega)] at s6
 subst ho
 rw [flat_set k cs j c hj] at s6
 refine ⟨?_, (only_cell (j * 7) _ _ _ _ _ _ _).below h.bel h.le hB, ?_⟩
 ·rw [List.length_set]; exact s6
 ·have := h.le; simp only [World.size_setCell]; exact this
end
end Go.Proofs.YtoddfaoifnkhlaaDoor
