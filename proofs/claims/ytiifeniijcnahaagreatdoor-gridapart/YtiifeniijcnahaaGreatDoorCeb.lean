/-
  Contract: may a cell be, by the program.
  Contract: may a cell be, by the document.
  Contracts: a cell's runes (both).
  Contract: a cell's runes, by the document.
  Contract: the chapter's examples.
  The contracts once more, their answers spelled out, as the laws' walks want them; what is of 32 bits stays so.
  What is asked of a cell and of a pen that came in.
  A cell and a pen that came in, opened.
-/
import Derived.Test.YtiifeniijcnahaaGreatDoorCea
import Derived.Test.YtiifeniijcnahaaGreatDoorGen
import Derived.Test.YtiifeniijcnahaaGreatDoorWid
import Derived.Lib.SmallJoins
import Derived.Deep.Strs
import Derived.OpenShut
namespace Go.Proofs.YtiifeniijcnahaaGreatDoor
set_option maxRecDepth 100000
open Go.ChangeShapes Go.WideShapes Go.ChangeAt Go.RowKit
set_option linter.unusedVariables false

theorem rightC_pen (c : Cel) (h : rightN c.p = false) : rightC c = false := by unfold rightC; rw [h]; rfl
theorem rightC_half (r m n : Int) (d f g b : Nat) (h : rightN ⟨f, g, b⟩ = true) (h0 : d = 0) : rightC ⟨r, m, n, d, ⟨f, g, b⟩⟩ = decide (r = 0 ∧ m = 0 ∧ n = 0) := by unfold rightC; simp only [h, Bool.true_and]; rw [if_pos h0]
theorem rightC_bears (r m n : Int) (d f g b : Nat) (h : rightN ⟨f, g, b⟩ = true) (h0 : d = 1 ∨ d = 2) : rightC ⟨r, m, n, d, ⟨f, g, b⟩⟩ = (decide (wOf r = d) && marksC m n) := by
  unfold rightC; simp only [h, Bool.true_and]; rw [if_neg (by omega), if_pos]; unfold bearsC; simpa using h0
theorem rightC_more (r m n : Int) (d f g b : Nat) (h0 : ¬ d = 0) (h1 : ¬ d = 1) (h2 : ¬ d = 2) : rightC ⟨r, m, n, d, ⟨f, g, b⟩⟩ = false := by
  unfold rightC; rw [if_neg h0, if_neg]; simp; unfold bearsC; simp [h1, h2]
theorem one_new (w : World) (t : TypeId) (l : List Value) : Below w.heap.size w (w.alloc (.cells l.toArray t)) := (Below.refl _ _).alloc (Nat.le_refl _) _
set_option maxRecDepth 100000 in
set_option maxHeartbeats 4000000 in
theorem cright_any (r m n : Int) (d f g b : Nat) (hd : d < 256) (w : World) (hS : Spans w) : Calls Tryz.prog 88 #[.agg #[.int .i32 r, .int .i32 m, .int .i32 n, .int .u8 (d : Int), .int .u8 (f : Int), .int .u8 (g : Int), .int .u8 (b : Int)]] w (Said (rightC ⟨r, m, n, d, ⟨f, g, b⟩⟩) w) := by
  obtain ⟨W0, hW0⟩ : ∃ W0, w.alloc (.cells #[.int .i32 r, .int .i32 m, .int .i32 n, .int .u8 (d : Int), .int .u8 (f : Int), .int .u8 (g : Int), .int .u8 (b : Int)] 40) = W0 := ⟨_, rfl⟩
  have HS : Hid (Spans W0) := by unfold Hid; rw [← hW0]; exact hS.alloc _
  have HB : Hid (Below w.heap.size w W0) := by unfold Hid; rw [← hW0]; exact one_new w _ [.int .i32 r, .int .i32 m, .int .i32 n, .int .u8 (d : Int), .int .u8 (f : Int), .int .u8 (g : Int), .int .u8 (b : Int)]
  have HC : Hid (Whole W0 w.heap.size 40 [.int .i32 r, .int .i32 m, .int .i32 n, .int .u8 (d : Int), .int .u8 (f : Int), .int .u8 (g : Int), .int .u8 (b : Int)]) := by unfold Hid; rw [← hW0]; exact Whole.new w 40 [.int .i32 r, .int .i32 m, .int .i32 n, .int .u8 (d : Int), .int .u8 (f : Int), .int .u8 (g : Int), .int .u8 (b : Int)]
  have HW0 := hide hW0
  clear hS hW0
  have hd1 : (0 : Int) ≤ (d : Int) := by omega
  have hd2 : (d : Int) ≤ 255 := by omega
  have eC := eqlCell
  cases hp : rightN ⟨f, g, b⟩
  case false =>
    have E := hide (rightC_pen ⟨r, m, n, d, ⟨f, g, b⟩⟩ hp)
    have HP := hide hp
    clear hp
    go_enter Tryz.func88, Tryz.ntmps88
    go_wp2_with fail
    rw [HW0.out]
    refine (right_any f g b _).mono ?_
    rintro e w1 ⟨rfl, hb1⟩
    rw [HP.out]
    have HC1 := hide (HC.out.later hb1)
    have HS1 := hide (HS.out.below hb1)
    have HB1 := hide (HB.out.trans (hb1.mono HB.out.size))
    obtain ⟨c0, c1, c2, c3, c4, c5, c6, cz⟩ := cells7 HC1.out
    clear hb1 cz
    go_wp2
    go_ret
    exact ⟨ret_bool E.out.symm, HB1.out⟩
  case true =>
    have HP := hide hp
    by_cases h0 : d = 0
    · have E := hide (rightC_half r m n d f g b hp h0)
      have e0 : ((d : Int) == 0) = true := by simp; omega
      have HD0 := hide h0
      clear hp h0
      go_enter Tryz.func88, Tryz.ntmps88
      go_wp2_with fail
      rw [HW0.out]
      refine (right_any f g b _).mono ?_
      rintro e w1 ⟨rfl, hb1⟩
      rw [HP.out]
      have HC1 := hide (HC.out.later hb1)
      have HS1 := hide (HS.out.below hb1)
      have HB1 := hide (HB.out.trans (hb1.mono HB.out.size))
      obtain ⟨c0, c1, c2, c3, c4, c5, c6, cz⟩ := cells7 HC1.out
      clear hb1 cz
      go_wp2
      refine wp_region_chainH (fun w' => Below w1.heap.size w1 w') [(true, 0), (false, 1), (false, 2), (false, 3), (false, 4)] (by kernel_rfl) (by kernel_rfl) (by kernel_rfl) (fun _ _ _ _ _ h => h) ?_ ?_
      · exact (Below.refl _ _).drewN 1
      refine chainH_take (v := ?_) (by simp only [List.getElem?_toArray, List.getElem?_cons_zero]; rfl) (by rfl) (fun w hS => ?_) ?_
      rotate_left
      · obtain ⟨a0, a1, a2, a3, a4, a5, a6, -⟩ := cells7 (HC1.out.later hS); go_simp <;> with_reducible rfl
      simp only [Act.put, List.setIfInBounds_toArray, List.set_cons_zero, List.set_cons_succ]
      refine chainH_alone (by simp only [List.getElem?_toArray, List.getElem?_cons_zero, List.getElem?_cons_succ]; rfl) ?_
      intro K hK
      go_wp2
      refine hK.out _ _ ((Below.refl _ _).drewN 1) ?_
      clear hK K
      refine chainH_alone (by simp only [List.getElem?_toArray, List.getElem?_cons_zero, List.getElem?_cons_succ]; rfl) ?_
      intro K hK
      go_wp2_with fail
      refine (rest_any r m n d f g b _).mono ?_
      rintro e w2 ⟨rfl, hb⟩
      have Bw2 : Below w1.heap.size w1 w2 := ((Below.refl _ _).drewN 1).trans hb
      clear hb
      go_wp2
      refine hK.out _ _ Bw2 ?_
      clear hK K
      refine chainH_alone (by simp only [List.getElem?_toArray, List.getElem?_cons_zero, List.getElem?_cons_succ]; rfl) ?_
      intro K hK
      go_wp2
      refine hK.out _ _ Bw2 ?_
      clear hK K
      refine chainH_alone (by simp only [List.getElem?_toArray, List.getElem?_cons_zero, List.getElem?_cons_succ]; rfl) ?_
      intro K hK
      go_wp2
      refine hK.out _ _ Bw2 ?_
      clear hK K
      refine chainH_nil ?_
      go_wp2
      go_ret
      exact ⟨ret_bool (by rw [E.out, eqC_iff, HD0.out]; simp [restC]), HB1.out.trans (Bw2.mono HB1.out.size)⟩
    · have e0 : ((d : Int) == 0) = false := by simp; omega
      by_cases h1 : d = 1
      · have E := hide (rightC_bears r m n d f g b hp (.inl h1))
        have e1 : ((d : Int) == 1) = true := by simp; omega
        obtain ⟨P1, hP1⟩ : ∃ P1, wOf r = P1 := ⟨_, rfl⟩
        have HX := hide hP1
        by_cases hq : P1 = d
        · have hqq : (P1 == (d : Int)) = true := by simpa using hq
          have E2 : Hid (rightC ⟨r, m, n, d, ⟨f, g, b⟩⟩ = marksC m n) := by unfold Hid; rw [E.out, HX.out, decide_eq_true hq]; rfl
          clear hp hP1 hq h0 h1
          go_enter Tryz.func88, Tryz.ntmps88
          go_wp2_with fail
          rw [HW0.out]
          refine (right_any f g b _).mono ?_
          rintro e w1 ⟨rfl, hb1⟩
          rw [HP.out]
          have HC1 := hide (HC.out.later hb1)
          have HS1 := hide (HS.out.below hb1)
          have HB1 := hide (HB.out.trans (hb1.mono HB.out.size))
          obtain ⟨c0, c1, c2, c3, c4, c5, c6, cz⟩ := cells7 HC1.out
          clear hb1 cz
          go_wp2
          refine wp_region_chainH (fun w' => Below w1.heap.size w1 w') [(true, 0), (true, 3), (true, 1), (true, 4), (true, 5), (false, 2), (false, 6), (false, 7), (false, 8), (false, 9), (false, 10), (false, 11), (false, 12)] (by kernel_rfl) (by kernel_rfl) (by kernel_rfl) (fun _ _ _ _ _ h => h) ?_ ?_
          · exact (Below.refl _ _).drewN 1
          refine chainH_take (v := ?_) (by simp only [List.getElem?_toArray, List.getElem?_cons_zero]; rfl) (by rfl) (fun w hS => ?_) ?_
          rotate_left
          · go_simp <;> with_reducible rfl
          simp only [Act.put, List.setIfInBounds_toArray, List.set_cons_zero, List.set_cons_succ]
          refine chainH_take (v := ?_) (by simp only [List.getElem?_toArray, List.getElem?_cons_zero, List.getElem?_cons_succ]; rfl) (by rfl) (fun w hS => ?_) ?_
          rotate_left
          · go_simp <;> with_reducible rfl
          simp only [Act.put, List.setIfInBounds_toArray, List.set_cons_zero, List.set_cons_succ]
          refine chainH_take (v := ?_) (by simp only [List.getElem?_toArray, List.getElem?_cons_zero, List.getElem?_cons_succ]; rfl) (by rfl) (fun w hS => ?_) ?_
          rotate_left
          · obtain ⟨a0, a1, a2, a3, a4, a5, a6, -⟩ := cells7 (HC1.out.later hS); go_simp <;> with_reducible rfl
          simp only [Act.put, List.setIfInBounds_toArray, List.set_cons_zero, List.set_cons_succ]
          refine chainH_take (v := ?_) (by simp only [List.getElem?_toArray, List.getElem?_cons_zero, List.getElem?_cons_succ]; rfl) (by rfl) (fun w hS => ?_) ?_
          rotate_left
          · obtain ⟨a0, a1, a2, a3, a4, a5, a6, -⟩ := cells7 (HC1.out.later hS); go_simp <;> with_reducible rfl
          simp only [Act.put, List.setIfInBounds_toArray, List.set_cons_zero, List.set_cons_succ]
          refine chainH_take (v := ?_) (by simp only [List.getElem?_toArray, List.getElem?_cons_zero, List.getElem?_cons_succ]; rfl) (by rfl) (fun w hS => ?_) ?_
          rotate_left
          · go_simp <;> with_reducible rfl
          simp only [Act.put, List.setIfInBounds_toArray, List.set_cons_zero, List.set_cons_succ]
          refine chainH_alone (by simp only [List.getElem?_toArray, List.getElem?_cons_zero, List.getElem?_cons_succ]; rfl) ?_
          intro K hK
          go_wp2_with fail
          refine (of_any r _ (HS1.out.drewN 1)).mono ?_
          rintro e w2 ⟨rfl, hb⟩
          rw [HX.out]
          have Bw2 : Below w1.heap.size w1 w2 := ((Below.refl _ _).drewN 1).trans hb
          clear hb
          obtain ⟨i0, i1, i2, i3, i4, i5, i6, -⟩ := cells7 (HC1.out.later Bw2)
          go_wp2
          refine hK.out _ _ Bw2 ?_
          clear hK K
          refine chainH_alone (by simp only [List.getElem?_toArray, List.getElem?_cons_zero, List.getElem?_cons_succ]; rfl) ?_
          intro K hK
          go_wp2
          refine hK.out _ _ Bw2 ?_
          clear hK K
          refine chainH_alone (by simp only [List.getElem?_toArray, List.getElem?_cons_zero, List.getElem?_cons_succ]; rfl) ?_
          intro K hK
          go_wp2
          refine hK.out _ _ Bw2 ?_
          clear hK K
          refine chainH_alone (by simp only [List.getElem?_toArray, List.getElem?_cons_zero, List.getElem?_cons_succ]; rfl) ?_
          intro K hK
          go_wp2
          refine hK.out _ _ Bw2 ?_
          clear hK K
          refine chainH_alone (by simp only [List.getElem?_toArray, List.getElem?_cons_zero, List.getElem?_cons_succ]; rfl) ?_
          intro K hK
          go_wp2
          refine hK.out _ _ Bw2 ?_
          clear hK K
          refine chainH_alone (by simp only [List.getElem?_toArray, List.getElem?_cons_zero, List.getElem?_cons_succ]; rfl) ?_
          intro K hK
          go_wp2_with fail
          refine (rmarks_any m n _ (HS1.out.below Bw2)).mono ?_
          rintro e w3 ⟨rfl, hb⟩
          have Bw3 : Below w1.heap.size w1 w3 := Bw2.trans (hb.mono Bw2.size)
          clear hb
          go_wp2
          refine hK.out _ _ Bw3 ?_
          clear hK K
          refine chainH_alone (by simp only [List.getElem?_toArray, List.getElem?_cons_zero, List.getElem?_cons_succ]; rfl) ?_
          intro K hK
          go_wp2
          refine hK.out _ _ Bw3 ?_
          clear hK K
          refine chainH_alone (by simp only [List.getElem?_toArray, List.getElem?_cons_zero, List.getElem?_cons_succ]; rfl) ?_
          intro K hK
          go_wp2
          refine hK.out _ _ Bw3 ?_
          clear hK K
          refine chainH_nil ?_
          go_wp2
          go_ret
          exact ⟨ret_bool E2.out.symm, HB1.out.trans (Bw3.mono HB1.out.size)⟩
        · have hqq : (P1 == (d : Int)) = false := by simpa using hq
          have E2 : Hid (rightC ⟨r, m, n, d, ⟨f, g, b⟩⟩ = false) := by unfold Hid; rw [E.out, HX.out, decide_eq_false hq]; rfl
          clear hp hP1 hq h0 h1
          go_enter Tryz.func88, Tryz.ntmps88
          go_wp2_with fail
          rw [HW0.out]
          refine (right_any f g b _).mono ?_
          rintro e w1 ⟨rfl, hb1⟩
          rw [HP.out]
          have HC1 := hide (HC.out.later hb1)
          have HS1 := hide (HS.out.below hb1)
          have HB1 := hide (HB.out.trans (hb1.mono HB.out.size))
          obtain ⟨c0, c1, c2, c3, c4, c5, c6, cz⟩ := cells7 HC1.out
          clear hb1 cz
          go_wp2
          refine wp_region_chainH (fun w' => Below w1.heap.size w1 w') [(true, 0), (true, 3), (true, 1), (true, 4), (true, 5), (false, 2), (false, 6), (false, 7), (false, 8), (false, 9), (false, 10), (false, 11), (false, 12)] (by kernel_rfl) (by kernel_rfl) (by kernel_rfl) (fun _ _ _ _ _ h => h) ?_ ?_
          · exact (Below.refl _ _).drewN 1
          refine chainH_take (v := ?_) (by simp only [List.getElem?_toArray, List.getElem?_cons_zero]; rfl) (by rfl) (fun w hS => ?_) ?_
          rotate_left
          · go_simp <;> with_reducible rfl
          simp only [Act.put, List.setIfInBounds_toArray, List.set_cons_zero, List.set_cons_succ]
          refine chainH_take (v := ?_) (by simp only [List.getElem?_toArray, List.getElem?_cons_zero, List.getElem?_cons_succ]; rfl) (by rfl) (fun w hS => ?_) ?_
          rotate_left
          · go_simp <;> with_reducible rfl
          simp only [Act.put, List.setIfInBounds_toArray, List.set_cons_zero, List.set_cons_succ]
          refine chainH_take (v := ?_) (by simp only [List.getElem?_toArray, List.getElem?_cons_zero, List.getElem?_cons_succ]; rfl) (by rfl) (fun w hS => ?_) ?_
          rotate_left
          · obtain ⟨a0, a1, a2, a3, a4, a5, a6, -⟩ := cells7 (HC1.out.later hS); go_simp <;> with_reducible rfl
          simp only [Act.put, List.setIfInBounds_toArray, List.set_cons_zero, List.set_cons_succ]
          refine chainH_take (v := ?_) (by simp only [List.getElem?_toArray, List.getElem?_cons_zero, List.getElem?_cons_succ]; rfl) (by rfl) (fun w hS => ?_) ?_
          rotate_left
          · obtain ⟨a0, a1, a2, a3, a4, a5, a6, -⟩ := cells7 (HC1.out.later hS); go_simp <;> with_reducible rfl
          simp only [Act.put, List.setIfInBounds_toArray, List.set_cons_zero, List.set_cons_succ]
          refine chainH_take (v := ?_) (by simp only [List.getElem?_toArray, List.getElem?_cons_zero, List.getElem?_cons_succ]; rfl) (by rfl) (fun w hS => ?_) ?_
          rotate_left
          · go_simp <;> with_reducible rfl
          simp only [Act.put, List.setIfInBounds_toArray, List.set_cons_zero, List.set_cons_succ]
          refine chainH_alone (by simp only [List.getElem?_toArray, List.getElem?_cons_zero, List.getElem?_cons_succ]; rfl) ?_
          intro K hK
          go_wp2_with fail
          refine (of_any r _ (HS1.out.drewN 1)).mono ?_
          rintro e w2 ⟨rfl, hb⟩
          rw [HX.out]
          have Bw2 : Below w1.heap.size w1 w2 := ((Below.refl _ _).drewN 1).trans hb
          clear hb
          obtain ⟨i0, i1, i2, i3, i4, i5, i6, -⟩ := cells7 (HC1.out.later Bw2)
          go_wp2
          refine hK.out _ _ Bw2 ?_
          clear hK K
          refine chainH_alone (by simp only [List.getElem?_toArray, List.getElem?_cons_zero, List.getElem?_cons_succ]; rfl) ?_
          intro K hK
          go_wp2
          refine hK.out _ _ Bw2 ?_
          clear hK K
          refine chainH_alone (by simp only [List.getElem?_toArray, List.getElem?_cons_zero, List.getElem?_cons_succ]; rfl) ?_
          intro K hK
          go_wp2
          refine hK.out _ _ Bw2 ?_
          clear hK K
          rw [hqq]
          refine chainH_pass (by simp only [List.getElem?_toArray, List.getElem?_cons_zero, List.getElem?_cons_succ]; rfl) (by rfl) Bw2 ?_
          simp only [Act.put, List.setIfInBounds_toArray, List.set_cons_zero, List.set_cons_succ]
          refine chainH_pass (by simp only [List.getElem?_toArray, List.getElem?_cons_zero, List.getElem?_cons_succ]; rfl) (by rfl) Bw2 ?_
          simp only [Act.put, List.setIfInBounds_toArray, List.set_cons_zero, List.set_cons_succ]
          refine chainH_pass (by simp only [List.getElem?_toArray, List.getElem?_cons_zero, List.getElem?_cons_succ]; rfl) (by rfl) Bw2 ?_
          simp only [Act.put, List.setIfInBounds_toArray, List.set_cons_zero, List.set_cons_succ]
          refine chainH_alone (by simp only [List.getElem?_toArray, List.getElem?_cons_zero, List.getElem?_cons_succ]; rfl) ?_
          intro K hK
          go_wp2
          refine hK.out _ _ Bw2 ?_
          clear hK K
          refine chainH_alone (by simp only [List.getElem?_toArray, List.getElem?_cons_zero, List.getElem?_cons_succ]; rfl) ?_
          intro K hK
          go_wp2
          refine hK.out _ _ Bw2 ?_
          clear hK K
          refine chainH_nil ?_
          go_wp2
          go_ret
          exact ⟨ret_bool E2.out.symm, HB1.out.trans (Bw2.mono HB1.out.size)⟩
      · have e1 : ((d : Int) == 1) = false := by simp; omega
        by_cases h2 : d = 2
        · have E := hide (rightC_bears r m n d f g b hp (.inr h2))
          have e2 : ((d : Int) == 2) = true := by simp; omega
          obtain ⟨P1, hP1⟩ : ∃ P1, wOf r = P1 := ⟨_, rfl⟩
          have HX := hide hP1
          by_cases hq : P1 = d
          · have hqq : (P1 == (d : Int)) = true := by simpa using hq
            have E2 : Hid (rightC ⟨r, m, n, d, ⟨f, g, b⟩⟩ = marksC m n) := by unfold Hid; rw [E.out, HX.out, decide_eq_true hq]; rfl
            clear hp hP1 hq h0 h1 h2
            go_enter Tryz.func88, Tryz.ntmps88
            go_wp2_with fail
            rw [HW0.out]
            refine (right_any f g b _).mono ?_
            rintro e w1 ⟨rfl, hb1⟩
            rw [HP.out]
            have HC1 := hide (HC.out.later hb1)
            have HS1 := hide (HS.out.below hb1)
            have HB1 := hide (HB.out.trans (hb1.mono HB.out.size))
            obtain ⟨c0, c1, c2, c3, c4, c5, c6, cz⟩ := cells7 HC1.out
            clear hb1 cz
            go_wp2
            refine wp_region_chainH (fun w' => Below w1.heap.size w1 w') [(true, 0), (true, 3), (true, 1), (true, 4), (true, 5), (false, 2), (false, 6), (false, 7), (false, 8), (false, 9), (false, 10), (false, 11), (false, 12)] (by kernel_rfl) (by kernel_rfl) (by kernel_rfl) (fun _ _ _ _ _ h => h) ?_ ?_
            · exact (Below.refl _ _).drewN 1
            refine chainH_take (v := ?_) (by simp only [List.getElem?_toArray, List.getElem?_cons_zero]; rfl) (by rfl) (fun w hS => ?_) ?_
            rotate_left
            · go_simp <;> with_reducible rfl
            simp only [Act.put, List.setIfInBounds_toArray, List.set_cons_zero, List.set_cons_succ]
            refine chainH_take (v := ?_) (by simp only [List.getElem?_toArray, List.getElem?_cons_zero, List.getElem?_cons_succ]; rfl) (by rfl) (fun w hS => ?_) ?_
            rotate_left
            · go_simp <;> with_reducible rfl
            simp only [Act.put, List.setIfInBounds_toArray, List.set_cons_zero, List.set_cons_succ]
            refine chainH_take (v := ?_) (by simp only [List.getElem?_toArray, List.getElem?_cons_zero, List.getElem?_cons_succ]; rfl) (by rfl) (fun w hS => ?_) ?_
            rotate_left
            · obtain ⟨a0, a1, a2, a3, a4, a5, a6, -⟩ := cells7 (HC1.out.later hS); go_simp <;> with_reducible rfl
            simp only [Act.put, List.setIfInBounds_toArray, List.set_cons_zero, List.set_cons_succ]
            refine chainH_take (v := ?_) (by simp only [List.getElem?_toArray, List.getElem?_cons_zero, List.getElem?_cons_succ]; rfl) (by rfl) (fun w hS => ?_) ?_
            rotate_left
            · obtain ⟨a0, a1, a2, a3, a4, a5, a6, -⟩ := cells7 (HC1.out.later hS); go_simp <;> with_reducible rfl
            simp only [Act.put, List.setIfInBounds_toArray, List.set_cons_zero, List.set_cons_succ]
            refine chainH_take (v := ?_) (by simp only [List.getElem?_toArray, List.getElem?_cons_zero, List.getElem?_cons_succ]; rfl) (by rfl) (fun w hS => ?_) ?_
            rotate_left
            · go_simp <;> with_reducible rfl
            simp only [Act.put, List.setIfInBounds_toArray, List.set_cons_zero, List.set_cons_succ]
            refine chainH_alone (by simp only [List.getElem?_toArray, List.getElem?_cons_zero, List.getElem?_cons_succ]; rfl) ?_
            intro K hK
            go_wp2_with fail
            refine (of_any r _ (HS1.out.drewN 1)).mono ?_
            rintro e w2 ⟨rfl, hb⟩
            rw [HX.out]
            have Bw2 : Below w1.heap.size w1 w2 := ((Below.refl _ _).drewN 1).trans hb
            clear hb
            obtain ⟨i0, i1, i2, i3, i4, i5, i6, -⟩ := cells7 (HC1.out.later Bw2)
            go_wp2
            refine hK.out _ _ Bw2 ?_
            clear hK K
            refine chainH_alone (by simp only [List.getElem?_toArray, List.getElem?_cons_zero, List.getElem?_cons_succ]; rfl) ?_
            intro K hK
            go_wp2
            refine hK.out _ _ Bw2 ?_
            clear hK K
            refine chainH_alone (by simp only [List.getElem?_toArray, List.getElem?_cons_zero, List.getElem?_cons_succ]; rfl) ?_
            intro K hK
            go_wp2
            refine hK.out _ _ Bw2 ?_
            clear hK K
            refine chainH_alone (by simp only [List.getElem?_toArray, List.getElem?_cons_zero, List.getElem?_cons_succ]; rfl) ?_
            intro K hK
            go_wp2
            refine hK.out _ _ Bw2 ?_
            clear hK K
            refine chainH_alone (by simp only [List.getElem?_toArray, List.getElem?_cons_zero, List.getElem?_cons_succ]; rfl) ?_
            intro K hK
            go_wp2
            refine hK.out _ _ Bw2 ?_
            clear hK K
            refine chainH_alone (by simp only [List.getElem?_toArray, List.getElem?_cons_zero, List.getElem?_cons_succ]; rfl) ?_
            intro K hK
            go_wp2_with fail
            refine (rmarks_any m n _ (HS1.out.below Bw2)).mono ?_
            rintro e w3 ⟨rfl, hb⟩
            have Bw3 : Below w1.heap.size w1 w3 := Bw2.trans (hb.mono Bw2.size)
            clear hb
            go_wp2
            refine hK.out _ _ Bw3 ?_
            clear hK K
            refine chainH_alone (by simp only [List.getElem?_toArray, List.getElem?_cons_zero, List.getElem?_cons_succ]; rfl) ?_
            intro K hK
            go_wp2
            refine hK.out _ _ Bw3 ?_
            clear hK K
            refine chainH_alone (by simp only [List.getElem?_toArray, List.getElem?_cons_zero, List.getElem?_cons_succ]; rfl) ?_
            intro K hK
            go_wp2
            refine hK.out _ _ Bw3 ?_
            clear hK K
            refine chainH_nil ?_
            go_wp2
            go_ret
            exact ⟨ret_bool E2.out.symm, HB1.out.trans (Bw3.mono HB1.out.size)⟩
          · have hqq : (P1 == (d : Int)) = false := by simpa using hq
            have E2 : Hid (rightC ⟨r, m, n, d, ⟨f, g, b⟩⟩ = false) := by unfold Hid; rw [E.out, HX.out, decide_eq_false hq]; rfl
            clear hp hP1 hq h0 h1 h2
            go_enter Tryz.func88, Tryz.ntmps88
            go_wp2_with fail
            rw [HW0.out]
            refine (right_any f g b _).mono ?_
            rintro e w1 ⟨rfl, hb1⟩
            rw [HP.out]
            have HC1 := hide (HC.out.later hb1)
            have HS1 := hide (HS.out.below hb1)
            have HB1 := hide (HB.out.trans (hb1.mono HB.out.size))
            obtain ⟨c0, c1, c2, c3, c4, c5, c6, cz⟩ := cells7 HC1.out
            clear hb1 cz
            go_wp2
            refine wp_region_chainH (fun w' => Below w1.heap.size w1 w') [(true, 0), (true, 3), (true, 1), (true, 4), (true, 5), (false, 2), (false, 6), (false, 7), (false, 8), (false, 9), (false, 10), (false, 11), (false, 12)] (by kernel_rfl) (by kernel_rfl) (by kernel_rfl) (fun _ _ _ _ _ h => h) ?_ ?_
            · exact (Below.refl _ _).drewN 1
            refine chainH_take (v := ?_) (by simp only [List.getElem?_toArray, List.getElem?_cons_zero]; rfl) (by rfl) (fun w hS => ?_) ?_
            rotate_left
            · go_simp <;> with_reducible rfl
            simp only [Act.put, List.setIfInBounds_toArray, List.set_cons_zero, List.set_cons_succ]
            refine chainH_take (v := ?_) (by simp only [List.getElem?_toArray, List.getElem?_cons_zero, List.getElem?_cons_succ]; rfl) (by rfl) (fun w hS => ?_) ?_
            rotate_left
            · go_simp <;> with_reducible rfl
            simp only [Act.put, List.setIfInBounds_toArray, List.set_cons_zero, List.set_cons_succ]
            refine chainH_take (v := ?_) (by simp only [List.getElem?_toArray, List.getElem?_cons_zero, List.getElem?_cons_succ]; rfl) (by rfl) (fun w hS => ?_) ?_
            rotate_left
            · obtain ⟨a0, a1, a2, a3, a4, a5, a6, -⟩ := cells7 (HC1.out.later hS); go_simp <;> with_reducible rfl
            simp only [Act.put, List.setIfInBounds_toArray, List.set_cons_zero, List.set_cons_succ]
            refine chainH_take (v := ?_) (by simp only [List.getElem?_toArray, List.getElem?_cons_zero, List.getElem?_cons_succ]; rfl) (by rfl) (fun w hS => ?_) ?_
            rotate_left
            · obtain ⟨a0, a1, a2, a3, a4, a5, a6, -⟩ := cells7 (HC1.out.later hS); go_simp <;> with_reducible rfl
            simp only [Act.put, List.setIfInBounds_toArray, List.set_cons_zero, List.set_cons_succ]
            refine chainH_take (v := ?_) (by simp only [List.getElem?_toArray, List.getElem?_cons_zero, List.getElem?_cons_succ]; rfl) (by rfl) (fun w hS => ?_) ?_
            rotate_left
            · go_simp <;> with_reducible rfl
            simp only [Act.put, List.setIfInBounds_toArray, List.set_cons_zero, List.set_cons_succ]
            refine chainH_alone (by simp only [List.getElem?_toArray, List.getElem?_cons_zero, List.getElem?_cons_succ]; rfl) ?_
            intro K hK
            go_wp2_with fail
            refine (of_any r _ (HS1.out.drewN 1)).mono ?_
            rintro e w2 ⟨rfl, hb⟩
            rw [HX.out]
            have Bw2 : Below w1.heap.size w1 w2 := ((Below.refl _ _).drewN 1).trans hb
            clear hb
            obtain ⟨i0, i1, i2, i3, i4, i5, i6, -⟩ := cells7 (HC1.out.later Bw2)
            go_wp2
            refine hK.out _ _ Bw2 ?_
            clear hK K
            refine chainH_alone (by simp only [List.getElem?_toArray, List.getElem?_cons_zero, List.getElem?_cons_succ]; rfl) ?_
            intro K hK
            go_wp2
            refine hK.out _ _ Bw2 ?_
            clear hK K
            refine chainH_alone (by simp only [List.getElem?_toArray, List.getElem?_cons_zero, List.getElem?_cons_succ]; rfl) ?_
            intro K hK
            go_wp2
            refine hK.out _ _ Bw2 ?_
            clear hK K
            rw [hqq]
            refine chainH_pass (by simp only [List.getElem?_toArray, List.getElem?_cons_zero, List.getElem?_cons_succ]; rfl) (by rfl) Bw2 ?_
            simp only [Act.put, List.setIfInBounds_toArray, List.set_cons_zero, List.set_cons_succ]
            refine chainH_pass (by simp only [List.getElem?_toArray, List.getElem?_cons_zero, List.getElem?_cons_succ]; rfl) (by rfl) Bw2 ?_
            simp only [Act.put, List.setIfInBounds_toArray, List.set_cons_zero, List.set_cons_succ]
            refine chainH_pass (by simp only [List.getElem?_toArray, List.getElem?_cons_zero, List.getElem?_cons_succ]; rfl) (by rfl) Bw2 ?_
            simp only [Act.put, List.setIfInBounds_toArray, List.set_cons_zero, List.set_cons_succ]
            refine chainH_alone (by simp only [List.getElem?_toArray, List.getElem?_cons_zero, List.getElem?_cons_succ]; rfl) ?_
            intro K hK
            go_wp2
            refine hK.out _ _ Bw2 ?_
            clear hK K
            refine chainH_alone (by simp only [List.getElem?_toArray, List.getElem?_cons_zero, List.getElem?_cons_succ]; rfl) ?_
            intro K hK
            go_wp2
            refine hK.out _ _ Bw2 ?_
            clear hK K
            refine chainH_nil ?_
            go_wp2
            go_ret
            exact ⟨ret_bool E2.out.symm, HB1.out.trans (Bw2.mono HB1.out.size)⟩
        · have e2 : ((d : Int) == 2) = false := by simp; omega
          have E := hide (rightC_more r m n d f g b h0 h1 h2)
          clear hp h0 h1 h2
          go_enter Tryz.func88, Tryz.ntmps88
          go_wp2_with fail
          rw [HW0.out]
          refine (right_any f g b _).mono ?_
          rintro e w1 ⟨rfl, hb1⟩
          rw [HP.out]
          have HC1 := hide (HC.out.later hb1)
          have HS1 := hide (HS.out.below hb1)
          have HB1 := hide (HB.out.trans (hb1.mono HB.out.size))
          obtain ⟨c0, c1, c2, c3, c4, c5, c6, cz⟩ := cells7 HC1.out
          clear hb1 cz
          go_wp2
          go_ret
          exact ⟨ret_bool E.out.symm, HB1.out⟩
end Go.Proofs.YtiifeniijcnahaaGreatDoor

namespace Go.Proofs.YtiifeniijcnahaaGreatDoor
set_option maxRecDepth 100000
open Go.ChangeShapes Go.WideShapes Go.ChangeAt Go.RowKit
set_option linter.unusedVariables false

set_option maxRecDepth 100000 in
set_option maxHeartbeats 4000000 in
theorem rcright_any (r m n : Int) (d f g b : Nat) (hd : d < 256) (w : World) : Calls Tryz.prog 91 #[.agg #[.int .i64 r, .int .i64 m, .int .i64 n, .int .u8 (d : Int), .int .u8 (f : Int), .int .u8 (g : Int), .int .u8 (b : Int)]] w (Said (rightC ⟨r, m, n, d, ⟨f, g, b⟩⟩) w) := by
  obtain ⟨W0, hW0⟩ : ∃ W0, w.alloc (.cells #[.int .i64 r, .int .i64 m, .int .i64 n, .int .u8 (d : Int), .int .u8 (f : Int), .int .u8 (g : Int), .int .u8 (b : Int)] 52) = W0 := ⟨_, rfl⟩
  have HB : Hid (Below w.heap.size w W0) := by unfold Hid; rw [← hW0]; exact one_new w _ [.int .i64 r, .int .i64 m, .int .i64 n, .int .u8 (d : Int), .int .u8 (f : Int), .int .u8 (g : Int), .int .u8 (b : Int)]
  have HC : Hid (Whole W0 w.heap.size 52 [.int .i64 r, .int .i64 m, .int .i64 n, .int .u8 (d : Int), .int .u8 (f : Int), .int .u8 (g : Int), .int .u8 (b : Int)]) := by unfold Hid; rw [← hW0]; exact Whole.new w 52 [.int .i64 r, .int .i64 m, .int .i64 n, .int .u8 (d : Int), .int .u8 (f : Int), .int .u8 (g : Int), .int .u8 (b : Int)]
  have HW0 := hide hW0
  clear hW0
  have hd1 : (0 : Int) ≤ (d : Int) := by omega
  have hd2 : (d : Int) ≤ 255 := by omega
  cases hp : rightN ⟨f, g, b⟩
  case false =>
    have E := hide (rightC_pen ⟨r, m, n, d, ⟨f, g, b⟩⟩ hp)
    have HP := hide hp
    clear hp
    go_enter Tryz.func91, Tryz.ntmps91
    go_wp2_with fail
    rw [HW0.out]
    refine (rright_any f g b _).mono ?_
    rintro e w1 ⟨rfl, hb1⟩
    rw [HP.out]
    have HC1 := hide (HC.out.later hb1)
    have HB1 := hide (HB.out.trans (hb1.mono HB.out.size))
    obtain ⟨c0, c1, c2, c3, c4, c5, c6, cz⟩ := cells7 HC1.out
    clear hb1 cz
    go_wp2
    go_ret
    exact ⟨ret_bool E.out.symm, HB1.out⟩
  case true =>
    have HP := hide hp
    by_cases h3 : (2 : Int) < (d : Int)
    · have E := hide (rightC_more r m n d f g b (by omega) (by omega) (by omega))
      clear hp
      go_enter Tryz.func91, Tryz.ntmps91
      go_wp2_with fail
      rw [HW0.out]
      refine (rright_any f g b _).mono ?_
      rintro e w1 ⟨rfl, hb1⟩
      rw [HP.out]
      have HC1 := hide (HC.out.later hb1)
      have HB1 := hide (HB.out.trans (hb1.mono HB.out.size))
      obtain ⟨c0, c1, c2, c3, c4, c5, c6, cz⟩ := cells7 HC1.out
      clear hb1 cz
      go_wp2
      go_ret
      exact ⟨ret_bool E.out.symm, HB1.out⟩
    · by_cases h0 : d = 0
      · have E := hide (rightC_half r m n d f g b hp h0)
        have e0 : ((d : Int) == 0) = true := by simp; omega
        by_cases hr : r = 0
        · by_cases hm : m = 0
          · by_cases hn : n = 0
            · have E2 : Hid (rightC ⟨r, m, n, d, ⟨f, g, b⟩⟩ = true) := by unfold Hid; rw [E.out]; simp [hr, hm, hn]
              have q1 : (r == 0) = true := by simpa using hr
              have q2 : (m == 0) = true := by simpa using hm
              have q3 : (n == 0) = true := by simpa using hn
              clear hp h0 hr hm hn
              go_enter Tryz.func91, Tryz.ntmps91
              go_wp2_with fail
              rw [HW0.out]
              refine (rright_any f g b _).mono ?_
              rintro e w1 ⟨rfl, hb1⟩
              rw [HP.out]
              have HC1 := hide (HC.out.later hb1)
              have HB1 := hide (HB.out.trans (hb1.mono HB.out.size))
              obtain ⟨c0, c1, c2, c3, c4, c5, c6, cz⟩ := cells7 HC1.out
              clear hb1 cz
              go_wp2
              go_ret
              exact ⟨ret_bool E2.out.symm, HB1.out⟩
            · have E2 : Hid (rightC ⟨r, m, n, d, ⟨f, g, b⟩⟩ = false) := by unfold Hid; rw [E.out]; simp [hr, hm, hn]
              have q1 : (r == 0) = true := by simpa using hr
              have q2 : (m == 0) = true := by simpa using hm
              have q3 : (n == 0) = false := by simpa using hn
              clear hp h0 hr hm hn
              go_enter Tryz.func91, Tryz.ntmps91
              go_wp2_with fail
              rw [HW0.out]
              refine (rright_any f g b _).mono ?_
              rintro e w1 ⟨rfl, hb1⟩
              rw [HP.out]
              have HC1 := hide (HC.out.later hb1)
              have HB1 := hide (HB.out.trans (hb1.mono HB.out.size))
              obtain ⟨c0, c1, c2, c3, c4, c5, c6, cz⟩ := cells7 HC1.out
              clear hb1 cz
              go_wp2
              go_ret
              exact ⟨ret_bool E2.out.symm, HB1.out⟩
          · have E2 : Hid (rightC ⟨r, m, n, d, ⟨f, g, b⟩⟩ = false) := by unfold Hid; rw [E.out]; simp [hr, hm]
            have q1 : (r == 0) = true := by simpa using hr
            have q2 : (m == 0) = false := by simpa using hm
            clear hp h0 hr hm
            go_enter Tryz.func91, Tryz.ntmps91
            go_wp2_with fail
            rw [HW0.out]
            refine (rright_any f g b _).mono ?_
            rintro e w1 ⟨rfl, hb1⟩
            rw [HP.out]
            have HC1 := hide (HC.out.later hb1)
            have HB1 := hide (HB.out.trans (hb1.mono HB.out.size))
            obtain ⟨c0, c1, c2, c3, c4, c5, c6, cz⟩ := cells7 HC1.out
            clear hb1 cz
            go_wp2
            go_ret
            exact ⟨ret_bool E2.out.symm, HB1.out⟩
        · have E2 : Hid (rightC ⟨r, m, n, d, ⟨f, g, b⟩⟩ = false) := by unfold Hid; rw [E.out]; simp [hr]
          have q1 : (r == 0) = false := by simpa using hr
          clear hp h0 hr
          go_enter Tryz.func91, Tryz.ntmps91
          go_wp2_with fail
          rw [HW0.out]
          refine (rright_any f g b _).mono ?_
          rintro e w1 ⟨rfl, hb1⟩
          rw [HP.out]
          have HC1 := hide (HC.out.later hb1)
          have HB1 := hide (HB.out.trans (hb1.mono HB.out.size))
          obtain ⟨c0, c1, c2, c3, c4, c5, c6, cz⟩ := cells7 HC1.out
          clear hb1 cz
          go_wp2
          go_ret
          exact ⟨ret_bool E2.out.symm, HB1.out⟩
      · have e0 : ((d : Int) == 0) = false := by simp; omega
        have E := hide (rightC_bears r m n d f g b hp (by omega))
        obtain ⟨P1, hP1⟩ : ∃ P1, wOf r = P1 := ⟨_, rfl⟩
        have HX := hide hP1
        by_cases hq : P1 = d
        · have hqq : (P1 != (d : Int)) = false := by simpa using hq
          by_cases hm : m = 0
          · have q2 : (m == 0) = true := by simpa using hm
            by_cases hn : n = 0
            · have E3 : Hid (rightC ⟨r, m, n, d, ⟨f, g, b⟩⟩ = true) := by unfold Hid; rw [E.out, HX.out, decide_eq_true hq]; unfold marksC; simp [hm, hn]
              have q3 : (n == 0) = true := by simpa using hn
              clear hp hP1 hq h0 hm hn
              go_enter Tryz.func91, Tryz.ntmps91
              go_wp2_with fail
              rw [HW0.out]
              refine (rright_any f g b _).mono ?_
              rintro e w1 ⟨rfl, hb1⟩
              rw [HP.out]
              have HC1 := hide (HC.out.later hb1)
              have HB1 := hide (HB.out.trans (hb1.mono HB.out.size))
              obtain ⟨c0, c1, c2, c3, c4, c5, c6, cz⟩ := cells7 HC1.out
              clear hb1 cz
              go_wp2
              refine wp_region_chainH (fun w' => Below w1.heap.size w1 w') [(true, 0), (true, 3), (true, 1), (true, 4), (true, 5), (false, 2), (false, 6)] (by kernel_rfl) (by kernel_rfl) (by kernel_rfl) (fun _ _ _ _ _ h => h) ?_ ?_
              · exact (Below.refl _ _).drewN 1
              refine chainH_take (v := ?_) (by simp only [List.getElem?_toArray, List.getElem?_cons_zero]; rfl) (by rfl) (fun w hS => ?_) ?_
              rotate_left
              · go_simp <;> with_reducible rfl
              simp only [Act.put, List.setIfInBounds_toArray, List.set_cons_zero, List.set_cons_succ]
              refine chainH_take (v := ?_) (by simp only [List.getElem?_toArray, List.getElem?_cons_zero, List.getElem?_cons_succ]; rfl) (by rfl) (fun w hS => ?_) ?_
              rotate_left
              · go_simp <;> with_reducible rfl
              simp only [Act.put, List.setIfInBounds_toArray, List.set_cons_zero, List.set_cons_succ]
              refine chainH_take (v := ?_) (by simp only [List.getElem?_toArray, List.getElem?_cons_zero, List.getElem?_cons_succ]; rfl) (by rfl) (fun w hS => ?_) ?_
              rotate_left
              · obtain ⟨a0, a1, a2, a3, a4, a5, a6, -⟩ := cells7 (HC1.out.later hS); go_simp <;> with_reducible rfl
              simp only [Act.put, List.setIfInBounds_toArray, List.set_cons_zero, List.set_cons_succ]
              refine chainH_take (v := ?_) (by simp only [List.getElem?_toArray, List.getElem?_cons_zero, List.getElem?_cons_succ]; rfl) (by rfl) (fun w hS => ?_) ?_
              rotate_left
              · obtain ⟨a0, a1, a2, a3, a4, a5, a6, -⟩ := cells7 (HC1.out.later hS); go_simp <;> with_reducible rfl
              simp only [Act.put, List.setIfInBounds_toArray, List.set_cons_zero, List.set_cons_succ]
              refine chainH_take (v := ?_) (by simp only [List.getElem?_toArray, List.getElem?_cons_zero, List.getElem?_cons_succ]; rfl) (by rfl) (fun w hS => ?_) ?_
              rotate_left
              · go_simp <;> with_reducible rfl
              simp only [Act.put, List.setIfInBounds_toArray, List.set_cons_zero, List.set_cons_succ]
              refine chainH_alone (by simp only [List.getElem?_toArray, List.getElem?_cons_zero, List.getElem?_cons_succ]; rfl) ?_
              intro K hK
              go_wp2_with fail
              refine (rof_any r _).mono ?_
              rintro e w2 ⟨rfl, hb⟩
              rw [HX.out]
              have Bw2 : Below w1.heap.size w1 w2 := ((Below.refl _ _).drewN 1).trans hb
              clear hb
              go_wp2
              refine hK.out _ _ Bw2 ?_
              clear hK K
              refine chainH_alone (by simp only [List.getElem?_toArray, List.getElem?_cons_zero, List.getElem?_cons_succ]; rfl) ?_
              intro K hK
              go_wp2
              refine hK.out _ _ Bw2 ?_
              clear hK K
              refine chainH_nil ?_
              replace HB1 := hide (HB1.out.trans (Bw2.mono HB1.out.size))
              replace HC1 := hide (HC1.out.later Bw2)
              clear Bw2 c0 c1 c2 c3 c4 c5 c6
              obtain ⟨c0, c1, c2, c3, c4, c5, c6, cz⟩ := cells7 HC1.out
              clear cz
              go_wp2
              go_quiet (fail)
              have HB2 := hide (HB1.out.drewN nq)
              go_wp2
              go_ret
              exact ⟨ret_bool E3.out.symm, HB2.out⟩
            · have E3 : Hid (rightC ⟨r, m, n, d, ⟨f, g, b⟩⟩ = false) := by unfold Hid; rw [E.out, HX.out, decide_eq_true hq]; unfold marksC; simp [hm, hn]
              have q3 : (n == 0) = false := by simpa using hn
              have HM : Hid (wOf m = -1) := by unfold Hid; rw [hm]; exact wOf_zero
              clear hp hP1 hq h0 hm hn
              go_enter Tryz.func91, Tryz.ntmps91
              go_wp2_with fail
              rw [HW0.out]
              refine (rright_any f g b _).mono ?_
              rintro e w1 ⟨rfl, hb1⟩
              rw [HP.out]
              have HC1 := hide (HC.out.later hb1)
              have HB1 := hide (HB.out.trans (hb1.mono HB.out.size))
              obtain ⟨c0, c1, c2, c3, c4, c5, c6, cz⟩ := cells7 HC1.out
              clear hb1 cz
              go_wp2
              refine wp_region_chainH (fun w' => Below w1.heap.size w1 w') [(true, 0), (true, 3), (true, 1), (true, 4), (true, 5), (false, 2), (false, 6)] (by kernel_rfl) (by kernel_rfl) (by kernel_rfl) (fun _ _ _ _ _ h => h) ?_ ?_
              · exact (Below.refl _ _).drewN 1
              refine chainH_take (v := ?_) (by simp only [List.getElem?_toArray, List.getElem?_cons_zero]; rfl) (by rfl) (fun w hS => ?_) ?_
              rotate_left
              · go_simp <;> with_reducible rfl
              simp only [Act.put, List.setIfInBounds_toArray, List.set_cons_zero, List.set_cons_succ]
              refine chainH_take (v := ?_) (by simp only [List.getElem?_toArray, List.getElem?_cons_zero, List.getElem?_cons_succ]; rfl) (by rfl) (fun w hS => ?_) ?_
              rotate_left
              · go_simp <;> with_reducible rfl
              simp only [Act.put, List.setIfInBounds_toArray, List.set_cons_zero, List.set_cons_succ]
              refine chainH_take (v := ?_) (by simp only [List.getElem?_toArray, List.getElem?_cons_zero, List.getElem?_cons_succ]; rfl) (by rfl) (fun w hS => ?_) ?_
              rotate_left
              · obtain ⟨a0, a1, a2, a3, a4, a5, a6, -⟩ := cells7 (HC1.out.later hS); go_simp <;> with_reducible rfl
              simp only [Act.put, List.setIfInBounds_toArray, List.set_cons_zero, List.set_cons_succ]
              refine chainH_take (v := ?_) (by simp only [List.getElem?_toArray, List.getElem?_cons_zero, List.getElem?_cons_succ]; rfl) (by rfl) (fun w hS => ?_) ?_
              rotate_left
              · obtain ⟨a0, a1, a2, a3, a4, a5, a6, -⟩ := cells7 (HC1.out.later hS); go_simp <;> with_reducible rfl
              simp only [Act.put, List.setIfInBounds_toArray, List.set_cons_zero, List.set_cons_succ]
              refine chainH_take (v := ?_) (by simp only [List.getElem?_toArray, List.getElem?_cons_zero, List.getElem?_cons_succ]; rfl) (by rfl) (fun w hS => ?_) ?_
              rotate_left
              · go_simp <;> with_reducible rfl
              simp only [Act.put, List.setIfInBounds_toArray, List.set_cons_zero, List.set_cons_succ]
              refine chainH_alone (by simp only [List.getElem?_toArray, List.getElem?_cons_zero, List.getElem?_cons_succ]; rfl) ?_
              intro K hK
              go_wp2_with fail
              refine (rof_any r _).mono ?_
              rintro e w2 ⟨rfl, hb⟩
              rw [HX.out]
              have Bw2 : Below w1.heap.size w1 w2 := ((Below.refl _ _).drewN 1).trans hb
              clear hb
              go_wp2
              refine hK.out _ _ Bw2 ?_
              clear hK K
              refine chainH_alone (by simp only [List.getElem?_toArray, List.getElem?_cons_zero, List.getElem?_cons_succ]; rfl) ?_
              intro K hK
              go_wp2
              refine hK.out _ _ Bw2 ?_
              clear hK K
              refine chainH_nil ?_
              replace HB1 := hide (HB1.out.trans (Bw2.mono HB1.out.size))
              replace HC1 := hide (HC1.out.later Bw2)
              clear Bw2 c0 c1 c2 c3 c4 c5 c6
              obtain ⟨c0, c1, c2, c3, c4, c5, c6, cz⟩ := cells7 HC1.out
              clear cz
              go_wp2
              go_quiet (fail)
              have HB2 := hide (HB1.out.drewN nq)
              go_wp2_with fail
              refine (rof_any m _).mono ?_
              rintro e w3 ⟨rfl, hb⟩
              rw [HM.out]
              have HB3 := hide (HB2.out.trans (hb.mono HB2.out.size))
              clear hb
              go_wp2
              go_ret
              exact ⟨ret_bool E3.out.symm, HB3.out⟩
          · have q2 : (m == 0) = false := by simpa using hm
            have q4 : (m != 0) = true := by simpa using hm
            obtain ⟨P2, hP2⟩ : ∃ P2, wOf m = P2 := ⟨_, rfl⟩
            have HM := hide hP2
            by_cases hz : P2 = 0
            · have q5 : (P2 == 0) = true := by simpa using hz
              by_cases hn : n = 0
              · have E3 : Hid (rightC ⟨r, m, n, d, ⟨f, g, b⟩⟩ = true) := by unfold Hid; rw [E.out, HX.out, decide_eq_true hq]; unfold marksC; simp [hm, hn, hP2, hz]
                have q3 : (n == 0) = true := by simpa using hn
                clear hp hP1 hq h0 hP2 hm hn hz
                go_enter Tryz.func91, Tryz.ntmps91
                go_wp2_with fail
                rw [HW0.out]
                refine (rright_any f g b _).mono ?_
                rintro e w1 ⟨rfl, hb1⟩
                rw [HP.out]
                have HC1 := hide (HC.out.later hb1)
                have HB1 := hide (HB.out.trans (hb1.mono HB.out.size))
                obtain ⟨c0, c1, c2, c3, c4, c5, c6, cz⟩ := cells7 HC1.out
                clear hb1 cz
                go_wp2
                refine wp_region_chainH (fun w' => Below w1.heap.size w1 w') [(true, 0), (true, 3), (true, 1), (true, 4), (true, 5), (false, 2), (false, 6)] (by kernel_rfl) (by kernel_rfl) (by kernel_rfl) (fun _ _ _ _ _ h => h) ?_ ?_
                · exact (Below.refl _ _).drewN 1
                refine chainH_take (v := ?_) (by simp only [List.getElem?_toArray, List.getElem?_cons_zero]; rfl) (by rfl) (fun w hS => ?_) ?_
                rotate_left
                · go_simp <;> with_reducible rfl
                simp only [Act.put, List.setIfInBounds_toArray, List.set_cons_zero, List.set_cons_succ]
                refine chainH_take (v := ?_) (by simp only [List.getElem?_toArray, List.getElem?_cons_zero, List.getElem?_cons_succ]; rfl) (by rfl) (fun w hS => ?_) ?_
                rotate_left
                · go_simp <;> with_reducible rfl
                simp only [Act.put, List.setIfInBounds_toArray, List.set_cons_zero, List.set_cons_succ]
                refine chainH_take (v := ?_) (by simp only [List.getElem?_toArray, List.getElem?_cons_zero, List.getElem?_cons_succ]; rfl) (by rfl) (fun w hS => ?_) ?_
                rotate_left
                · obtain ⟨a0, a1, a2, a3, a4, a5, a6, -⟩ := cells7 (HC1.out.later hS); go_simp <;> with_reducible rfl
                simp only [Act.put, List.setIfInBounds_toArray, List.set_cons_zero, List.set_cons_succ]
                refine chainH_take (v := ?_) (by simp only [List.getElem?_toArray, List.getElem?_cons_zero, List.getElem?_cons_succ]; rfl) (by rfl) (fun w hS => ?_) ?_
                rotate_left
                · obtain ⟨a0, a1, a2, a3, a4, a5, a6, -⟩ := cells7 (HC1.out.later hS); go_simp <;> with_reducible rfl
                simp only [Act.put, List.setIfInBounds_toArray, List.set_cons_zero, List.set_cons_succ]
                refine chainH_take (v := ?_) (by simp only [List.getElem?_toArray, List.getElem?_cons_zero, List.getElem?_cons_succ]; rfl) (by rfl) (fun w hS => ?_) ?_
                rotate_left
                · go_simp <;> with_reducible rfl
                simp only [Act.put, List.setIfInBounds_toArray, List.set_cons_zero, List.set_cons_succ]
                refine chainH_alone (by simp only [List.getElem?_toArray, List.getElem?_cons_zero, List.getElem?_cons_succ]; rfl) ?_
                intro K hK
                go_wp2_with fail
                refine (rof_any r _).mono ?_
                rintro e w2 ⟨rfl, hb⟩
                rw [HX.out]
                have Bw2 : Below w1.heap.size w1 w2 := ((Below.refl _ _).drewN 1).trans hb
                clear hb
                go_wp2
                refine hK.out _ _ Bw2 ?_
                clear hK K
                refine chainH_alone (by simp only [List.getElem?_toArray, List.getElem?_cons_zero, List.getElem?_cons_succ]; rfl) ?_
                intro K hK
                go_wp2
                refine hK.out _ _ Bw2 ?_
                clear hK K
                refine chainH_nil ?_
                replace HB1 := hide (HB1.out.trans (Bw2.mono HB1.out.size))
                replace HC1 := hide (HC1.out.later Bw2)
                clear Bw2 c0 c1 c2 c3 c4 c5 c6
                obtain ⟨c0, c1, c2, c3, c4, c5, c6, cz⟩ := cells7 HC1.out
                clear cz
                go_wp2
                go_quiet (fail)
                have HB2 := hide (HB1.out.drewN nq)
                go_wp2_with fail
                refine (rof_any m _).mono ?_
                rintro e w3 ⟨rfl, hb⟩
                rw [HM.out]
                have HB3 := hide (HB2.out.trans (hb.mono HB2.out.size))
                clear hb
                go_wp2
                go_ret
                exact ⟨ret_bool E3.out.symm, HB3.out⟩
              · have q3 : (n == 0) = false := by simpa using hn
                obtain ⟨P3, hP3⟩ : ∃ P3, wOf n = P3 := ⟨_, rfl⟩
                have HN := hide hP3
                have E3 : Hid (rightC ⟨r, m, n, d, ⟨f, g, b⟩⟩ = (P3 == 0)) := by unfold Hid; rw [E.out, HX.out, decide_eq_true hq]; unfold marksC; simp [hm, hn, hP2, hz, hP3]; rfl
                clear hp hP1 hq h0 hP2 hP3 hm hn hz
                go_enter Tryz.func91, Tryz.ntmps91
                go_wp2_with fail
                rw [HW0.out]
                refine (rright_any f g b _).mono ?_
                rintro e w1 ⟨rfl, hb1⟩
                rw [HP.out]
                have HC1 := hide (HC.out.later hb1)
                have HB1 := hide (HB.out.trans (hb1.mono HB.out.size))
                obtain ⟨c0, c1, c2, c3, c4, c5, c6, cz⟩ := cells7 HC1.out
                clear hb1 cz
                go_wp2
                refine wp_region_chainH (fun w' => Below w1.heap.size w1 w') [(true, 0), (true, 3), (true, 1), (true, 4), (true, 5), (false, 2), (false, 6)] (by kernel_rfl) (by kernel_rfl) (by kernel_rfl) (fun _ _ _ _ _ h => h) ?_ ?_
                · exact (Below.refl _ _).drewN 1
                refine chainH_take (v := ?_) (by simp only [List.getElem?_toArray, List.getElem?_cons_zero]; rfl) (by rfl) (fun w hS => ?_) ?_
                rotate_left
                · go_simp <;> with_reducible rfl
                simp only [Act.put, List.setIfInBounds_toArray, List.set_cons_zero, List.set_cons_succ]
                refine chainH_take (v := ?_) (by simp only [List.getElem?_toArray, List.getElem?_cons_zero, List.getElem?_cons_succ]; rfl) (by rfl) (fun w hS => ?_) ?_
                rotate_left
                · go_simp <;> with_reducible rfl
                simp only [Act.put, List.setIfInBounds_toArray, List.set_cons_zero, List.set_cons_succ]
                refine chainH_take (v := ?_) (by simp only [List.getElem?_toArray, List.getElem?_cons_zero, List.getElem?_cons_succ]; rfl) (by rfl) (fun w hS => ?_) ?_
                rotate_left
                · obtain ⟨a0, a1, a2, a3, a4, a5, a6, -⟩ := cells7 (HC1.out.later hS); go_simp <;> with_reducible rfl
                simp only [Act.put, List.setIfInBounds_toArray, List.set_cons_zero, List.set_cons_succ]
                refine chainH_take (v := ?_) (by simp only [List.getElem?_toArray, List.getElem?_cons_zero, List.getElem?_cons_succ]; rfl) (by rfl) (fun w hS => ?_) ?_
                rotate_left
                · obtain ⟨a0, a1, a2, a3, a4, a5, a6, -⟩ := cells7 (HC1.out.later hS); go_simp <;> with_reducible rfl
                simp only [Act.put, List.setIfInBounds_toArray, List.set_cons_zero, List.set_cons_succ]
                refine chainH_take (v := ?_) (by simp only [List.getElem?_toArray, List.getElem?_cons_zero, List.getElem?_cons_succ]; rfl) (by rfl) (fun w hS => ?_) ?_
                rotate_left
                · go_simp <;> with_reducible rfl
                simp only [Act.put, List.setIfInBounds_toArray, List.set_cons_zero, List.set_cons_succ]
                refine chainH_alone (by simp only [List.getElem?_toArray, List.getElem?_cons_zero, List.getElem?_cons_succ]; rfl) ?_
                intro K hK
                go_wp2_with fail
                refine (rof_any r _).mono ?_
                rintro e w2 ⟨rfl, hb⟩
                rw [HX.out]
                have Bw2 : Below w1.heap.size w1 w2 := ((Below.refl _ _).drewN 1).trans hb
                clear hb
                go_wp2
                refine hK.out _ _ Bw2 ?_
                clear hK K
                refine chainH_alone (by simp only [List.getElem?_toArray, List.getElem?_cons_zero, List.getElem?_cons_succ]; rfl) ?_
                intro K hK
                go_wp2
                refine hK.out _ _ Bw2 ?_
                clear hK K
                refine chainH_nil ?_
                replace HB1 := hide (HB1.out.trans (Bw2.mono HB1.out.size))
                replace HC1 := hide (HC1.out.later Bw2)
                clear Bw2 c0 c1 c2 c3 c4 c5 c6
                obtain ⟨c0, c1, c2, c3, c4, c5, c6, cz⟩ := cells7 HC1.out
                clear cz
                go_wp2
                go_quiet (fail)
                have HB2 := hide (HB1.out.drewN nq)
                go_wp2_with fail
                refine (rof_any m _).mono ?_
                rintro e w3 ⟨rfl, hb⟩
                rw [HM.out]
                have HB3 := hide (HB2.out.trans (hb.mono HB2.out.size))
                clear hb
                go_wp2_with fail
                refine (rof_any n _).mono ?_
                rintro e w4 ⟨rfl, hb⟩
                rw [HN.out]
                have HB4 := hide (HB3.out.trans (hb.mono HB3.out.size))
                clear hb
                go_wp2
                go_ret
                exact ⟨ret_bool E3.out.symm, HB4.out⟩
            · have q5 : (P2 == 0) = false := by simpa using hz
              have E3 : Hid (rightC ⟨r, m, n, d, ⟨f, g, b⟩⟩ = false) := by unfold Hid; rw [E.out, HX.out, decide_eq_true hq]; unfold marksC; simp [hm, hP2, hz]
              clear hp hP1 hq h0 hP2 hm hz
              go_enter Tryz.func91, Tryz.ntmps91
              go_wp2_with fail
              rw [HW0.out]
              refine (rright_any f g b _).mono ?_
              rintro e w1 ⟨rfl, hb1⟩
              rw [HP.out]
              have HC1 := hide (HC.out.later hb1)
              have HB1 := hide (HB.out.trans (hb1.mono HB.out.size))
              obtain ⟨c0, c1, c2, c3, c4, c5, c6, cz⟩ := cells7 HC1.out
              clear hb1 cz
              go_wp2
              refine wp_region_chainH (fun w' => Below w1.heap.size w1 w') [(true, 0), (true, 3), (true, 1), (true, 4), (true, 5), (false, 2), (false, 6)] (by kernel_rfl) (by kernel_rfl) (by kernel_rfl) (fun _ _ _ _ _ h => h) ?_ ?_
              · exact (Below.refl _ _).drewN 1
              refine chainH_take (v := ?_) (by simp only [List.getElem?_toArray, List.getElem?_cons_zero]; rfl) (by rfl) (fun w hS => ?_) ?_
              rotate_left
              · go_simp <;> with_reducible rfl
              simp only [Act.put, List.setIfInBounds_toArray, List.set_cons_zero, List.set_cons_succ]
              refine chainH_take (v := ?_) (by simp only [List.getElem?_toArray, List.getElem?_cons_zero, List.getElem?_cons_succ]; rfl) (by rfl) (fun w hS => ?_) ?_
              rotate_left
              · go_simp <;> with_reducible rfl
              simp only [Act.put, List.setIfInBounds_toArray, List.set_cons_zero, List.set_cons_succ]
              refine chainH_take (v := ?_) (by simp only [List.getElem?_toArray, List.getElem?_cons_zero, List.getElem?_cons_succ]; rfl) (by rfl) (fun w hS => ?_) ?_
              rotate_left
              · obtain ⟨a0, a1, a2, a3, a4, a5, a6, -⟩ := cells7 (HC1.out.later hS); go_simp <;> with_reducible rfl
              simp only [Act.put, List.setIfInBounds_toArray, List.set_cons_zero, List.set_cons_succ]
              refine chainH_take (v := ?_) (by simp only [List.getElem?_toArray, List.getElem?_cons_zero, List.getElem?_cons_succ]; rfl) (by rfl) (fun w hS => ?_) ?_
              rotate_left
              · obtain ⟨a0, a1, a2, a3, a4, a5, a6, -⟩ := cells7 (HC1.out.later hS); go_simp <;> with_reducible rfl
              simp only [Act.put, List.setIfInBounds_toArray, List.set_cons_zero, List.set_cons_succ]
              refine chainH_take (v := ?_) (by simp only [List.getElem?_toArray, List.getElem?_cons_zero, List.getElem?_cons_succ]; rfl) (by rfl) (fun w hS => ?_) ?_
              rotate_left
              · go_simp <;> with_reducible rfl
              simp only [Act.put, List.setIfInBounds_toArray, List.set_cons_zero, List.set_cons_succ]
              refine chainH_alone (by simp only [List.getElem?_toArray, List.getElem?_cons_zero, List.getElem?_cons_succ]; rfl) ?_
              intro K hK
              go_wp2_with fail
              refine (rof_any r _).mono ?_
              rintro e w2 ⟨rfl, hb⟩
              rw [HX.out]
              have Bw2 : Below w1.heap.size w1 w2 := ((Below.refl _ _).drewN 1).trans hb
              clear hb
              go_wp2
              refine hK.out _ _ Bw2 ?_
              clear hK K
              refine chainH_alone (by simp only [List.getElem?_toArray, List.getElem?_cons_zero, List.getElem?_cons_succ]; rfl) ?_
              intro K hK
              go_wp2
              refine hK.out _ _ Bw2 ?_
              clear hK K
              refine chainH_nil ?_
              replace HB1 := hide (HB1.out.trans (Bw2.mono HB1.out.size))
              replace HC1 := hide (HC1.out.later Bw2)
              clear Bw2 c0 c1 c2 c3 c4 c5 c6
              obtain ⟨c0, c1, c2, c3, c4, c5, c6, cz⟩ := cells7 HC1.out
              clear cz
              go_wp2
              go_quiet (fail)
              have HB2 := hide (HB1.out.drewN nq)
              go_wp2_with fail
              refine (rof_any m _).mono ?_
              rintro e w3 ⟨rfl, hb⟩
              rw [HM.out]
              have HB3 := hide (HB2.out.trans (hb.mono HB2.out.size))
              clear hb
              go_wp2
              go_ret
              exact ⟨ret_bool E3.out.symm, HB3.out⟩
        · have hqq : (P1 != (d : Int)) = true := by simpa using hq
          have E2 : Hid (rightC ⟨r, m, n, d, ⟨f, g, b⟩⟩ = false) := by unfold Hid; rw [E.out, HX.out, decide_eq_false hq]; rfl
          clear hp hP1 hq h0
          go_enter Tryz.func91, Tryz.ntmps91
          go_wp2_with fail
          rw [HW0.out]
          refine (rright_any f g b _).mono ?_
          rintro e w1 ⟨rfl, hb1⟩
          rw [HP.out]
          have HC1 := hide (HC.out.later hb1)
          have HB1 := hide (HB.out.trans (hb1.mono HB.out.size))
          obtain ⟨c0, c1, c2, c3, c4, c5, c6, cz⟩ := cells7 HC1.out
          clear hb1 cz
          go_wp2
          refine wp_region_chainH (fun w' => Below w1.heap.size w1 w') [(true, 0), (true, 3), (true, 1), (true, 4), (true, 5), (false, 2), (false, 6)] (by kernel_rfl) (by kernel_rfl) (by kernel_rfl) (fun _ _ _ _ _ h => h) ?_ ?_
          · exact (Below.refl _ _).drewN 1
          refine chainH_take (v := ?_) (by simp only [List.getElem?_toArray, List.getElem?_cons_zero]; rfl) (by rfl) (fun w hS => ?_) ?_
          rotate_left
          · go_simp <;> with_reducible rfl
          simp only [Act.put, List.setIfInBounds_toArray, List.set_cons_zero, List.set_cons_succ]
          refine chainH_take (v := ?_) (by simp only [List.getElem?_toArray, List.getElem?_cons_zero, List.getElem?_cons_succ]; rfl) (by rfl) (fun w hS => ?_) ?_
          rotate_left
          · go_simp <;> with_reducible rfl
          simp only [Act.put, List.setIfInBounds_toArray, List.set_cons_zero, List.set_cons_succ]
          refine chainH_take (v := ?_) (by simp only [List.getElem?_toArray, List.getElem?_cons_zero, List.getElem?_cons_succ]; rfl) (by rfl) (fun w hS => ?_) ?_
          rotate_left
          · obtain ⟨a0, a1, a2, a3, a4, a5, a6, -⟩ := cells7 (HC1.out.later hS); go_simp <;> with_reducible rfl
          simp only [Act.put, List.setIfInBounds_toArray, List.set_cons_zero, List.set_cons_succ]
          refine chainH_take (v := ?_) (by simp only [List.getElem?_toArray, List.getElem?_cons_zero, List.getElem?_cons_succ]; rfl) (by rfl) (fun w hS => ?_) ?_
          rotate_left
          · obtain ⟨a0, a1, a2, a3, a4, a5, a6, -⟩ := cells7 (HC1.out.later hS); go_simp <;> with_reducible rfl
          simp only [Act.put, List.setIfInBounds_toArray, List.set_cons_zero, List.set_cons_succ]
          refine chainH_take (v := ?_) (by simp only [List.getElem?_toArray, List.getElem?_cons_zero, List.getElem?_cons_succ]; rfl) (by rfl) (fun w hS => ?_) ?_
          rotate_left
          · go_simp <;> with_reducible rfl
          simp only [Act.put, List.setIfInBounds_toArray, List.set_cons_zero, List.set_cons_succ]
          refine chainH_alone (by simp only [List.getElem?_toArray, List.getElem?_cons_zero, List.getElem?_cons_succ]; rfl) ?_
          intro K hK
          go_wp2_with fail
          refine (rof_any r _).mono ?_
          rintro e w2 ⟨rfl, hb⟩
          rw [HX.out]
          have Bw2 : Below w1.heap.size w1 w2 := ((Below.refl _ _).drewN 1).trans hb
          clear hb
          go_wp2
          refine hK.out _ _ Bw2 ?_
          clear hK K
          refine chainH_alone (by simp only [List.getElem?_toArray, List.getElem?_cons_zero, List.getElem?_cons_succ]; rfl) ?_
          intro K hK
          go_wp2
          refine hK.out _ _ Bw2 ?_
          clear hK K
          refine chainH_nil ?_
          go_wp2
          go_ret
          exact ⟨ret_bool E2.out.symm, HB1.out.trans (Bw2.mono HB1.out.size)⟩
end Go.Proofs.YtiifeniijcnahaaGreatDoor

namespace Go.Proofs.YtiifeniijcnahaaGreatDoor
set_option maxRecDepth 100000
open Go.ChangeShapes Go.WideShapes Go.ChangeAt Go.RowKit
set_option linter.unusedVariables false

/-- A row made later, from an earlier world on. -/
theorem Own.from {e : TypeId} {k : IntKind} {B : Nat} {w w1 wr : World} {v : Value} {bs : List Int} (h : Own e k w1.heap.size w1 wr v bs) (hb : Below B w w1) (hB : B ≤ w1.heap.size) : Own e k B w wr v bs :=
  ⟨h.cl.less hB, hb.trans (h.bel.mono hB), Nat.le_trans hB h.le⟩
def opt (x : Int) : List Int := if x = 0 then [] else [x]
theorem opt_0 (x : Int) (h : x = 0) : opt x = [] := by unfold opt; rw [if_pos h]
theorem opt_n (x : Int) (h : ¬ x = 0) : opt x = [x] := by unfold opt; rw [if_neg h]
theorem runes_opt (r m n : Int) (d f g b : Nat) (h : bearsC ⟨r, m, n, d, ⟨f, g, b⟩⟩ = true) : runesC ⟨r, m, n, d, ⟨f, g, b⟩⟩ = [r] ++ opt m ++ opt n := by unfold runesC opt; rw [if_pos h]
theorem runes_none (r m n : Int) (d f g b : Nat) (h : bearsC ⟨r, m, n, d, ⟨f, g, b⟩⟩ = false) : runesC ⟨r, m, n, d, ⟨f, g, b⟩⟩ = [] := by unfold runesC; rw [if_neg (by rw [h]; simp)]
theorem opt_len (x : Int) : (opt x).length ≤ 1 := by unfold opt; split <;> simp
end Go.Proofs.YtiifeniijcnahaaGreatDoor

namespace Go.Proofs.YtiifeniijcnahaaGreatDoor
set_option maxRecDepth 100000
open Go.ChangeShapes Go.WideShapes Go.ChangeAt Go.RowKit
set_option linter.unusedVariables false

end Go.Proofs.YtiifeniijcnahaaGreatDoor

namespace Go.Proofs.YtiifeniijcnahaaGreatDoor
set_option maxRecDepth 100000
open Go.ChangeShapes Go.WideShapes Go.ChangeAt Go.RowKit
set_option linter.unusedVariables false

theorem cof_a (w : World) (hS : Spans w) : Calls Tryz.prog 32 #[.int .i32 97, .agg #[.int .u8 0, .int .u8 0, .int .u8 0]] w (fun e w' => e = .returned (.tuple #[.agg #[.int .i32 97, .int .i32 0, .int .i32 0, .int .u8 (1 : Int), .int .u8 (0 : Int), .int .u8 (0 : Int), .int .u8 (0 : Int)], .bool true]) ∧ Below w.heap.size w w') := by
  refine (cof_any 97 0 0 0 w hS).mono ?_
  rintro e w' ⟨rfl, hb⟩
  exact ⟨by rw [ofC_1 97 _ wOf_a]; rfl, hb⟩
theorem cof_h (w : World) (hS : Spans w) : Calls Tryz.prog 32 #[.int .i32 12354, .agg #[.int .u8 0, .int .u8 0, .int .u8 0]] w (fun e w' => e = .returned (.tuple #[.agg #[.int .i32 12354, .int .i32 0, .int .i32 0, .int .u8 (2 : Int), .int .u8 (0 : Int), .int .u8 (0 : Int), .int .u8 (0 : Int)], .bool true]) ∧ Below w.heap.size w w') := by
  refine (cof_any 12354 0 0 0 w hS).mono ?_
  rintro e w' ⟨rfl, hb⟩
  exact ⟨by rw [ofC_2 12354 _ wOf_hira]; rfl, hb⟩
theorem mark_a (w : World) (hS : Spans w) : Calls Tryz.prog 103 #[.agg #[.int .i32 97, .int .i32 0, .int .i32 0, .int .u8 (1 : Int), .int .u8 (0 : Int), .int .u8 (0 : Int), .int .u8 (0 : Int)], .int .i32 769] w (fun e w' => e = .returned (.tuple #[.agg #[.int .i32 97, .int .i32 769, .int .i32 0, .int .u8 (1 : Int), .int .u8 (0 : Int), .int .u8 (0 : Int), .int .u8 (0 : Int)], .bool true]) ∧ Below w.heap.size w w') := by
  refine (cmark_any 97 0 0 1 0 0 0 769 w hS).mono ?_
  rintro e w' ⟨rfl, hb⟩
  exact ⟨by rw [markC_fst ⟨97, 0, 0, 1, ⟨0, 0, 0⟩⟩ 769 wOf_acute rfl rfl]; rfl, hb⟩
theorem rest_h (w : World) : Calls Tryz.prog 90 #[.agg #[.int .i32 12354, .int .i32 0, .int .i32 0, .int .u8 (2 : Int), .int .u8 (0 : Int), .int .u8 (0 : Int), .int .u8 (0 : Int)]] w (fun e w' => e = .returned (.agg #[.int .i32 0, .int .i32 0, .int .i32 0, .int .u8 (0 : Int), .int .u8 (0 : Int), .int .u8 (0 : Int), .int .u8 (0 : Int)]) ∧ Below w.heap.size w w') := by
  refine (rest_any 12354 0 0 2 0 0 0 w).mono ?_
  rintro e w' ⟨rfl, hb⟩
  exact ⟨rfl, hb⟩
theorem right_b (w : World) (hS : Spans w) : Calls Tryz.prog 88 #[.agg #[.int .i32 97, .int .i32 769, .int .i32 0, .int .u8 (1 : Int), .int .u8 (0 : Int), .int .u8 (0 : Int), .int .u8 (0 : Int)]] w (Said true w) := by
  have e : rightC ⟨97, 769, 0, 1, ⟨0, 0, 0⟩⟩ = true := by decide +kernel
  have := cright_any 97 769 0 1 0 0 0 (by omega) w hS
  rw [e] at this
  exact this
end Go.Proofs.YtiifeniijcnahaaGreatDoor

namespace Go.Proofs.YtiifeniijcnahaaGreatDoor
set_option maxRecDepth 100000
open Go.ChangeShapes Go.WideShapes Go.ChangeAt Go.RowKit
set_option linter.unusedVariables false

/-- The call answered with this value, and left all that was there. -/
def Gave (v : Value) (w : World) (e : Ending) (w' : World) : Prop := e = .returned v ∧ Below w.heap.size w w'
theorem lof_v (r m n : Int) (d f g b : Nat) (hr : R32 r) (hm : R32 m) (hn : R32 n) (w : World) : Calls Tryz.prog 16 #[.agg #[.int .i32 r, .int .i32 m, .int .i32 n, .int .u8 (d : Int), .int .u8 (f : Int), .int .u8 (g : Int), .int .u8 (b : Int)]] w (Gave (.agg #[.int .i64 r, .int .i64 m, .int .i64 n, .int .u8 (d : Int), .int .u8 (f : Int), .int .u8 (g : Int), .int .u8 (b : Int)]) w) := lof_any r m n d f g b hr hm hn w
theorem blank_v (f g b : Nat) (w : World) : Calls Tryz.prog 68 #[.agg #[.int .u8 (f : Int), .int .u8 (g : Int), .int .u8 (b : Int)]] w (Gave (.agg #[.int .i32 32, .int .i32 0, .int .i32 0, .int .u8 (1 : Int), .int .u8 (f : Int), .int .u8 (g : Int), .int .u8 (b : Int)]) w) := blank_any f g b w
theorem rblank_v (f g b : Nat) (w : World) : Calls Tryz.prog 74 #[.agg #[.int .u8 (f : Int), .int .u8 (g : Int), .int .u8 (b : Int)]] w (Gave (.agg #[.int .i64 32, .int .i64 0, .int .i64 0, .int .u8 (1 : Int), .int .u8 (f : Int), .int .u8 (g : Int), .int .u8 (b : Int)]) w) := rblank_any f g b w
theorem rest_v (r m n : Int) (d f g b : Nat) (w : World) : Calls Tryz.prog 90 #[.agg #[.int .i32 r, .int .i32 m, .int .i32 n, .int .u8 (d : Int), .int .u8 (f : Int), .int .u8 (g : Int), .int .u8 (b : Int)]] w (Gave (.agg #[.int .i32 0, .int .i32 0, .int .i32 0, .int .u8 (0 : Int), .int .u8 (f : Int), .int .u8 (g : Int), .int .u8 (b : Int)]) w) := rest_any r m n d f g b w
theorem rrest_v (r m n : Int) (d f g b : Nat) (w : World) : Calls Tryz.prog 100 #[.agg #[.int .i64 r, .int .i64 m, .int .i64 n, .int .u8 (d : Int), .int .u8 (f : Int), .int .u8 (g : Int), .int .u8 (b : Int)]] w (Gave (.agg #[.int .i64 0, .int .i64 0, .int .i64 0, .int .u8 (0 : Int), .int .u8 (f : Int), .int .u8 (g : Int), .int .u8 (b : Int)]) w) := rrest_any r m n d f g b w
theorem lof_b (f g b : Nat) (w : World) : Calls Tryz.prog 16 #[.agg #[.int .i32 32, .int .i32 0, .int .i32 0, .int .u8 (1 : Int), .int .u8 (f : Int), .int .u8 (g : Int), .int .u8 (b : Int)]] w (Gave (.agg #[.int .i64 32, .int .i64 0, .int .i64 0, .int .u8 (1 : Int), .int .u8 (f : Int), .int .u8 (g : Int), .int .u8 (b : Int)]) w) := lof_any 32 0 0 1 f g b (by unfold R32; omega) (by unfold R32; omega) (by unfold R32; omega) w
theorem lof_0 (f g b : Nat) (w : World) : Calls Tryz.prog 16 #[.agg #[.int .i32 0, .int .i32 0, .int .i32 0, .int .u8 (0 : Int), .int .u8 (f : Int), .int .u8 (g : Int), .int .u8 (b : Int)]] w (Gave (.agg #[.int .i64 0, .int .i64 0, .int .i64 0, .int .u8 (0 : Int), .int .u8 (f : Int), .int .u8 (g : Int), .int .u8 (b : Int)]) w) := lof_any 0 0 0 0 f g b (by unfold R32; omega) (by unfold R32; omega) (by unfold R32; omega) w
theorem cof_v (x : Int) (F G B : Nat) (r m n : Int) (d f g b : Nat) (ok : Bool) (h : ofC x ⟨F, G, B⟩ = (⟨r, m, n, d, ⟨f, g, b⟩⟩, ok)) (w : World) (hS : Spans w) : Calls Tryz.prog 32 #[.int .i32 x, .agg #[.int .u8 (F : Int), .int .u8 (G : Int), .int .u8 (B : Int)]] w (Gave (.tuple #[.agg #[.int .i32 r, .int .i32 m, .int .i32 n, .int .u8 (d : Int), .int .u8 (f : Int), .int .u8 (g : Int), .int .u8 (b : Int)], .bool ok]) w) := by
  have := cof_any x F G B w hS
  rw [h] at this
  exact this
theorem cmark_v (r m n : Int) (d f g b : Nat) (x : Int) (r' m' n' : Int) (d' f' g' b' : Nat) (ok : Bool) (h : markC ⟨r, m, n, d, ⟨f, g, b⟩⟩ x = (⟨r', m', n', d', ⟨f', g', b'⟩⟩, ok)) (w : World) (hS : Spans w) : Calls Tryz.prog 103 #[.agg #[.int .i32 r, .int .i32 m, .int .i32 n, .int .u8 (d : Int), .int .u8 (f : Int), .int .u8 (g : Int), .int .u8 (b : Int)], .int .i32 x] w (Gave (.tuple #[.agg #[.int .i32 r', .int .i32 m', .int .i32 n', .int .u8 (d' : Int), .int .u8 (f' : Int), .int .u8 (g' : Int), .int .u8 (b' : Int)], .bool ok]) w) := by
  have := cmark_any r m n d f g b x w hS
  rw [h] at this
  exact this
theorem rcmark_v (r m n : Int) (d f g b : Nat) (x : Int) (r' m' n' : Int) (d' f' g' b' : Nat) (ok : Bool) (h : markC ⟨r, m, n, d, ⟨f, g, b⟩⟩ x = (⟨r', m', n', d', ⟨f', g', b'⟩⟩, ok)) (w : World) : Calls Tryz.prog 102 #[.agg #[.int .i64 r, .int .i64 m, .int .i64 n, .int .u8 (d : Int), .int .u8 (f : Int), .int .u8 (g : Int), .int .u8 (b : Int)], .int .i64 x] w (Gave (.tuple #[.agg #[.int .i64 r', .int .i64 m', .int .i64 n', .int .u8 (d' : Int), .int .u8 (f' : Int), .int .u8 (g' : Int), .int .u8 (b' : Int)], .bool ok]) w) := by
  have := rcmark_any r m n d f g b x w
  rw [h] at this
  exact this
theorem r32_0 : R32 0 := by unfold R32; omega
theorem of_r32 {x : Int} {p : Pn} {r m n : Int} {d : Nat} {q : Pn} {ok : Bool} (hx : R32 x) (h : ofC x p = (⟨r, m, n, d, q⟩, ok)) : R32 r ∧ R32 m ∧ R32 n ∧ d < 256 := by
  unfold ofC at h
  split at h
  · cases h; exact ⟨hx, r32_0, r32_0, by omega⟩
  · split at h
    · cases h; exact ⟨hx, r32_0, r32_0, by omega⟩
    · cases h; exact ⟨r32_0, r32_0, r32_0, by omega⟩
theorem mark_r32 {x r m n : Int} {d : Nat} {p : Pn} {r' m' n' : Int} {d' : Nat} {q : Pn} {ok : Bool} (hx : R32 x) (hr : R32 r) (hm : R32 m) (hn : R32 n) (hd : d < 256) (h : markC ⟨r, m, n, d, p⟩ x = (⟨r', m', n', d', q⟩, ok)) : R32 r' ∧ R32 m' ∧ R32 n' ∧ d' < 256 := by
  unfold markC at h
  split at h
  · split at h
    · cases h; exact ⟨hr, hx, hn, hd⟩
    · split at h
      · cases h; exact ⟨hr, hm, hx, hd⟩
      · cases h; exact ⟨hr, hm, hn, hd⟩
  · cases h; exact ⟨hr, hm, hn, hd⟩
theorem cells3 {w : World} {q : Nat} {t : TypeId} {x0 x1 x2 : Value} (h : Whole w q t [x0, x1, x2]) : w.cell? ⟨q, 0, none⟩ = some x0 ∧ w.cell? ⟨q, 1, none⟩ = some x1 ∧ w.cell? ⟨q, 2, none⟩ = some x2 ∧ q < w.heap.size := ⟨h.cell 0, h.cell 1, h.cell 2, h.lt⟩
theorem alike_with (r m n : Int) (d f g b F G B : Nat) : alikeC ⟨r, m, n, d, ⟨F, G, B⟩⟩ ⟨r, m, n, d, ⟨f, g, b⟩⟩ = true := by unfold alikeC; simp
theorem i32_R {a : Int} (h : (Lit.int .i32 a).wf = true) : R32 a := by
  have : -2147483648 ≤ a ∧ a ≤ 2147483647 := by simpa [Lit.wf, IntKind.min, IntKind.max, IntKind.signed, IntKind.bits] using h
  exact this
end Go.Proofs.YtiifeniijcnahaaGreatDoor

namespace Go.Proofs.YtiifeniijcnahaaGreatDoor
set_option maxRecDepth 100000
open Go.ChangeShapes Go.WideShapes Go.ChangeAt Go.RowKit
set_option linter.unusedVariables false

/-- The numbers of a cell that came in. -/
def CelOk (r m n : Int) (d f g b : Nat) : Prop := R32 r ∧ R32 m ∧ R32 n ∧ d < 256 ∧ f < 256 ∧ g < 256 ∧ b < 256
def PenOk (f g b : Nat) : Prop := f < 256 ∧ g < 256 ∧ b < 256
theorem runes_rn {r m n : Int} {d f g b : Nat} (h : CelOk r m n d f g b) : Rn (runesC ⟨r, m, n, d, ⟨f, g, b⟩⟩) := by
  obtain ⟨h1, h2, h3, -⟩ := h
  intro x hx
  unfold runesC at hx
  split at hx
  · simp only [List.mem_append] at hx
    rcases hx with (hx | hx) | hx
    · simp at hx; subst hx; exact h1
    · split at hx
      · cases hx
      · simp at hx; subst hx; exact h2
    · split at hx
      · cases hx
      · simp at hx; subst hx; exact h3
  · cases hx
end Go.Proofs.YtiifeniijcnahaaGreatDoor

namespace Go.Proofs.YtiifeniijcnahaaGreatDoor
set_option maxRecDepth 100000
open Go.ChangeShapes Go.WideShapes Go.ChangeAt Go.RowKit Go.Joins
set_option linter.unusedVariables false

theorem structCell : ∃ f0 f1 f2 f3 : Field, Tryz.prog.underlying 40 = some (.struct #[f0, f1, f2, f3]) ∧ f0.type = 21 ∧ f1.type = 36 ∧ f2.type = 5 ∧ f3.type = 38 ∧ f0.offset = 0 ∧ f1.offset = 1 ∧ f2.offset = 3 ∧ f3.offset = 4 := ⟨_, _, _, _, Tryz.underlying40, rfl, rfl, rfl, rfl, rfl, rfl, rfl, rfl⟩
theorem structPen : ∃ f0 f1 f2 : Field, Tryz.prog.underlying 38 = some (.struct #[f0, f1, f2]) ∧ f0.type = 5 ∧ f1.type = 5 ∧ f2.type = 5 ∧ f0.offset = 0 ∧ f1.offset = 1 ∧ f2.offset = 2 := ⟨_, _, _, Tryz.underlying38, rfl, rfl, rfl, rfl, rfl, rfl⟩
theorem sizeCell : Tryz.prog.cellsOf 40 = 7 := by kernel_rfl
theorem sizePen : Tryz.prog.cellsOf 38 = 3 := by kernel_rfl
theorem sizeM : Tryz.prog.cellsOf 36 = 2 := by kernel_rfl
theorem sizeU8 : Tryz.prog.cellsOf 5 = 1 := by kernel_rfl
theorem array7 {α : Type} {cs : Array α} (h : cs.size = 7) : ∃ c0 c1 c2 c3 c4 c5 c6, cs = #[c0, c1, c2, c3, c4, c5, c6] := by
  obtain ⟨l⟩ := cs
  match l, h with
  | [c0, c1, c2, c3, c4, c5, c6], _ => exact ⟨c0, c1, c2, c3, c4, c5, c6, rfl⟩

section
variable {H : Type} {enc : TypeId × Value → H} {w : World} {base : Nat} {spare : Nat → Bool} {held : Bool}
theorem cells_pen {fuel : Nat} {c0 c1 c2 : Value} {x : DataW H × List MemPlace} (h : DataW.trod enc Tryz.prog w base spare held fuel 38 [c0, c1, c2] = some x) :
    ∃ f g b : Nat, c0 = .int .u8 (f : Int) ∧ c1 = .int .u8 (g : Int) ∧ c2 = .int .u8 (b : Int) ∧ PenOk f g b := by
  obtain ⟨f0, f1, f2, hu, e0, e1, e2, o0, o1, o2⟩ := structPen
  obtain ⟨y0, y1, y2, n, hx, hl, h0, h1, h2⟩ := Deep.trod_struct3 hu h
  rw [e0, o0, sizeU8] at h0
  rw [e1, o1, sizeU8] at h1
  rw [e2, o2, sizeU8] at h2
  obtain ⟨n0, k0, r0, w0⟩ := DataW.trod_int Tryz.underlying5 h0
  obtain ⟨n1, k1, r1, w1⟩ := DataW.trod_int Tryz.underlying5 h1
  obtain ⟨n2, k2, r2, w2⟩ := DataW.trod_int Tryz.underlying5 h2
  simp at k0 k1 k2
  subst k0 k1 k2
  obtain ⟨a0, rfl, m0⟩ := u8_nat w0
  obtain ⟨a1, rfl, m1⟩ := u8_nat w1
  obtain ⟨a2, rfl, m2⟩ := u8_nat w2
  exact ⟨a0, a1, a2, rfl, rfl, rfl, m0, m1, m2⟩
theorem cells_marks {fuel : Nat} {c0 c1 : Value} {x : DataW H × List MemPlace} (h : DataW.trod enc Tryz.prog w base spare held fuel 36 [c0, c1] = some x) :
    ∃ m n : Int, c0 = .int .i32 m ∧ c1 = .int .i32 n ∧ R32 m ∧ R32 n := by
  obtain ⟨xs, k, rfl, hx, hl, hn, hel⟩ := DataW.trod_array Tryz.underlying36 h
  have h0 := hel 0 (by omega)
  have h1 := hel 1 (by omega)
  rw [cellsI32] at h0 h1
  match xs, hn with
  | [y0, y1], _ =>
    simp at h0 h1
    obtain ⟨n0, k0, r0, w0⟩ := DataW.trod_int Tryz.underlying21 h0
    obtain ⟨n1, k1, r1, w1⟩ := DataW.trod_int Tryz.underlying21 h1
    simp at k0 k1
    subst k0 k1
    exact ⟨n0, n1, rfl, rfl, i32_R w0, i32_R w1⟩
theorem cells_cell {fuel : Nat} {c0 c1 c2 c3 c4 c5 c6 : Value} {x : DataW H × List MemPlace} (h : DataW.trod enc Tryz.prog w base spare held fuel 40 [c0, c1, c2, c3, c4, c5, c6] = some x) :
    ∃ (r m n : Int) (d f g b : Nat), [c0, c1, c2, c3, c4, c5, c6] = [.int .i32 r, .int .i32 m, .int .i32 n, .int .u8 (d : Int), .int .u8 (f : Int), .int .u8 (g : Int), .int .u8 (b : Int)] ∧ CelOk r m n d f g b := by
  obtain ⟨f0, f1, f2, f3, hu, e0, e1, e2, e3, o0, o1, o2, o3⟩ := structCell
  obtain ⟨y0, y1, y2, y3, n, hx, hl, h0, h1, h2, h3⟩ := trod_struct4 hu h
  rw [e0, o0, cellsI32] at h0
  rw [e1, o1, sizeM] at h1
  rw [e2, o2, sizeU8] at h2
  rw [e3, o3, sizePen] at h3
  simp only [List.drop_zero, List.drop_succ_cons, List.take_succ_cons, List.take_zero] at h0 h1 h2 h3
  obtain ⟨n0, k0, r0, w0⟩ := DataW.trod_int Tryz.underlying21 h0
  obtain ⟨m, n1, rfl, rfl, w1, w2⟩ := cells_marks h1
  obtain ⟨n3, k3, r3, w3⟩ := DataW.trod_int Tryz.underlying5 h2
  obtain ⟨f, g, b, rfl, rfl, rfl, w4, w5, w6⟩ := cells_pen h3
  simp at k0 k3
  subst k0 k3
  obtain ⟨d, rfl, w7⟩ := u8_nat w3
  exact ⟨n0, m, n1, d, f, g, b, rfl, i32_R w0, w1, w2, w7, w4, w5, w6⟩
theorem open_cell {r : Reach} {b0 : Nat} {v : Value} {x : DataW H} {p : List MemPlace} (hv : Value.okWide Tryz.prog w r b0 40 v) (h : DataW.Trod enc Tryz.prog w base spare held 40 v x p) :
    ∃ (r m n : Int) (d f g b : Nat), v = .agg #[.int .i32 r, .int .i32 m, .int .i32 n, .int .u8 (d : Int), .int .u8 (f : Int), .int .u8 (g : Int), .int .u8 (b : Int)] ∧ CelOk r m n d f g b := by
  obtain ⟨f0, f1, f2, f3, hu, -⟩ := structCell
  obtain ⟨cs, rfl, hsz⟩ := okWide_struct hu hv
  obtain ⟨c0, c1, c2, c3, c4, c5, c6, rfl⟩ := array7 (hsz.trans sizeCell)
  obtain ⟨fuel, hf⟩ := h
  obtain ⟨r, m, n, d, f, g, b, e, ok⟩ := cells_cell hf
  simp only [List.cons.injEq, and_true] at e
  obtain ⟨rfl, rfl, rfl, rfl, rfl, rfl, rfl⟩ := e
  exact ⟨r, m, n, d, f, g, b, rfl, ok⟩
theorem open_pen {r : Reach} {b0 : Nat} {v : Value} {x : DataW H} {p : List MemPlace} (hv : Value.okWide Tryz.prog w r b0 38 v) (h : DataW.Trod enc Tryz.prog w base spare held 38 v x p) :
    ∃ f g b : Nat, v = .agg #[.int .u8 (f : Int), .int .u8 (g : Int), .int .u8 (b : Int)] ∧ PenOk f g b := by
  obtain ⟨f0, f1, f2, hu, -⟩ := structPen
  obtain ⟨cs, rfl, hsz⟩ := okWide_struct hu hv
  obtain ⟨c0, c1, c2, rfl⟩ := array3 (hsz.trans sizePen)
  obtain ⟨fuel, hf⟩ := h
  obtain ⟨f, g, b, rfl, rfl, rfl, ok⟩ := cells_pen hf
  exact ⟨f, g, b, rfl, ok⟩
end
end Go.Proofs.YtiifeniijcnahaaGreatDoor
