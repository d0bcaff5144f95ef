/-
  Contract: may a cell be, by the document.
-/
import Derived.Test.YtdeoeihbmdgipaaDoorCRight
namespace Go.Proofs.YtdeoeihbmdgipaaDoor
open Go.ChangeShapes Go.WideShapes Go.ChangeAt Go.RowKit
set_option linter.unusedVariables false

set_option maxRecDepth 100000 in
set_option maxHeartbeats 4000000 in
theorem rcright_any (r m n : Int) (d f g b : Nat) (hd : d < 256) (w : World) : Calls Tryd.prog 38 #[.agg #[.int .i64 r, .int .i64 m, .int .i64 n, .int .u8 (d : Int), .int .u8 (f : Int), .int .u8 (g : Int), .int .u8 (b : Int)]] w (Said (rightC ⟨r, m, n, d, ⟨f, g, b⟩⟩) w) := by
  obtain ⟨W0, hW0⟩ : ∃ W0, w.alloc (.cells #[.int .i64 r, .int .i64 m, .int .i64 n, .int .u8 (d : Int), .int .u8 (f : Int), .int .u8 (g : Int), .int .u8 (b : Int)] 38) = W0 := ⟨_, rfl⟩
  have HB : Hid (Below w.heap.size w W0) := by unfold Hid; rw [← hW0]; exact one_new w _ [.int .i64 r, .int .i64 m, .int .i64 n, .int .u8 (d : Int), .int .u8 (f : Int), .int .u8 (g : Int), .int .u8 (b : Int)]
  have HC : Hid (Whole W0 w.heap.size 38 [.int .i64 r, .int .i64 m, .int .i64 n, .int .u8 (d : Int), .int .u8 (f : Int), .int .u8 (g : Int), .int .u8 (b : Int)]) := by unfold Hid; rw [← hW0]; exact Whole.new w 38 [.int .i64 r, .int .i64 m, .int .i64 n, .int .u8 (d : Int), .int .u8 (f : Int), .int .u8 (g : Int), .int .u8 (b : Int)]
  have HW0 := hide hW0
  clear hW0
  have hd1 : (0 : Int) ≤ (d : Int) := by omega
  have hd2 : (d : Int) ≤ 255 := by omega
  cases hp : rightN ⟨f, g, b⟩
  case false =>
    have E := hide (rightC_pen ⟨r, m, n, d, ⟨f, g, b⟩⟩ hp)
    have HP := hide hp
    clear hp
    go_enter Tryd.func38, Tryd.ntmps38
    go_wp2_with fail
    rw [HW0.out]
    refine (rright_any f g b _).mono ?_
    rintro e w1 ⟨rfl, hb1⟩
    rw [HP.out]
    have HC1 := hide (HC.out.later hb1)
    have HB1 := hide (HB.out.trans (hb1.mono HB.out.size))
    obtain ⟨c0, c1, c2, c3, c4, c5, c6, cz⟩ := cells7 HC1.out
    clear hb1 cz
    go_wp2
    go_ret
    exact ⟨ret_bool E.out.symm, HB1.out⟩
  case true =>
    have HP := hide hp
    by_cases h3 : (2 : Int) < (d : Int)
    · have E := hide (rightC_more r m n d f g b (by omega) (by omega) (by omega))
      clear hp
      go_enter Tryd.func38, Tryd.ntmps38
      go_wp2_with fail
      rw [HW0.out]
      refine (rright_any f g b _).mono ?_
      rintro e w1 ⟨rfl, hb1⟩
      rw [HP.out]
      have HC1 := hide (HC.out.later hb1)
      have HB1 := hide (HB.out.trans (hb1.mono HB.out.size))
      obtain ⟨c0, c1, c2, c3, c4, c5, c6, cz⟩ := cells7 HC1.out
      clear hb1 cz
      go_wp2
      go_ret
      exact ⟨ret_bool E.out.symm, HB1.out⟩
    · by_cases h0 : d = 0
      · have E := hide (rightC_half r m n d f g b hp h0)
        have e0 : ((d : Int) == 0) = true := by simp; omega
        by_cases hr : r = 0
        · by_cases hm : m = 0
          · by_cases hn : n = 0
            · have E2 : Hid (rightC ⟨r, m, n, d, ⟨f, g, b⟩⟩ = true) := by unfold Hid; rw [E.out]; simp [hr, hm, hn]
              have q1 : (r == 0) = true := by simpa using hr
              have q2 : (m == 0) = true := by simpa using hm
              have q3 : (n == 0) = true := by simpa using hn
              clear hp h0 hr hm hn
              go_enter Tryd.func38, Tryd.ntmps38
              go_wp2_with fail
              rw [HW0.out]
              refine (rright_any f g b _).mono ?_
              rintro e w1 ⟨rfl, hb1⟩
              rw [HP.out]
              have HC1 := hide (HC.out.later hb1)
              have HB1 := hide (HB.out.trans (hb1.mono HB.out.size))
              obtain ⟨c0, c1, c2, c3, c4, c5, c6, cz⟩ := cells7 HC1.out
              clear hb1 cz
              go_wp2
              go_ret
              exact ⟨ret_bool E2.out.symm, HB1.out⟩
            · have E2 : Hid (rightC ⟨r, m, n, d, ⟨f, g, b⟩⟩ = false) := by unfold Hid; rw [E.out]; simp [hr, hm, hn]
              have q1 : (r == 0) = true := by simpa using hr
              have q2 : (m == 0) = true := by simpa using hm
              have q3 : (n == 0) = false := by simpa using hn
              clear hp h0 hr hm hn
              go_enter Tryd.func38, Tryd.ntmps38
              go_wp2_with fail
              rw [HW0.out]
              refine (rright_any f g b _).mono ?_
              rintro e w1 ⟨rfl, hb1⟩
              rw [HP.out]
              have HC1 := hide (HC.out.later hb1)
              have HB1 := hide (HB.out.trans (hb1.mono HB.out.size))
              obtain ⟨c0, c1, c2, c3, c4, c5, c6, cz⟩ := cells7 HC1.out
              clear hb1 cz
              go_wp2
              go_ret
              exact ⟨ret_bool E2.out.symm, HB1.out⟩
          · have E2 : Hid (rightC ⟨r, m, n, d, ⟨f, g, b⟩⟩ = false) := by unfold Hid; rw [E.out]; simp [hr, hm]
            have q1 : (r == 0) = true := by simpa using hr
            have q2 : (m == 0) = false := by simpa using hm
            clear hp h0 hr hm
            go_enter Tryd.func38, Tryd.ntmps38
            go_wp2_with fail
            rw [HW0.out]
            refine (rright_any f g b _).mono ?_
            rintro e w1 ⟨rfl, hb1⟩
            rw [HP.out]
            have HC1 := hide (HC.out.later hb1)
            have HB1 := hide (HB.out.trans (hb1.mono HB.out.size))
            obtain ⟨c0, c1, c2, c3, c4, c5, c6, cz⟩ := cells7 HC1.out
            clear hb1 cz
            go_wp2
            go_ret
            exact ⟨ret_bool E2.out.symm, HB1.out⟩
        · have E2 : Hid (rightC ⟨r, m, n, d, ⟨f, g, b⟩⟩ = false) := by unfold Hid; rw [E.out]; simp [hr]
          have q1 : (r == 0) = false := by simpa using hr
          clear hp h0 hr
          go_enter Tryd.func38, Tryd.ntmps38
          go_wp2_with fail
          rw [HW0.out]
          refine (rright_any f g b _).mono ?_
          rintro e w1 ⟨rfl, hb1⟩
          rw [HP.out]
          have HC1 := hide (HC.out.later hb1)
          have HB1 := hide (HB.out.trans (hb1.mono HB.out.size))
          obtain ⟨c0, c1, c2, c3, c4, c5, c6, cz⟩ := cells7 HC1.out
          clear hb1 cz
          go_wp2
          go_ret
          exact ⟨ret_bool E2.out.symm, HB1.out⟩
      · have e0 : ((d : Int) == 0) = false := by simp; omega
        have E := hide (rightC_bears r m n d f g b hp (by omega))
        obtain ⟨P1, hP1⟩ : ∃ P1, wOf r = P1 := ⟨_, rfl⟩
        have HX := hide hP1
        by_cases hq : P1 = d
        · have hqq : (P1 != (d : Int)) = false := by simpa using hq
          by_cases hm : m = 0
          · have q2 : (m == 0) = true := by simpa using hm
            by_cases hn : n = 0
            · have E3 : Hid (rightC ⟨r, m, n, d, ⟨f, g, b⟩⟩ = true) := by unfold Hid; rw [E.out, HX.out, decide_eq_true hq]; unfold marksC; simp [hm, hn]
              have q3 : (n == 0) = true := by simpa using hn
              clear hp hP1 hq h0 hm hn
              go_enter Tryd.func38, Tryd.ntmps38
              go_wp2_with fail
              rw [HW0.out]
              refine (rright_any f g b _).mono ?_
              rintro e w1 ⟨rfl, hb1⟩
              rw [HP.out]
              have HC1 := hide (HC.out.later hb1)
              have HB1 := hide (HB.out.trans (hb1.mono HB.out.size))
              obtain ⟨c0, c1, c2, c3, c4, c5, c6, cz⟩ := cells7 HC1.out
              clear hb1 cz
              go_wp2
              refine wp_region_chainH (fun w' => Below w1.heap.size w1 w') [(true, 0), (true, 3), (true, 1), (true, 4), (true, 5), (false, 2), (false, 6)] (by kernel_rfl) (by kernel_rfl) (by kernel_rfl) (fun _ _ _ _ _ h => h) ?_ ?_
              · exact (Below.refl _ _).drewN 1
              refine chainH_take (v := ?_) (by simp only [List.getElem?_toArray, List.getElem?_cons_zero]; rfl) (by rfl) (fun w hS => ?_) ?_
              rotate_left
              · go_simp <;> with_reducible rfl
              simp only [Act.put, List.setIfInBounds_toArray, List.set_cons_zero, List.set_cons_succ]
              refine chainH_take (v := ?_) (by simp only [List.getElem?_toArray, List.getElem?_cons_zero, List.getElem?_cons_succ]; rfl) (by rfl) (fun w hS => ?_) ?_
              rotate_left
              · go_simp <;> with_reducible rfl
              simp only [Act.put, List.setIfInBounds_toArray, List.set_cons_zero, List.set_cons_succ]
              refine chainH_take (v := ?_) (by simp only [List.getElem?_toArray, List.getElem?_cons_zero, List.getElem?_cons_succ]; rfl) (by rfl) (fun w hS => ?_) ?_
              rotate_left
              · obtain ⟨a0, a1, a2, a3, a4, a5, a6, -⟩ := cells7 (HC1.out.later hS); go_simp <;> with_reducible rfl
              simp only [Act.put, List.setIfInBounds_toArray, List.set_cons_zero, List.set_cons_succ]
              refine chainH_take (v := ?_) (by simp only [List.getElem?_toArray, List.getElem?_cons_zero, List.getElem?_cons_succ]; rfl) (by rfl) (fun w hS => ?_) ?_
              rotate_left
              · obtain ⟨a0, a1, a2, a3, a4, a5, a6, -⟩ := cells7 (HC1.out.later hS); go_simp <;> with_reducible rfl
              simp only [Act.put, List.setIfInBounds_toArray, List.set_cons_zero, List.set_cons_succ]
              refine chainH_take (v := ?_) (by simp only [List.getElem?_toArray, List.getElem?_cons_zero, List.getElem?_cons_succ]; rfl) (by rfl) (fun w hS => ?_) ?_
              rotate_left
              · go_simp <;> with_reducible rfl
              simp only [Act.put, List.setIfInBounds_toArray, List.set_cons_zero, List.set_cons_succ]
              refine chainH_alone (by simp only [List.getElem?_toArray, List.getElem?_cons_zero, List.getElem?_cons_succ]; rfl) ?_
              intro K hK
              go_wp2_with fail
              refine (rof_any r _).mono ?_
              rintro e w2 ⟨rfl, hb⟩
              rw [HX.out]
              have Bw2 : Below w1.heap.size w1 w2 := ((Below.refl _ _).drewN 1).trans hb
              clear hb
              go_wp2
              refine hK.out _ _ Bw2 ?_
              clear hK K
              refine chainH_alone (by simp only [List.getElem?_toArray, List.getElem?_cons_zero, List.getElem?_cons_succ]; rfl) ?_
              intro K hK
              go_wp2
              refine hK.out _ _ Bw2 ?_
              clear hK K
              refine chainH_nil ?_
              replace HB1 := hide (HB1.out.trans (Bw2.mono HB1.out.size))
              replace HC1 := hide (HC1.out.later Bw2)
              clear Bw2 c0 c1 c2 c3 c4 c5 c6
              obtain ⟨c0, c1, c2, c3, c4, c5, c6, cz⟩ := cells7 HC1.out
              clear cz
              go_wp2
              go_quiet (fail)
              have HB2 := hide (HB1.out.drewN nq)
              go_wp2
              go_ret
              exact ⟨ret_bool E3.out.symm, HB2.out⟩
            · have E3 : Hid (rightC ⟨r, m, n, d, ⟨f, g, b⟩⟩ = false) := by unfold Hid; rw [E.out, HX.out, decide_eq_true hq]; unfold marksC; simp [hm, hn]
              have q3 : (n == 0) = false := by simpa using hn
              have HM : Hid (wOf m = -1) := by unfold Hid; rw [hm]; exact wOf_zero
              clear hp hP1 hq h0 hm hn
              go_enter Tryd.func38, Tryd.ntmps38
              go_wp2_with fail
              rw [HW0.out]
              refine (rright_any f g b _).mono ?_
              rintro e w1 ⟨rfl, hb1⟩
              rw [HP.out]
              have HC1 := hide (HC.out.later hb1)
              have HB1 := hide (HB.out.trans (hb1.mono HB.out.size))
              obtain ⟨c0, c1, c2, c3, c4, c5, c6, cz⟩ := cells7 HC1.out
              clear hb1 cz
              go_wp2
              refine wp_region_chainH (fun w' => Below w1.heap.size w1 w') [(true, 0), (true, 3), (true, 1), (true, 4), (true, 5), (false, 2), (false, 6)] (by kernel_rfl) (by kernel_rfl) (by kernel_rfl) (fun _ _ _ _ _ h => h) ?_ ?_
              · exact (Below.refl _ _).drewN 1
              refine chainH_take (v := ?_) (by simp only [List.getElem?_toArray, List.getElem?_cons_zero]; rfl) (by rfl) (fun w hS => ?_) ?_
              rotate_left
              · go_simp <;> with_reducible rfl
              simp only [Act.put, List.setIfInBounds_toArray, List.set_cons_zero, List.set_cons_succ]
              refine chainH_take (v := ?_) (by simp only [List.getElem?_toArray, List.getElem?_cons_zero, List.getElem?_cons_succ]; rfl) (by rfl) (fun w hS => ?_) ?_
              rotate_left
              · go_simp <;> with_reducible rfl
              simp only [Act.put, List.setIfInBounds_toArray, List.set_cons_zero, List.set_cons_succ]
              refine chainH_take (v := ?_) (by simp only [List.getElem?_toArray, List.getElem?_cons_zero, List.getElem?_cons_succ]; rfl) (by rfl) (fun w hS => ?_) ?_
              rotate_left
              · obtain ⟨a0, a1, a2, a3, a4, a5, a6, -⟩ := cells7 (HC1.out.later hS); go_simp <;> with_reducible rfl
              simp only [Act.put, List.setIfInBounds_toArray, List.set_cons_zero, List.set_cons_succ]
              refine chainH_take (v := ?_) (by simp only [List.getElem?_toArray, List.getElem?_cons_zero, List.getElem?_cons_succ]; rfl) (by rfl) (fun w hS => ?_) ?_
              rotate_left
              · obtain ⟨a0, a1, a2, a3, a4, a5, a6, -⟩ := cells7 (HC1.out.later hS); go_simp <;> with_reducible rfl
              simp only [Act.put, List.setIfInBounds_toArray, List.set_cons_zero, List.set_cons_succ]
              refine chainH_take (v := ?_) (by simp only [List.getElem?_toArray, List.getElem?_cons_zero, List.getElem?_cons_succ]; rfl) (by rfl) (fun w hS => ?_) ?_
              rotate_left
              · go_simp <;> with_reducible rfl
              simp only [Act.put, List.setIfInBounds_toArray, List.set_cons_zero, List.set_cons_succ]
              refine chainH_alone (by simp only [List.getElem?_toArray, List.getElem?_cons_zero, List.getElem?_cons_succ]; rfl) ?_
              intro K hK
              go_wp2_with fail
              refine (rof_any r _).mono ?_
              rintro e w2 ⟨rfl, hb⟩
              rw [HX.out]
              have Bw2 : Below w1.heap.size w1 w2 := ((Below.refl _ _).drewN 1).trans hb
              clear hb
              go_wp2
              refine hK.out _ _ Bw2 ?_
              clear hK K
              refine chainH_alone (by simp only [List.getElem?_toArray, List.getElem?_cons_zero, List.getElem?_cons_succ]; rfl) ?_
              intro K hK
              go_wp2
              refine hK.out _ _ Bw2 ?_
              clear hK K
              refine chainH_nil ?_
              replace HB1 := hide (HB1.out.trans (Bw2.mono HB1.out.size))
              replace HC1 := hide (HC1.out.later Bw2)
              clear Bw2 c0 c1 c2 c3 c4 c5 c6
              obtain ⟨c0, c1, c2, c3, c4, c5, c6, cz⟩ := cells7 HC1.out
              clear cz
              go_wp2
              go_quiet (fail)
              have HB2 := hide (HB1.out.drewN nq)
              go_wp2_with fail
              refine (rof_any m _).mono ?_
              rintro e w3 ⟨rfl, hb⟩
              rw [HM.out]
              have HB3 := hide (HB2.out.trans (hb.mono HB2.out.size))
              clear hb
              go_wp2
              go_ret
              exact ⟨ret_bool E3.out.symm, HB3.out⟩
          · have q2 : (m == 0) = false := by simpa using hm
            have q4 : (m != 0) = true := by simpa using hm
            obtain ⟨P2, hP2⟩ : ∃ P2, wOf m = P2 := ⟨_, rfl⟩
            have HM := hide hP2
            by_cases hz : P2 = 0
            · have q5 : (P2 == 0) = true := by simpa using hz
              by_cases hn : n = 0
              · have E3 : Hid (rightC ⟨r, m, n, d, ⟨f, g, b⟩⟩ = true) := by unfold Hid; rw [E.out, HX.out, decide_eq_true hq]; unfold marksC; simp [hm, hn, hP2, hz]
                have q3 : (n == 0) = true := by simpa using hn
                clear hp hP1 hq h0 hP2 hm hn hz
                go_enter Tryd.func38, Tryd.ntmps38
                go_wp2_with fail
                rw [HW0.out]
                refine (rright_any f g b _).mono ?_
                rintro e w1 ⟨rfl, hb1⟩
                rw [HP.out]
                have HC1 := hide (HC.out.later hb1)
                have HB1 := hide (HB.out.trans (hb1.mono HB.out.size))
                obtain ⟨c0, c1, c2, c3, c4, c5, c6, cz⟩ := cells7 HC1.out
                clear hb1 cz
                go_wp2
                refine wp_region_chainH (fun w' => Below w1.heap.size w1 w') [(true, 0), (true, 3), (true, 1), (true, 4), (true, 5), (false, 2), (false, 6)] (by kernel_rfl) (by kernel_rfl) (by kernel_rfl) (fun _ _ _ _ _ h => h) ?_ ?_
                · exact (Below.refl _ _).drewN 1
                refine chainH_take (v := ?_) (by simp only [List.getElem?_toArray, List.getElem?_cons_zero]; rfl) (by rfl) (fun w hS => ?_) ?_
                rotate_left
                · go_simp <;> with_reducible rfl
                simp only [Act.put, List.setIfInBounds_toArray, List.set_cons_zero, List.set_cons_succ]
                refine chainH_take (v := ?_) (by simp only [List.getElem?_toArray, List.getElem?_cons_zero, List.getElem?_cons_succ]; rfl) (by rfl) (fun w hS => ?_) ?_
                rotate_left
                · go_simp <;> with_reducible rfl
                simp only [Act.put, List.setIfInBounds_toArray, List.set_cons_zero, List.set_cons_succ]
                refine chainH_take (v := ?_) (by simp only [List.getElem?_toArray, List.getElem?_cons_zero, List.getElem?_cons_succ]; rfl) (by rfl) (fun w hS => ?_) ?_
                rotate_left
                · obtain ⟨a0, a1, a2, a3, a4, a5, a6, -⟩ := cells7 (HC1.out.later hS); go_simp <;> with_reducible rfl
                simp only [Act.put, List.setIfInBounds_toArray, List.set_cons_zero, List.set_cons_succ]
                refine chainH_take (v := ?_) (by simp only [List.getElem?_toArray, List.getElem?_cons_zero, List.getElem?_cons_succ]; rfl) (by rfl) (fun w hS => ?_) ?_
                rotate_left
                · obtain ⟨a0, a1, a2, a3, a4, a5, a6, -⟩ := cells7 (HC1.out.later hS); go_simp <;> with_reducible rfl
                simp only [Act.put, List.setIfInBounds_toArray, List.set_cons_zero, List.set_cons_succ]
                refine chainH_take (v := ?_) (by simp only [List.getElem?_toArray, List.getElem?_cons_zero, List.getElem?_cons_succ]; rfl) (by rfl) (fun w hS => ?_) ?_
                rotate_left
                · go_simp <;> with_reducible rfl
                simp only [Act.put, List.setIfInBounds_toArray, List.set_cons_zero, List.set_cons_succ]
                refine chainH_alone (by simp only [List.getElem?_toArray, List.getElem?_cons_zero, List.getElem?_cons_succ]; rfl) ?_
                intro K hK
                go_wp2_with fail
                refine (rof_any r _).mono ?_
                rintro e w2 ⟨rfl, hb⟩
                rw [HX.out]
                have Bw2 : Below w1.heap.size w1 w2 := ((Below.refl _ _).drewN 1).trans hb
                clear hb
                go_wp2
                refine hK.out _ _ Bw2 ?_
                clear hK K
                refine chainH_alone (by simp only [List.getElem?_toArray, List.getElem?_cons_zero, List.getElem?_cons_succ]; rfl) ?_
                intro K hK
                go_wp2
                refine hK.out _ _ Bw2 ?_
                clear hK K
                refine chainH_nil ?_
                replace HB1 := hide (HB1.out.trans (Bw2.mono HB1.out.size))
                replace HC1 := hide (HC1.out.later Bw2)
                clear Bw2 c0 c1 c2 c3 c4 c5 c6
                obtain ⟨c0, c1, c2, c3, c4, c5, c6, cz⟩ := cells7 HC1.out
                clear cz
                go_wp2
                go_quiet (fail)
                have HB2 := hide (HB1.out.drewN nq)
                go_wp2_with fail
                refine (rof_any m _).mono ?_
                rintro e w3 ⟨rfl, hb⟩
                rw [HM.out]
                have HB3 := hide (HB2.out.trans (hb.mono HB2.out.size))
                clear hb
                go_wp2
                go_ret
                exact ⟨ret_bool E3.out.symm, HB3.out⟩
              · have q3 : (n == 0) = false := by simpa using hn
                obtain ⟨P3, hP3⟩ : ∃ P3, wOf n = P3 := ⟨_, rfl⟩
                have HN := hide hP3
                have E3 : Hid (rightC ⟨r, m, n, d, ⟨f, g, b⟩⟩ = (P3 == 0)) := by unfold Hid; rw [E.out, HX.out, decide_eq_true hq]; unfold marksC; simp [hm, hn, hP2, hz, hP3]; rfl
                clear hp hP1 hq h0 hP2 hP3 hm hn hz
                go_enter Tryd.func38, Tryd.ntmps38
                go_wp2_with fail
                rw [HW0.out]
                refine (rright_any f g b _).mono ?_
                rintro e w1 ⟨rfl, hb1⟩
                rw [HP.out]
                have HC1 := hide (HC.out.later hb1)
                have HB1 := hide (HB.out.trans (hb1.mono HB.out.size))
                obtain ⟨c0, c1, c2, c3, c4, c5, c6, cz⟩ := cells7 HC1.out
                clear hb1 cz
                go_wp2
                refine wp_region_chainH (fun w' => Below w1.heap.size w1 w') [(true, 0), (true, 3), (true, 1), (true, 4), (true, 5), (false, 2), (false, 6)] (by kernel_rfl) (by kernel_rfl) (by kernel_rfl) (fun _ _ _ _ _ h => h) ?_ ?_
                · exact (Below.refl _ _).drewN 1
                refine chainH_take (v := ?_) (by simp only [List.getElem?_toArray, List.getElem?_cons_zero]; rfl) (by rfl) (fun w hS => ?_) ?_
                rotate_left
                · go_simp <;> with_reducible rfl
                simp only [Act.put, List.setIfInBounds_toArray, List.set_cons_zero, List.set_cons_succ]
                refine chainH_take (v := ?_) (by simp only [List.getElem?_toArray, List.getElem?_cons_zero, List.getElem?_cons_succ]; rfl) (by rfl) (fun w hS => ?_) ?_
                rotate_left
                · go_simp <;> with_reducible rfl
                simp only [Act.put, List.setIfInBounds_toArray, List.set_cons_zero, List.set_cons_succ]
                refine chainH_take (v := ?_) (by simp only [List.getElem?_toArray, List.getElem?_cons_zero, List.getElem?_cons_succ]; rfl) (by rfl) (fun w hS => ?_) ?_
                rotate_left
                · obtain ⟨a0, a1, a2, a3, a4, a5, a6, -⟩ := cells7 (HC1.out.later hS); go_simp <;> with_reducible rfl
                simp only [Act.put, List.setIfInBounds_toArray, List.set_cons_zero, List.set_cons_succ]
                refine chainH_take (v := ?_) (by simp only [List.getElem?_toArray, List.getElem?_cons_zero, List.getElem?_cons_succ]; rfl) (by rfl) (fun w hS => ?_) ?_
                rotate_left
                · obtain ⟨a0, a1, a2, a3, a4, a5, a6, -⟩ := cells7 (HC1.out.later hS); go_simp <;> with_reducible rfl
                simp only [Act.put, List.setIfInBounds_toArray, List.set_cons_zero, List.set_cons_succ]
                refine chainH_take (v := ?_) (by simp only [List.getElem?_toArray, List.getElem?_cons_zero, List.getElem?_cons_succ]; rfl) (by rfl) (fun w hS => ?_) ?_
                rotate_left
                · go_simp <;> with_reducible rfl
                simp only [Act.put, List.setIfInBounds_toArray, List.set_cons_zero, List.set_cons_succ]
                refine chainH_alone (by simp only [List.getElem?_toArray, List.getElem?_cons_zero, List.getElem?_cons_succ]; rfl) ?_
                intro K hK
                go_wp2_with fail
                refine (rof_any r _).mono ?_
                rintro e w2 ⟨rfl, hb⟩
                rw [HX.out]
                have Bw2 : Below w1.heap.size w1 w2 := ((Below.refl _ _).drewN 1).trans hb
                clear hb
                go_wp2
                refine hK.out _ _ Bw2 ?_
                clear hK K
                refine chainH_alone (by simp only [List.getElem?_toArray, List.getElem?_cons_zero, List.getElem?_cons_succ]; rfl) ?_
                intro K hK
                go_wp2
                refine hK.out _ _ Bw2 ?_
                clear hK K
                refine chainH_nil ?_
                replace HB1 := hide (HB1.out.trans (Bw2.mono HB1.out.size))
                replace HC1 := hide (HC1.out.later Bw2)
                clear Bw2 c0 c1 c2 c3 c4 c5 c6
                obtain ⟨c0, c1, c2, c3, c4, c5, c6, cz⟩ := cells7 HC1.out
                clear cz
                go_wp2
                go_quiet (fail)
                have HB2 := hide (HB1.out.drewN nq)
                go_wp2_with fail
                refine (rof_any m _).mono ?_
                rintro e w3 ⟨rfl, hb⟩
                rw [HM.out]
                have HB3 := hide (HB2.out.trans (hb.mono HB2.out.size))
                clear hb
                go_wp2_with fail
                refine (rof_any n _).mono ?_
                rintro e w4 ⟨rfl, hb⟩
                rw [HN.out]
                have HB4 := hide (HB3.out.trans (hb.mono HB3.out.size))
                clear hb
                go_wp2
                go_ret
                exact ⟨ret_bool E3.out.symm, HB4.out⟩
            · have q5 : (P2 == 0) = false := by simpa using hz
              have E3 : Hid (rightC ⟨r, m, n, d, ⟨f, g, b⟩⟩ = false) := by unfold Hid; rw [E.out, HX.out, decide_eq_true hq]; unfold marksC; simp [hm, hP2, hz]
              clear hp hP1 hq h0 hP2 hm hz
              go_enter Tryd.func38, Tryd.ntmps38
              go_wp2_with fail
              rw [HW0.out]
              refine (rright_any f g b _).mono ?_
              rintro e w1 ⟨rfl, hb1⟩
              rw [HP.out]
              have HC1 := hide (HC.out.later hb1)
              have HB1 := hide (HB.out.trans (hb1.mono HB.out.size))
              obtain ⟨c0, c1, c2, c3, c4, c5, c6, cz⟩ := cells7 HC1.out
              clear hb1 cz
              go_wp2
              refine wp_region_chainH (fun w' => Below w1.heap.size w1 w') [(true, 0), (true, 3), (true, 1), (true, 4), (true, 5), (false, 2), (false, 6)] (by kernel_rfl) (by kernel_rfl) (by kernel_rfl) (fun _ _ _ _ _ h => h) ?_ ?_
              · exact (Below.refl _ _).drewN 1
              refine chainH_take (v := ?_) (by simp only [List.getElem?_toArray, List.getElem?_cons_zero]; rfl) (by rfl) (fun w hS => ?_) ?_
              rotate_left
              · go_simp <;> with_reducible rfl
              simp only [Act.put, List.setIfInBounds_toArray, List.set_cons_zero, List.set_cons_succ]
              refine chainH_take (v := ?_) (by simp only [List.getElem?_toArray, List.getElem?_cons_zero, List.getElem?_cons_succ]; rfl) (by rfl) (fun w hS => ?_) ?_
              rotate_left
              · go_simp <;> with_reducible rfl
              simp only [Act.put, List.setIfInBounds_toArray, List.set_cons_zero, List.set_cons_succ]
              refine chainH_take (v := ?_) (by simp only [List.getElem?_toArray, List.getElem?_cons_zero, List.getElem?_cons_succ]; rfl) (by rfl) (fun w hS => ?_) ?_
              rotate_left
              · obtain ⟨a0, a1, a2, a3, a4, a5, a6, -⟩ := cells7 (HC1.out.later hS); go_simp <;> with_reducible rfl
              simp only [Act.put, List.setIfInBounds_toArray, List.set_cons_zero, List.set_cons_succ]
              refine chainH_take (v := ?_) (by simp only [List.getElem?_toArray, List.getElem?_cons_zero, List.getElem?_cons_succ]; rfl) (by rfl) (fun w hS => ?_) ?_
              rotate_left
              · obtain ⟨a0, a1, a2, a3, a4, a5, a6, -⟩ := cells7 (HC1.out.later hS); go_simp <;> with_reducible rfl
              simp only [Act.put, List.setIfInBounds_toArray, List.set_cons_zero, List.set_cons_succ]
              refine chainH_take (v := ?_) (by simp only [List.getElem?_toArray, List.getElem?_cons_zero, List.getElem?_cons_succ]; rfl) (by rfl) (fun w hS => ?_) ?_
              rotate_left
              · go_simp <;> with_reducible rfl
              simp only [Act.put, List.setIfInBounds_toArray, List.set_cons_zero, List.set_cons_succ]
              refine chainH_alone (by simp only [List.getElem?_toArray, List.getElem?_cons_zero, List.getElem?_cons_succ]; rfl) ?_
              intro K hK
              go_wp2_with fail
              refine (rof_any r _).mono ?_
              rintro e w2 ⟨rfl, hb⟩
              rw [HX.out]
              have Bw2 : Below w1.heap.size w1 w2 := ((Below.refl _ _).drewN 1).trans hb
              clear hb
              go_wp2
              refine hK.out _ _ Bw2 ?_
              clear hK K
              refine chainH_alone (by simp only [List.getElem?_toArray, List.getElem?_cons_zero, List.getElem?_cons_succ]; rfl) ?_
              intro K hK
              go_wp2
              refine hK.out _ _ Bw2 ?_
              clear hK K
              refine chainH_nil ?_
              replace HB1 := hide (HB1.out.trans (Bw2.mono HB1.out.size))
              replace HC1 := hide (HC1.out.later Bw2)
              clear Bw2 c0 c1 c2 c3 c4 c5 c6
              obtain ⟨c0, c1, c2, c3, c4, c5, c6, cz⟩ := cells7 HC1.out
              clear cz
              go_wp2
              go_quiet (fail)
              have HB2 := hide (HB1.out.drewN nq)
              go_wp2_with fail
              refine (rof_any m _).mono ?_
              rintro e w3 ⟨rfl, hb⟩
              rw [HM.out]
              have HB3 := hide (HB2.out.trans (hb.mono HB2.out.size))
              clear hb
              go_wp2
              go_ret
              exact ⟨ret_bool E3.out.symm, HB3.out⟩
        · have hqq : (P1 != (d : Int)) = true := by simpa using hq
          have E2 : Hid (rightC ⟨r, m, n, d, ⟨f, g, b⟩⟩ = false) := by unfold Hid; rw [E.out, HX.out, decide_eq_false hq]; rfl
          clear hp hP1 hq h0
          go_enter Tryd.func38, Tryd.ntmps38
          go_wp2_with fail
          rw [HW0.out]
          refine (rright_any f g b _).mono ?_
          rintro e w1 ⟨rfl, hb1⟩
          rw [HP.out]
          have HC1 := hide (HC.out.later hb1)
          have HB1 := hide (HB.out.trans (hb1.mono HB.out.size))
          obtain ⟨c0, c1, c2, c3, c4, c5, c6, cz⟩ := cells7 HC1.out
          clear hb1 cz
          go_wp2
          refine wp_region_chainH (fun w' => Below w1.heap.size w1 w') [(true, 0), (true, 3), (true, 1), (true, 4), (true, 5), (false, 2), (false, 6)] (by kernel_rfl) (by kernel_rfl) (by kernel_rfl) (fun _ _ _ _ _ h => h) ?_ ?_
          · exact (Below.refl _ _).drewN 1
          refine chainH_take (v := ?_) (by simp only [List.getElem?_toArray, List.getElem?_cons_zero]; rfl) (by rfl) (fun w hS => ?_) ?_
          rotate_left
          · go_simp <;> with_reducible rfl
          simp only [Act.put, List.setIfInBounds_toArray, List.set_cons_zero, List.set_cons_succ]
          refine chainH_take (v := ?_) (by simp only [List.getElem?_toArray, List.getElem?_cons_zero, List.getElem?_cons_succ]; rfl) (by rfl) (fun w hS => ?_) ?_
          rotate_left
          · go_simp <;> with_reducible rfl
          simp only [Act.put, List.setIfInBounds_toArray, List.set_cons_zero, List.set_cons_succ]
          refine chainH_take (v := ?_) (by simp only [List.getElem?_toArray, List.getElem?_cons_zero, List.getElem?_cons_succ]; rfl) (by rfl) (fun w hS => ?_) ?_
          rotate_left
          · obtain ⟨a0, a1, a2, a3, a4, a5, a6, -⟩ := cells7 (HC1.out.later hS); go_simp <;> with_reducible rfl
          simp only [Act.put, List.setIfInBounds_toArray, List.set_cons_zero, List.set_cons_succ]
          refine chainH_take (v := ?_) (by simp only [List.getElem?_toArray, List.getElem?_cons_zero, List.getElem?_cons_succ]; rfl) (by rfl) (fun w hS => ?_) ?_
          rotate_left
          · obtain ⟨a0, a1, a2, a3, a4, a5, a6, -⟩ := cells7 (HC1.out.later hS); go_simp <;> with_reducible rfl
          simp only [Act.put, List.setIfInBounds_toArray, List.set_cons_zero, List.set_cons_succ]
          refine chainH_take (v := ?_) (by simp only [List.getElem?_toArray, List.getElem?_cons_zero, List.getElem?_cons_succ]; rfl) (by rfl) (fun w hS => ?_) ?_
          rotate_left
          · go_simp <;> with_reducible rfl
          simp only [Act.put, List.setIfInBounds_toArray, List.set_cons_zero, List.set_cons_succ]
          refine chainH_alone (by simp only [List.getElem?_toArray, List.getElem?_cons_zero, List.getElem?_cons_succ]; rfl) ?_
          intro K hK
          go_wp2_with fail
          refine (rof_any r _).mono ?_
          rintro e w2 ⟨rfl, hb⟩
          rw [HX.out]
          have Bw2 : Below w1.heap.size w1 w2 := ((Below.refl _ _).drewN 1).trans hb
          clear hb
          go_wp2
          refine hK.out _ _ Bw2 ?_
          clear hK K
          refine chainH_alone (by simp only [List.getElem?_toArray, List.getElem?_cons_zero, List.getElem?_cons_succ]; rfl) ?_
          intro K hK
          go_wp2
          refine hK.out _ _ Bw2 ?_
          clear hK K
          refine chainH_nil ?_
          go_wp2
          go_ret
          exact ⟨ret_bool E2.out.symm, HB1.out.trans (Bw2.mono HB1.out.size)⟩
end Go.Proofs.YtdeoeihbmdgipaaDoor
