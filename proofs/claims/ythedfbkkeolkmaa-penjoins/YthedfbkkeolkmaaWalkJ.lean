/-
  The walk of the law PenJoins.
-/
import Derived.Test.YthedfbkkeolkmaaNumb
import Derived.Test.YthedfbkkeolkmaaRWith
import Derived.Test.YthedfbkkeolkmaaChainT
namespace Go.Proofs.Ythedfbkkeolkmaa
open Go.ChangeShapes Go.WideShapes Go.ChangeAt Go.RowKit
set_option linter.unusedVariables false

theorem elem24 : Elem Try.prog 24 3 .i64 8 := ⟨Try.underlying24, by kernel_rfl⟩
set_option maxRecDepth 100000 in
set_option maxHeartbeats 4000000 in
theorem penJoins_walk (f g b : Nat) (hp : Pn.ok ⟨f, g, b⟩) (a : Option Addr) (len cap : Nat) (zs : List Int) (a1 : Option Addr) (len1 cap1 : Nat) (zs1 : List Int) (m : Nat) (hm : m < 256) (w : World)
    (hrow : IsRow .i64 w a len cap zs) (hrow1 : IsRow .i64 w a1 len1 cap1 zs1) :
    Calls Try.prog 5 #[.agg #[.int .u8 (f : Int), .int .u8 (g : Int), .int .u8 (b : Int)], .slice a len cap, .slice a1 len1 cap1, .int .u8 (m : Int)] w fun e w' => e = .returned (.bool true) ∧ Below w.heap.size w w' := by
  have e23 := eql23
  have n23 := neq23
  have es := eqP_self
  have hf : f < 256 := hp.1
  have HPk := hide hp
  obtain ⟨hz, hl, hn0, hmaxl⟩ := hrow.len
  obtain ⟨hz1, hl1, hn1, hmaxl1⟩ := hrow1.len
  obtain ⟨p, hpq, hp20, hpl⟩ : ∃ p : Nat, min (len : Int) 20 = (p : Int) ∧ p ≤ 20 ∧ p ≤ len := ⟨min len 20, by omega, by omega, by omega⟩
  obtain ⟨q, hqq, hq20, hql⟩ : ∃ q : Nat, min (len1 : Int) 20 = (q : Int) ∧ q ≤ 20 ∧ q ≤ len1 := ⟨min len1 20, by omega, by omega, by omega⟩
  have hi := hrow.ints.take p
  have hj := hrow1.ints.take q
  have hx : (zs.take p).length = p := by rw [List.length_take]; omega
  have hy : (zs1.take q).length = q := by rw [List.length_take]; omega
  unfold maxLen at hmaxl hmaxl1
  clear hrow hrow1
  have HX := hide hx
  have HY := hide hy
  have HN := hide hn0
  have HM := hide hn1
  have HXm : Hid (p ≤ 1000000) := by unfold Hid; omega
  have HYm : Hid (q ≤ 1000000) := by unfold Hid; omega
  clear hz hn0 hx hz1 hn1 hy hp
  generalize zs.take p = xs at *
  generalize zs1.take q = ys at *
  have k1 : (0 : Int) ≤ (p : Int) := by omega
  have k2 : (p : Int) ≤ (cap : Int) := by omega
  have k3 : (0 : Int) ≤ (q : Int) := by omega
  have k4 : (q : Int) ≤ (cap1 : Int) := by omega
  obtain ⟨E, hE⟩ : ∃ E, xs ++ ys = E := ⟨_, rfl⟩
  have HEl : Hid (E.length ≤ 1000000) := by unfold Hid; rw [← hE, List.length_append, HX.out, HY.out]; omega
  obtain ⟨⟨F, G, B⟩, hT⟩ : ∃ P, turnN ⟨f, g, b⟩ E = P := ⟨_, rfl⟩
  obtain ⟨⟨F1, G1, B1⟩, hT1⟩ : ∃ P, turnN ⟨f, g, b⟩ xs = P := ⟨_, rfl⟩
  have HTT : Hid (0 < p → 0 < q → turnN ⟨F1, G1, B1⟩ ys = ⟨F, G, B⟩) := by
    intro h1 h2
    rw [← hT, ← hE, ← hT1, turnN_append _ _ _ (by rw [HX.out]; exact h1) (by rw [HY.out]; exact h2)]
  have HPk1 : Hid (Pn.ok ⟨F1, G1, B1⟩) := by unfold Hid; rw [← hT1]; exact turnN_ok _ _ HPk.out
  have HE := hide hE
  have HT := hide hT
  have HT1 := hide hT1
  clear hE hT hT1
  have hX := withN_lt f m true hf hm
  have hY := withN_lt f m false hf hm
  have HX2 := hide (with_off_on f m hf hm)
  have HY2 := hide (with_on_off f m hf hm)
  obtain ⟨X, hXe⟩ : ∃ X, withN f m true = X := ⟨_, rfl⟩
  obtain ⟨Y, hYe⟩ : ∃ Y, withN f m false = Y := ⟨_, rfl⟩
  rw [hXe] at hX HX2 HY2
  rw [hYe] at hY HX2 HY2
  have HX1 := hide hXe
  have HY1 := hide hYe
  clear hXe hYe
  have HP0 := hide (Whole.new w 23 [.int .u8 (f : Int), .int .u8 (g : Int), .int .u8 (b : Int)])
  have HI0 := hide (hi.alloc (.cells #[.int .u8 (f : Int), .int .u8 (g : Int), .int .u8 (b : Int)] 23))
  have HJ0 := hide (hj.alloc (.cells #[.int .u8 (f : Int), .int .u8 (g : Int), .int .u8 (b : Int)] 23))
  have hb0 := (Below.refl w.heap.size w).alloc (Nat.le_refl _) (.cells #[.int .u8 (f : Int), .int .u8 (g : Int), .int .u8 (b : Int)] 23)
  clear hi hj
  go_enter Try.func5, Try.ntmps5
  go_wp2
  generalize w.alloc (.cells #[.int .u8 (f : Int), .int .u8 (g : Int), .int .u8 (b : Int)] 23) = W0 at HP0 HI0 HJ0 hb0 ⊢
  go_quiet (fail)
  have HP := hide (HP0.out.drewN nq)
  have HI := hide (HI0.out.drewN nq)
  have HJ := hide (HJ0.out.drewN nq)
  have hbel := hb0.drewN nq
  clear HP0 HI0 HJ0 hb0
  generalize W0.drewN nq = W at HP HI HJ hbel ⊢
  go_upto_region 2 with fail
  go_cut [9] (fun s wx => ∃ r, s = .pointer (some ⟨r, 0, none⟩) ∧ Whole wx r 23 [.int .u8 (F : Int), .int .u8 (G : Int), .int .u8 (B : Int)] ∧ Below W.heap.size W wx)
  case first =>
    refine wp_region_tree (fun w' => Below W.heap.size W w') (.take 0 (.take 2 (.take 4 (.two 1 (.two 3 (.two 5 (.two 6 (.alone 7 (.alone 8 .done)) 7 (.alone 6 (.alone 8 .done))) 7 (.alone 5 (.alone 6 (.alone 8 .done)))) 7 (.alone 3 (.alone 5 (.alone 6 (.alone 8 .done))))) 7 (.alone 1 (.alone 3 (.alone 5 (.alone 6 (.alone 8 .done))))))))) (by kernel_rfl) (by kernel_rfl) (by kernel_rfl) (fun _ _ _ _ _ h => h) ?_ ?_
    · exact (Below.refl _ _).drewN 1
    refine tree_take (v := ?_) (by simp only [List.getElem?_toArray, List.getElem?_cons_zero]; rfl) (by rfl) (fun w hS => ?_) ?_
    rotate_left
    · obtain ⟨a0, a1, a2, -⟩ := whole3 (HP.out.later hS); go_simp <;> with_reducible rfl
    simp only [Act.put, List.setIfInBounds_toArray, List.set_cons_zero, List.set_cons_succ]
    refine tree_take (v := ?_) (by simp only [List.getElem?_toArray, List.getElem?_cons_zero, List.getElem?_cons_succ]; rfl) (by rfl) (fun w hS => ?_) ?_
    rotate_left
    · go_simp <;> with_reducible rfl
    simp only [Act.put, List.setIfInBounds_toArray, List.set_cons_zero, List.set_cons_succ]
    refine tree_take (v := ?_) (by simp only [List.getElem?_toArray, List.getElem?_cons_zero, List.getElem?_cons_succ]; rfl) (by rfl) (fun w hS => ?_) ?_
    rotate_left
    · go_simp <;> with_reducible rfl
    simp only [Act.put, List.setIfInBounds_toArray, List.set_cons_zero, List.set_cons_succ]
    have Bx0 : Below W.heap.size W W.drew := (Below.refl _ _).drewN 1
    generalize W.drew = x0 at Bx0 ⊢
    refine tree_two (by simp only [List.getElem?_toArray, List.getElem?_cons_zero, List.getElem?_cons_succ]; rfl) (by simp only [List.getElem?_toArray, List.getElem?_cons_zero, List.getElem?_cons_succ]; rfl) ?_ ?_
    · intro K hK
      go_wp2
      refine hK.out _ _ (Bx0.alloc Bx0.size _) ?_
      clear hK K
      have HO := hide (Own.empty x0 3 .i64)
      have Bx1 := Bx0.alloc Bx0.size (.cells #[] 3)
      generalize x0.alloc (.cells #[] 3) = x1 at HO Bx1 ⊢
      refine tree_two (by simp only [List.getElem?_toArray, List.getElem?_cons_zero, List.getElem?_cons_succ]; rfl) (by simp only [List.getElem?_toArray, List.getElem?_cons_zero, List.getElem?_cons_succ]; rfl) ?_ ?_
      · intro K hK
        refine wpList_catO elem24 (by rfl) (.tmp 21) (.tmp 22) rfl rfl rfl HO.out (HI.out.below Bx1) HX.out HN.out (by simp; omega) (by omega) ?_
        intro vx2 x2 hown oth
        have Bx2 : Below W.heap.size W x2 := Bx0.trans (hown.bel.mono Bx0.size)
        rw [List.nil_append] at hown
        clear HO
        have HO := hide hown
        clear hown oth
        go_wp2
        refine hK.out _ _ Bx2 ?_
        clear hK K
        refine tree_two (by simp only [List.getElem?_toArray, List.getElem?_cons_zero, List.getElem?_cons_succ]; rfl) (by simp only [List.getElem?_toArray, List.getElem?_cons_zero, List.getElem?_cons_succ]; rfl) ?_ ?_
        · intro K hK
          refine wpList_catO elem24 (by rfl) (.tmp 23) (.tmp 24) rfl rfl rfl HO.out (HJ.out.below Bx2) HY.out HM.out (by rw [HX.out]; omega) (by omega) ?_
          intro vx3 x3 hown oth
          have Bx3 : Below W.heap.size W x3 := Bx0.trans (hown.bel.mono Bx0.size)
          rw [HE.out] at hown
          clear HO
          have HO := hide hown
          clear hown oth
          go_wp2
          refine hK.out _ _ Bx3 ?_
          clear hK K
          refine tree_two (by simp only [List.getElem?_toArray, List.getElem?_cons_zero, List.getElem?_cons_succ]; rfl) (by simp only [List.getElem?_toArray, List.getElem?_cons_zero, List.getElem?_cons_succ]; rfl) ?_ ?_
          · obtain ⟨Ax4, cx4, rfl, hAx4, -, -, -⟩ := HO.out.form2
            have HA := hide hAx4
            clear hAx4 HO
            intro K hK
            go_wp2_with fail
            refine (turn_any f g b HPk.out Ax4 _ cx4 E _ HA.out rfl HEl.out).mono ?_
            rintro e x4 ⟨rfl, hb⟩
            rw [HT.out]
            have Bx4 : Below W.heap.size W x4 := Bx3.trans (hb.mono Bx3.size)
            clear hb
            go_wp2
            refine hK.out _ _ Bx4 ?_
            clear hK K
            refine tree_alone (by simp only [List.getElem?_toArray, List.getElem?_cons_zero, List.getElem?_cons_succ]; rfl) ?_
            intro K hK
            go_wp2
            refine hK.out _ _ (Bx4.alloc Bx4.size _) ?_
            clear hK K
            have HQ := hide (Whole.new x4 23 [.int .u8 0, .int .u8 0, .int .u8 0])
            have Bx5 := Bx4.alloc Bx4.size (.cells #[.int .u8 0, .int .u8 0, .int .u8 0] 23)
            have qge : Hid (W.heap.size ≤ x4.heap.size) := Bx4.size
            generalize x4.alloc (.cells #[.int .u8 0, .int .u8 0, .int .u8 0] 23) = x5 at HQ Bx5 ⊢
            obtain ⟨i0, i1, i2, i3, i4, i5⟩ := whole3 HQ.out
            refine tree_alone (by simp only [List.getElem?_toArray, List.getElem?_cons_zero, List.getElem?_cons_succ]; rfl) ?_
            intro K hK
            go_wp2
            refine hK.out _ _ (below_put3 Bx5 qge.out _ _ _) ?_
            clear hK K
            refine tree_done ?_
            go_wp2
            go_meet
            exact ⟨_, rfl, put3 HQ.out, below_put3 Bx5 qge.out _ _ _⟩
          · intro K hK
            go_wp2
            refine hK.out _ _ (Bx3.alloc Bx3.size _) ?_
            clear hK K
            have HQ := hide (Whole.new x3 23 [.int .u8 0, .int .u8 0, .int .u8 0])
            have Bx7 := Bx3.alloc Bx3.size (.cells #[.int .u8 0, .int .u8 0, .int .u8 0] 23)
            have qge : Hid (W.heap.size ≤ x3.heap.size) := Bx3.size
            replace HO := hide (HO.out.alloc (.cells #[.int .u8 0, .int .u8 0, .int .u8 0] 23))
            generalize x3.alloc (.cells #[.int .u8 0, .int .u8 0, .int .u8 0] 23) = x7 at HQ Bx7 HO ⊢
            obtain ⟨Ax8, cx8, rfl, hAx8, -, -, -⟩ := HO.out.form2
            have HA := hide hAx8
            clear hAx8 HO
            refine tree_alone (by simp only [List.getElem?_toArray, List.getElem?_cons_zero, List.getElem?_cons_succ]; rfl) ?_
            intro K hK
            go_wp2_with fail
            refine (turn_any f g b HPk.out Ax8 _ cx8 E _ HA.out rfl HEl.out).mono ?_
            rintro e x8 ⟨rfl, hb⟩
            rw [HT.out]
            have Bx8 : Below W.heap.size W x8 := Bx7.trans (hb.mono Bx7.size)
            replace HQ := hide (HQ.out.later hb)
            clear hb
            go_wp2
            refine hK.out _ _ Bx8 ?_
            clear hK K
            obtain ⟨i0, i1, i2, i3, i4, i5⟩ := whole3 HQ.out
            refine tree_alone (by simp only [List.getElem?_toArray, List.getElem?_cons_zero, List.getElem?_cons_succ]; rfl) ?_
            intro K hK
            go_wp2
            refine hK.out _ _ (below_put3 Bx8 qge.out _ _ _) ?_
            clear hK K
            refine tree_done ?_
            go_wp2
            go_meet
            exact ⟨_, rfl, put3 HQ.out, below_put3 Bx8 qge.out _ _ _⟩
        · intro K hK
          go_wp2
          refine hK.out _ _ (Bx2.alloc Bx2.size _) ?_
          clear hK K
          have HQ := hide (Whole.new x2 23 [.int .u8 0, .int .u8 0, .int .u8 0])
          have Bx10 := Bx2.alloc Bx2.size (.cells #[.int .u8 0, .int .u8 0, .int .u8 0] 23)
          have qge : Hid (W.heap.size ≤ x2.heap.size) := Bx2.size
          replace HO := hide (HO.out.alloc (.cells #[.int .u8 0, .int .u8 0, .int .u8 0] 23))
          generalize x2.alloc (.cells #[.int .u8 0, .int .u8 0, .int .u8 0] 23) = x10 at HQ Bx10 HO ⊢
          refine tree_alone (by simp only [List.getElem?_toArray, List.getElem?_cons_zero, List.getElem?_cons_succ]; rfl) ?_
          intro K hK
          refine wpList_catO elem24 (by rfl) (.tmp 23) (.tmp 24) rfl rfl rfl HO.out (HJ.out.below Bx10) HY.out HM.out (by rw [HX.out]; omega) (by omega) ?_
          intro vx11 x11 hown oth
          have Bx11 : Below W.heap.size W x11 := Bx0.trans (hown.bel.mono Bx0.size)
          rw [HE.out] at hown
          clear HO
          have HO := hide hown
          replace HQ := hide (oth _ _ _ (by decide) HQ.out)
          clear hown oth
          go_wp2
          refine hK.out _ _ Bx11 ?_
          clear hK K
          obtain ⟨Ax12, cx12, rfl, hAx12, -, -, -⟩ := HO.out.form2
          have HA := hide hAx12
          clear hAx12 HO
          refine tree_alone (by simp only [List.getElem?_toArray, List.getElem?_cons_zero, List.getElem?_cons_succ]; rfl) ?_
          intro K hK
          go_wp2_with fail
          refine (turn_any f g b HPk.out Ax12 _ cx12 E _ HA.out rfl HEl.out).mono ?_
          rintro e x12 ⟨rfl, hb⟩
          rw [HT.out]
          have Bx12 : Below W.heap.size W x12 := Bx11.trans (hb.mono Bx11.size)
          replace HQ := hide (HQ.out.later hb)
          clear hb
          go_wp2
          refine hK.out _ _ Bx12 ?_
          clear hK K
          obtain ⟨i0, i1, i2, i3, i4, i5⟩ := whole3 HQ.out
          refine tree_alone (by simp only [List.getElem?_toArray, List.getElem?_cons_zero, List.getElem?_cons_succ]; rfl) ?_
          intro K hK
          go_wp2
          refine hK.out _ _ (below_put3 Bx12 qge.out _ _ _) ?_
          clear hK K
          refine tree_done ?_
          go_wp2
          go_meet
          exact ⟨_, rfl, put3 HQ.out, below_put3 Bx12 qge.out _ _ _⟩
      · intro K hK
        go_wp2
        refine hK.out _ _ (Bx1.alloc Bx1.size _) ?_
        clear hK K
        have HQ := hide (Whole.new x1 23 [.int .u8 0, .int .u8 0, .int .u8 0])
        have Bx14 := Bx1.alloc Bx1.size (.cells #[.int .u8 0, .int .u8 0, .int .u8 0] 23)
        have qge : Hid (W.heap.size ≤ x1.heap.size) := Bx1.size
        replace HO := hide (HO.out.alloc (.cells #[.int .u8 0, .int .u8 0, .int .u8 0] 23))
        generalize x1.alloc (.cells #[.int .u8 0, .int .u8 0, .int .u8 0] 23) = x14 at HQ Bx14 HO ⊢
        refine tree_alone (by simp only [List.getElem?_toArray, List.getElem?_cons_zero, List.getElem?_cons_succ]; rfl) ?_
        intro K hK
        refine wpList_catO elem24 (by rfl) (.tmp 21) (.tmp 22) rfl rfl rfl HO.out (HI.out.below Bx14) HX.out HN.out (by simp; omega) (by omega) ?_
        intro vx15 x15 hown oth
        have Bx15 : Below W.heap.size W x15 := Bx0.trans (hown.bel.mono Bx0.size)
        rw [List.nil_append] at hown
        clear HO
        have HO := hide hown
        replace HQ := hide (oth _ _ _ (by decide) HQ.out)
        clear hown oth
        go_wp2
        refine hK.out _ _ Bx15 ?_
        clear hK K
        refine tree_alone (by simp only [List.getElem?_toArray, List.getElem?_cons_zero, List.getElem?_cons_succ]; rfl) ?_
        intro K hK
        refine wpList_catO elem24 (by rfl) (.tmp 23) (.tmp 24) rfl rfl rfl HO.out (HJ.out.below Bx15) HY.out HM.out (by rw [HX.out]; omega) (by omega) ?_
        intro vx16 x16 hown oth
        have Bx16 : Below W.heap.size W x16 := Bx0.trans (hown.bel.mono Bx0.size)
        rw [HE.out] at hown
        clear HO
        have HO := hide hown
        replace HQ := hide (oth _ _ _ (by decide) HQ.out)
        clear hown oth
        go_wp2
        refine hK.out _ _ Bx16 ?_
        clear hK K
        obtain ⟨Ax17, cx17, rfl, hAx17, -, -, -⟩ := HO.out.form2
        have HA := hide hAx17
        clear hAx17 HO
        refine tree_alone (by simp only [List.getElem?_toArray, List.getElem?_cons_zero, List.getElem?_cons_succ]; rfl) ?_
        intro K hK
        go_wp2_with fail
        refine (turn_any f g b HPk.out Ax17 _ cx17 E _ HA.out rfl HEl.out).mono ?_
        rintro e x17 ⟨rfl, hb⟩
        rw [HT.out]
        have Bx17 : Below W.heap.size W x17 := Bx16.trans (hb.mono Bx16.size)
        replace HQ := hide (HQ.out.later hb)
        clear hb
        go_wp2
        refine hK.out _ _ Bx17 ?_
        clear hK K
        obtain ⟨i0, i1, i2, i3, i4, i5⟩ := whole3 HQ.out
        refine tree_alone (by simp only [List.getElem?_toArray, List.getElem?_cons_zero, List.getElem?_cons_succ]; rfl) ?_
        intro K hK
        go_wp2
        refine hK.out _ _ (below_put3 Bx17 qge.out _ _ _) ?_
        clear hK K
        refine tree_done ?_
        go_wp2
        go_meet
        exact ⟨_, rfl, put3 HQ.out, below_put3 Bx17 qge.out _ _ _⟩
    · intro K hK
      go_wp2
      refine hK.out _ _ (Bx0.alloc Bx0.size _) ?_
      clear hK K
      have HQ := hide (Whole.new x0 23 [.int .u8 0, .int .u8 0, .int .u8 0])
      have Bx19 := Bx0.alloc Bx0.size (.cells #[.int .u8 0, .int .u8 0, .int .u8 0] 23)
      have qge : Hid (W.heap.size ≤ x0.heap.size) := Bx0.size
      generalize x0.alloc (.cells #[.int .u8 0, .int .u8 0, .int .u8 0] 23) = x19 at HQ Bx19 ⊢
      refine tree_alone (by simp only [List.getElem?_toArray, List.getElem?_cons_zero, List.getElem?_cons_succ]; rfl) ?_
      intro K hK
      go_wp2
      refine hK.out _ _ (Bx19.alloc Bx19.size _) ?_
      clear hK K
      have HO := hide (Own.empty x19 3 .i64)
      have Bx20 := Bx19.alloc Bx19.size (.cells #[] 3)
      replace HQ := hide (HQ.out.alloc (.cells #[] 3))
      generalize x19.alloc (.cells #[] 3) = x20 at HO Bx20 HQ ⊢
      refine tree_alone (by simp only [List.getElem?_toArray, List.getElem?_cons_zero, List.getElem?_cons_succ]; rfl) ?_
      intro K hK
      refine wpList_catO elem24 (by rfl) (.tmp 21) (.tmp 22) rfl rfl rfl HO.out (HI.out.below Bx20) HX.out HN.out (by simp; omega) (by omega) ?_
      intro vx21 x21 hown oth
      have Bx21 : Below W.heap.size W x21 := Bx19.trans (hown.bel.mono Bx19.size)
      rw [List.nil_append] at hown
      clear HO
      have HO := hide hown
      replace HQ := hide (oth _ _ _ (by decide) HQ.out)
      clear hown oth
      go_wp2
      refine hK.out _ _ Bx21 ?_
      clear hK K
      refine tree_alone (by simp only [List.getElem?_toArray, List.getElem?_cons_zero, List.getElem?_cons_succ]; rfl) ?_
      intro K hK
      refine wpList_catO elem24 (by rfl) (.tmp 23) (.tmp 24) rfl rfl rfl HO.out (HJ.out.below Bx21) HY.out HM.out (by rw [HX.out]; omega) (by omega) ?_
      intro vx22 x22 hown oth
      have Bx22 : Below W.heap.size W x22 := Bx19.trans (hown.bel.mono Bx19.size)
      rw [HE.out] at hown
      clear HO
      have HO := hide hown
      replace HQ := hide (oth _ _ _ (by decide) HQ.out)
      clear hown oth
      go_wp2
      refine hK.out _ _ Bx22 ?_
      clear hK K
      obtain ⟨Ax23, cx23, rfl, hAx23, -, -, -⟩ := HO.out.form2
      have HA := hide hAx23
      clear hAx23 HO
      refine tree_alone (by simp only [List.getElem?_toArray, List.getElem?_cons_zero, List.getElem?_cons_succ]; rfl) ?_
      intro K hK
      go_wp2_with fail
      refine (turn_any f g b HPk.out Ax23 _ cx23 E _ HA.out rfl HEl.out).mono ?_
      rintro e x23 ⟨rfl, hb⟩
      rw [HT.out]
      have Bx23 : Below W.heap.size W x23 := Bx22.trans (hb.mono Bx22.size)
      replace HQ := hide (HQ.out.later hb)
      clear hb
      go_wp2
      refine hK.out _ _ Bx23 ?_
      clear hK K
      obtain ⟨i0, i1, i2, i3, i4, i5⟩ := whole3 HQ.out
      refine tree_alone (by simp only [List.getElem?_toArray, List.getElem?_cons_zero, List.getElem?_cons_succ]; rfl) ?_
      intro K hK
      go_wp2
      refine hK.out _ _ (below_put3 Bx23 qge.out _ _ _) ?_
      clear hK K
      refine tree_done ?_
      go_wp2
      go_meet
      exact ⟨_, rfl, put3 HQ.out, below_put3 Bx23 qge.out _ _ _⟩
  case rest =>
    obtain ⟨r, rfl, hqw, hbc⟩ := hcut
    have HQ := hide hqw
    replace HP := hide (HP.out.later hbc)
    replace HI := hide (HI.out.below hbc)
    replace HJ := hide (HJ.out.below hbc)
    have hbel2 := hbel.trans (hbc.mono hbel.size)
    clear hqw hbc hbel
    generalize wc = V at *
    go_upto_region 3 with fail
    go_cut [43] (fun s wx => s = .bool false ∧ Below V.heap.size V wx)
    case first =>
      by_cases hp0 : p = 0
      · subst hp0
        refine wp_region_chainH (fun w' => Below V.heap.size V w') [(false, 0), (false, 1), (false, 2), (false, 3), (false, 4), (false, 5), (false, 6), (false, 7), (false, 8), (true, 11), (true, 13), (true, 9), (false, 10), (false, 12), (false, 14), (false, 15), (false, 16)] (by kernel_rfl) (by kernel_rfl) (by kernel_rfl) (fun _ _ _ _ _ h => h) ?_ ?_
        · exact (Below.refl _ _).drewN 1
        refine chainH_alone (by simp only [List.getElem?_toArray, List.getElem?_cons_zero]; rfl) ?_
        intro K hK
        go_wp2
        refine hK.out _ _ ((Below.refl _ _).drewN 1) ?_
        clear hK K
        refine chainH_alone (by simp only [List.getElem?_toArray, List.getElem?_cons_zero, List.getElem?_cons_succ]; rfl) ?_
        intro K hK
        go_wp2
        refine hK.out _ _ ((Below.refl _ _).drewN 1) ?_
        clear hK K
        refine chainH_alone (by simp only [List.getElem?_toArray, List.getElem?_cons_zero, List.getElem?_cons_succ]; rfl) ?_
        intro K hK
        go_wp2
        refine hK.out _ _ ((Below.refl _ _).drewN 1) ?_
        clear hK K
        refine chainH_alone (by simp only [List.getElem?_toArray, List.getElem?_cons_zero, List.getElem?_cons_succ]; rfl) ?_
        intro K hK
        go_wp2
        refine hK.out _ _ ((Below.refl _ _).drewN 1) ?_
        clear hK K
        refine chainH_pass (by simp only [List.getElem?_toArray, List.getElem?_cons_zero, List.getElem?_cons_succ]; rfl) (by rfl) ((Below.refl _ _).drewN 1) ?_
        simp only [Act.put, List.setIfInBounds_toArray, List.set_cons_zero, List.set_cons_succ]
        refine chainH_pass (by simp only [List.getElem?_toArray, List.getElem?_cons_zero, List.getElem?_cons_succ]; rfl) (by rfl) ((Below.refl _ _).drewN 1) ?_
        simp only [Act.put, List.setIfInBounds_toArray, List.set_cons_zero, List.set_cons_succ]
        refine chainH_pass (by simp only [List.getElem?_toArray, List.getElem?_cons_zero, List.getElem?_cons_succ]; rfl) (by rfl) ((Below.refl _ _).drewN 1) ?_
        simp only [Act.put, List.setIfInBounds_toArray, List.set_cons_zero, List.set_cons_succ]
        refine chainH_alone (by simp only [List.getElem?_toArray, List.getElem?_cons_zero, List.getElem?_cons_succ]; rfl) ?_
        intro K hK
        go_wp2
        refine hK.out _ _ ((Below.refl _ _).drewN 1) ?_
        clear hK K
        refine chainH_alone (by simp only [List.getElem?_toArray, List.getElem?_cons_zero, List.getElem?_cons_succ]; rfl) ?_
        intro K hK
        go_wp2
        refine hK.out _ _ ((Below.refl _ _).drewN 1) ?_
        clear hK K
        refine chainH_skip (by simp only [List.getElem?_toArray, List.getElem?_cons_zero, List.getElem?_cons_succ]; rfl) (by rfl) ?_
        simp only [Act.put, List.setIfInBounds_toArray, List.set_cons_zero, List.set_cons_succ]
        refine chainH_skip (by simp only [List.getElem?_toArray, List.getElem?_cons_zero, List.getElem?_cons_succ]; rfl) (by rfl) ?_
        simp only [Act.put, List.setIfInBounds_toArray, List.set_cons_zero, List.set_cons_succ]
        refine chainH_skip (by simp only [List.getElem?_toArray, List.getElem?_cons_zero, List.getElem?_cons_succ]; rfl) (by rfl) ?_
        simp only [Act.put, List.setIfInBounds_toArray, List.set_cons_zero, List.set_cons_succ]
        refine chainH_pass (by simp only [List.getElem?_toArray, List.getElem?_cons_zero, List.getElem?_cons_succ]; rfl) (by rfl) ((Below.refl _ _).drewN 1) ?_
        simp only [Act.put, List.setIfInBounds_toArray, List.set_cons_zero, List.set_cons_succ]
        refine chainH_pass (by simp only [List.getElem?_toArray, List.getElem?_cons_zero, List.getElem?_cons_succ]; rfl) (by rfl) ((Below.refl _ _).drewN 1) ?_
        simp only [Act.put, List.setIfInBounds_toArray, List.set_cons_zero, List.set_cons_succ]
        refine chainH_pass (by simp only [List.getElem?_toArray, List.getElem?_cons_zero, List.getElem?_cons_succ]; rfl) (by rfl) ((Below.refl _ _).drewN 1) ?_
        simp only [Act.put, List.setIfInBounds_toArray, List.set_cons_zero, List.set_cons_succ]
        refine chainH_pass (by simp only [List.getElem?_toArray, List.getElem?_cons_zero, List.getElem?_cons_succ]; rfl) (by rfl) ((Below.refl _ _).drewN 1) ?_
        simp only [Act.put, List.setIfInBounds_toArray, List.set_cons_zero, List.set_cons_succ]
        refine chainH_alone (by simp only [List.getElem?_toArray, List.getElem?_cons_zero, List.getElem?_cons_succ]; rfl) ?_
        intro K hK
        go_wp2
        refine hK.out _ _ ((Below.refl _ _).drewN 1) ?_
        clear hK K
        refine chainH_nil ?_
        go_wp2
        go_meet
        exact ⟨rfl, (Below.refl _ _).drewN 1⟩
      by_cases hq0 : q = 0
      · subst hq0
        have d1 : (0 : Int) < (p : Int) := by omega
        refine wp_region_chainH (fun w' => Below V.heap.size V w') [(false, 0), (false, 1), (false, 2), (false, 3), (false, 4), (false, 5), (false, 6), (false, 7), (false, 8), (true, 11), (true, 13), (true, 9), (false, 10), (false, 12), (false, 14), (false, 15), (false, 16)] (by kernel_rfl) (by kernel_rfl) (by kernel_rfl) (fun _ _ _ _ _ h => h) ?_ ?_
        · exact (Below.refl _ _).drewN 1
        refine chainH_alone (by simp only [List.getElem?_toArray, List.getElem?_cons_zero]; rfl) ?_
        intro K hK
        go_wp2
        refine hK.out _ _ ((Below.refl _ _).drewN 1) ?_
        clear hK K
        refine chainH_alone (by simp only [List.getElem?_toArray, List.getElem?_cons_zero, List.getElem?_cons_succ]; rfl) ?_
        intro K hK
        go_wp2
        refine hK.out _ _ ((Below.refl _ _).drewN 1) ?_
        clear hK K
        refine chainH_alone (by simp only [List.getElem?_toArray, List.getElem?_cons_zero, List.getElem?_cons_succ]; rfl) ?_
        intro K hK
        go_wp2
        refine hK.out _ _ ((Below.refl _ _).drewN 1) ?_
        clear hK K
        refine chainH_alone (by simp only [List.getElem?_toArray, List.getElem?_cons_zero, List.getElem?_cons_succ]; rfl) ?_
        intro K hK
        go_wp2
        refine hK.out _ _ ((Below.refl _ _).drewN 1) ?_
        clear hK K
        refine chainH_alone (by simp only [List.getElem?_toArray, List.getElem?_cons_zero, List.getElem?_cons_succ]; rfl) ?_
        intro K hK
        go_wp2
        refine hK.out _ _ ((Below.refl _ _).drewN 1) ?_
        clear hK K
        refine chainH_alone (by simp only [List.getElem?_toArray, List.getElem?_cons_zero, List.getElem?_cons_succ]; rfl) ?_
        intro K hK
        go_wp2
        refine hK.out _ _ ((Below.refl _ _).drewN 1) ?_
        clear hK K
        refine chainH_alone (by simp only [List.getElem?_toArray, List.getElem?_cons_zero, List.getElem?_cons_succ]; rfl) ?_
        intro K hK
        go_wp2
        refine hK.out _ _ ((Below.refl _ _).drewN 1) ?_
        clear hK K
        refine chainH_alone (by simp only [List.getElem?_toArray, List.getElem?_cons_zero, List.getElem?_cons_succ]; rfl) ?_
        intro K hK
        go_wp2
        refine hK.out _ _ ((Below.refl _ _).drewN 1) ?_
        clear hK K
        refine chainH_alone (by simp only [List.getElem?_toArray, List.getElem?_cons_zero, List.getElem?_cons_succ]; rfl) ?_
        intro K hK
        go_wp2
        refine hK.out _ _ ((Below.refl _ _).drewN 1) ?_
        clear hK K
        refine chainH_skip (by simp only [List.getElem?_toArray, List.getElem?_cons_zero, List.getElem?_cons_succ]; rfl) (by rfl) ?_
        simp only [Act.put, List.setIfInBounds_toArray, List.set_cons_zero, List.set_cons_succ]
        refine chainH_skip (by simp only [List.getElem?_toArray, List.getElem?_cons_zero, List.getElem?_cons_succ]; rfl) (by rfl) ?_
        simp only [Act.put, List.setIfInBounds_toArray, List.set_cons_zero, List.set_cons_succ]
        refine chainH_skip (by simp only [List.getElem?_toArray, List.getElem?_cons_zero, List.getElem?_cons_succ]; rfl) (by rfl) ?_
        simp only [Act.put, List.setIfInBounds_toArray, List.set_cons_zero, List.set_cons_succ]
        refine chainH_pass (by simp only [List.getElem?_toArray, List.getElem?_cons_zero, List.getElem?_cons_succ]; rfl) (by rfl) ((Below.refl _ _).drewN 1) ?_
        simp only [Act.put, List.setIfInBounds_toArray, List.set_cons_zero, List.set_cons_succ]
        refine chainH_pass (by simp only [List.getElem?_toArray, List.getElem?_cons_zero, List.getElem?_cons_succ]; rfl) (by rfl) ((Below.refl _ _).drewN 1) ?_
        simp only [Act.put, List.setIfInBounds_toArray, List.set_cons_zero, List.set_cons_succ]
        refine chainH_pass (by simp only [List.getElem?_toArray, List.getElem?_cons_zero, List.getElem?_cons_succ]; rfl) (by rfl) ((Below.refl _ _).drewN 1) ?_
        simp only [Act.put, List.setIfInBounds_toArray, List.set_cons_zero, List.set_cons_succ]
        refine chainH_pass (by simp only [List.getElem?_toArray, List.getElem?_cons_zero, List.getElem?_cons_succ]; rfl) (by rfl) ((Below.refl _ _).drewN 1) ?_
        simp only [Act.put, List.setIfInBounds_toArray, List.set_cons_zero, List.set_cons_succ]
        refine chainH_alone (by simp only [List.getElem?_toArray, List.getElem?_cons_zero, List.getElem?_cons_succ]; rfl) ?_
        intro K hK
        go_wp2
        refine hK.out _ _ ((Below.refl _ _).drewN 1) ?_
        clear hK K
        refine chainH_nil ?_
        go_wp2
        go_meet
        exact ⟨rfl, (Below.refl _ _).drewN 1⟩
      have d1 : (0 : Int) < (p : Int) := by omega
      have d2 : (0 : Int) < (q : Int) := by omega
      have d3 : 0 < q := by omega
      have d4 : decide (0 < q) = true := by simp; omega
      obtain ⟨p0, p1, p2, -⟩ := whole3 HP.out
      have HT2 := hide (HTT.out (by omega) (by omega))
      refine wp_region_chainH (fun w' => Below V.heap.size V w') [(false, 0), (false, 1), (false, 2), (false, 3), (false, 4), (false, 5), (false, 6), (false, 7), (false, 8), (true, 11), (true, 13), (true, 9), (false, 10), (false, 12), (false, 14), (false, 15), (false, 16)] (by kernel_rfl) (by kernel_rfl) (by kernel_rfl) (fun _ _ _ _ _ h => h) ?_ ?_
      · exact (Below.refl _ _).drewN 1
      refine chainH_alone (by simp only [List.getElem?_toArray, List.getElem?_cons_zero]; rfl) ?_
      intro K hK
      go_wp2
      refine hK.out _ _ ((Below.refl _ _).drewN 1) ?_
      clear hK K
      refine chainH_alone (by simp only [List.getElem?_toArray, List.getElem?_cons_zero, List.getElem?_cons_succ]; rfl) ?_
      intro K hK
      go_wp2
      refine hK.out _ _ ((Below.refl _ _).drewN 1) ?_
      clear hK K
      refine chainH_alone (by simp only [List.getElem?_toArray, List.getElem?_cons_zero, List.getElem?_cons_succ]; rfl) ?_
      intro K hK
      go_wp2
      refine hK.out _ _ ((Below.refl _ _).drewN 1) ?_
      clear hK K
      refine chainH_alone (by simp only [List.getElem?_toArray, List.getElem?_cons_zero, List.getElem?_cons_succ]; rfl) ?_
      intro K hK
      go_wp2
      refine hK.out _ _ ((Below.refl _ _).drewN 1) ?_
      clear hK K
      refine chainH_alone (by simp only [List.getElem?_toArray, List.getElem?_cons_zero, List.getElem?_cons_succ]; rfl) ?_
      intro K hK
      go_wp2
      refine hK.out _ _ ((Below.refl _ _).drewN 1) ?_
      clear hK K
      refine chainH_alone (by simp only [List.getElem?_toArray, List.getElem?_cons_zero, List.getElem?_cons_succ]; rfl) ?_
      intro K hK
      go_wp2
      refine hK.out _ _ ((Below.refl _ _).drewN 1) ?_
      clear hK K
      refine chainH_alone (by simp only [List.getElem?_toArray, List.getElem?_cons_zero, List.getElem?_cons_succ]; rfl) ?_
      intro K hK
      go_wp2
      refine hK.out _ _ ((Below.refl _ _).drewN 1) ?_
      clear hK K
      refine chainH_alone (by simp only [List.getElem?_toArray, List.getElem?_cons_zero, List.getElem?_cons_succ]; rfl) ?_
      intro K hK
      go_wp2
      refine hK.out _ _ ((Below.refl _ _).drewN 1) ?_
      clear hK K
      refine chainH_alone (by simp only [List.getElem?_toArray, List.getElem?_cons_zero, List.getElem?_cons_succ]; rfl) ?_
      intro K hK
      go_wp2
      refine hK.out _ _ ((Below.refl _ _).drewN 1) ?_
      clear hK K
      refine chainH_take (v := ?_) (by simp only [List.getElem?_toArray, List.getElem?_cons_zero, List.getElem?_cons_succ]; rfl) (by rfl) (fun w hS => ?_) ?_
      rotate_left
      · go_simp <;> with_reducible rfl
      simp only [Act.put, List.setIfInBounds_toArray, List.set_cons_zero, List.set_cons_succ]
      refine chainH_take (v := ?_) (by simp only [List.getElem?_toArray, List.getElem?_cons_zero, List.getElem?_cons_succ]; rfl) (by rfl) (fun w hS => ?_) ?_
      rotate_left
      · go_simp <;> with_reducible rfl
      simp only [Act.put, List.setIfInBounds_toArray, List.set_cons_zero, List.set_cons_succ]
      refine chainH_take (v := ?_) (by simp only [List.getElem?_toArray, List.getElem?_cons_zero, List.getElem?_cons_succ]; rfl) (by rfl) (fun w hS => ?_) ?_
      rotate_left
      · obtain ⟨a0, a1, a2, -⟩ := whole3 (HQ.out.later hS); go_simp <;> with_reducible rfl
      simp only [Act.put, List.setIfInBounds_toArray, List.set_cons_zero, List.set_cons_succ]
      refine chainH_alone (by simp only [List.getElem?_toArray, List.getElem?_cons_zero, List.getElem?_cons_succ]; rfl) ?_
      intro K hK
      go_wp2
      refine hK.out _ _ ((Below.refl _ _).drewN 1) ?_
      clear hK K
      refine chainH_alone (by simp only [List.getElem?_toArray, List.getElem?_cons_zero, List.getElem?_cons_succ]; rfl) ?_
      intro K hK
      go_wp2_with fail
      refine (turn_any f g b HPk.out a p cap xs _ (HI.out.drew) HX.out HXm.out).mono ?_
      rintro e y1 ⟨rfl, hb⟩
      rw [HT1.out]
      have By1 : Below V.heap.size V y1 := ((Below.refl _ _).drewN 1).trans hb
      clear hb
      go_wp2
      refine hK.out _ _ By1 ?_
      clear hK K
      refine chainH_alone (by simp only [List.getElem?_toArray, List.getElem?_cons_zero, List.getElem?_cons_succ]; rfl) ?_
      intro K hK
      go_wp2_with fail
      refine (turn_any F1 G1 B1 HPk1.out a1 q cap1 ys _ (HJ.out.below By1) HY.out HYm.out).mono ?_
      rintro e y2 ⟨rfl, hb⟩
      rw [HT2.out]
      have By2 : Below V.heap.size V y2 := By1.trans (hb.mono By1.size)
      clear hb
      go_wp2
      refine hK.out _ _ By2 ?_
      clear hK K
      refine chainH_alone (by simp only [List.getElem?_toArray, List.getElem?_cons_zero, List.getElem?_cons_succ]; rfl) ?_
      intro K hK
      go_wp2
      refine hK.out _ _ By2 ?_
      clear hK K
      refine chainH_alone (by simp only [List.getElem?_toArray, List.getElem?_cons_zero, List.getElem?_cons_succ]; rfl) ?_
      intro K hK
      go_wp2
      refine hK.out _ _ By2 ?_
      clear hK K
      refine chainH_nil ?_
      go_wp2
      go_meet
      exact ⟨rfl, By2⟩
    case rest =>
      obtain ⟨rfl, hbc⟩ := hcut
      replace HP := hide (HP.out.later hbc)
      have hbel3 := hbel2.trans (hbc.mono hbel2.size)
      clear hbc hbel2 HQ HI HJ
      generalize wc = U at *
      go_wp2
      refine wp_region_chainH (fun w' => Below U.heap.size U w') [(false, 0), (false, 1), (true, 3), (true, 5), (true, 8), (true, 2), (true, 7), (false, 4), (false, 6), (false, 9), (false, 10), (false, 11), (false, 12), (true, 14), (true, 16), (true, 19), (true, 13), (true, 18), (false, 15), (false, 17), (false, 20), (false, 21), (false, 22), (false, 23)] (by kernel_rfl) (by kernel_rfl) (by kernel_rfl) (fun _ _ _ _ _ h => h) ?_ ?_
      · exact (Below.refl _ _).drewN 1
      refine chainH_alone (by simp only [List.getElem?_toArray, List.getElem?_cons_zero]; rfl) ?_
      intro K hK
      go_wp2_with fail
      refine (known_any _).mono ?_
      rintro e z1 ⟨rfl, hb⟩
      have Bz1 : Below U.heap.size U z1 := ((Below.refl _ _).drewN 1).trans hb
      clear hb
      go_wp2
      refine hK.out _ _ Bz1 ?_
      clear hK K
      refine chainH_alone (by simp only [List.getElem?_toArray, List.getElem?_cons_zero, List.getElem?_cons_succ]; rfl) ?_
      intro K hK
      go_wp2
      refine hK.out _ _ Bz1 ?_
      clear hK K
      refine chainH_take (v := ?_) (by simp only [List.getElem?_toArray, List.getElem?_cons_zero, List.getElem?_cons_succ]; rfl) (by rfl) (fun w hS => ?_) ?_
      rotate_left
      · go_simp <;> with_reducible rfl
      simp only [Act.put, List.setIfInBounds_toArray, List.set_cons_zero, List.set_cons_succ]
      refine chainH_take (v := ?_) (by simp only [List.getElem?_toArray, List.getElem?_cons_zero, List.getElem?_cons_succ]; rfl) (by rfl) (fun w hS => ?_) ?_
      rotate_left
      · go_simp <;> with_reducible rfl
      simp only [Act.put, List.setIfInBounds_toArray, List.set_cons_zero, List.set_cons_succ]
      refine chainH_take (v := ?_) (by simp only [List.getElem?_toArray, List.getElem?_cons_zero, List.getElem?_cons_succ]; rfl) (by rfl) (fun w hS => ?_) ?_
      rotate_left
      · go_simp <;> with_reducible rfl
      simp only [Act.put, List.setIfInBounds_toArray, List.set_cons_zero, List.set_cons_succ]
      refine chainH_take (v := ?_) (by simp only [List.getElem?_toArray, List.getElem?_cons_zero, List.getElem?_cons_succ]; rfl) (by rfl) (fun w hS => ?_) ?_
      rotate_left
      · obtain ⟨a0, a1, a2, -⟩ := whole3 (HP.out.later hS); go_simp <;> with_reducible rfl
      simp only [Act.put, List.setIfInBounds_toArray, List.set_cons_zero, List.set_cons_succ]
      refine chainH_take (v := ?_) (by simp only [List.getElem?_toArray, List.getElem?_cons_zero, List.getElem?_cons_succ]; rfl) (by rfl) (fun w hS => ?_) ?_
      rotate_left
      · obtain ⟨a0, a1, a2, -⟩ := whole3 (HP.out.later hS); go_simp <;> with_reducible rfl
      simp only [Act.put, List.setIfInBounds_toArray, List.set_cons_zero, List.set_cons_succ]
      refine chainH_alone (by simp only [List.getElem?_toArray, List.getElem?_cons_zero, List.getElem?_cons_succ]; rfl) ?_
      intro K hK
      go_wp2_with fail
      refine (with_any f g b m true hf hm _).mono ?_
      rintro e z2 ⟨rfl, hb⟩
      rw [HX1.out]
      have Bz2 : Below U.heap.size U z2 := Bz1.trans (hb.mono Bz1.size)
      clear hb
      go_wp2
      refine hK.out _ _ Bz2 ?_
      clear hK K
      refine chainH_alone (by simp only [List.getElem?_toArray, List.getElem?_cons_zero, List.getElem?_cons_succ]; rfl) ?_
      intro K hK
      go_wp2_with fail
      refine (with_any X g b m false hX hm _).mono ?_
      rintro e z3 ⟨rfl, hb⟩
      rw [HX2.out]
      have Bz3 : Below U.heap.size U z3 := Bz2.trans (hb.mono Bz2.size)
      clear hb
      go_wp2
      refine hK.out _ _ Bz3 ?_
      clear hK K
      refine chainH_alone (by simp only [List.getElem?_toArray, List.getElem?_cons_zero, List.getElem?_cons_succ]; rfl) ?_
      intro K hK
      go_wp2_with fail
      refine (with_any f g b m false hf hm _).mono ?_
      rintro e z4 ⟨rfl, hb⟩
      rw [HY1.out]
      have Bz4 : Below U.heap.size U z4 := Bz3.trans (hb.mono Bz3.size)
      clear hb
      go_wp2
      refine hK.out _ _ Bz4 ?_
      clear hK K
      refine chainH_alone (by simp only [List.getElem?_toArray, List.getElem?_cons_zero, List.getElem?_cons_succ]; rfl) ?_
      intro K hK
      go_wp2
      refine hK.out _ _ Bz4 ?_
      clear hK K
      refine chainH_alone (by simp only [List.getElem?_toArray, List.getElem?_cons_zero, List.getElem?_cons_succ]; rfl) ?_
      intro K hK
      go_wp2
      refine hK.out _ _ Bz4 ?_
      clear hK K
      refine chainH_alone (by simp only [List.getElem?_toArray, List.getElem?_cons_zero, List.getElem?_cons_succ]; rfl) ?_
      intro K hK
      go_wp2
      refine hK.out _ _ Bz4 ?_
      clear hK K
      refine chainH_take (v := ?_) (by simp only [List.getElem?_toArray, List.getElem?_cons_zero, List.getElem?_cons_succ]; rfl) (by rfl) (fun w hS => ?_) ?_
      rotate_left
      · go_simp <;> with_reducible rfl
      simp only [Act.put, List.setIfInBounds_toArray, List.set_cons_zero, List.set_cons_succ]
      refine chainH_take (v := ?_) (by simp only [List.getElem?_toArray, List.getElem?_cons_zero, List.getElem?_cons_succ]; rfl) (by rfl) (fun w hS => ?_) ?_
      rotate_left
      · go_simp <;> with_reducible rfl
      simp only [Act.put, List.setIfInBounds_toArray, List.set_cons_zero, List.set_cons_succ]
      refine chainH_take (v := ?_) (by simp only [List.getElem?_toArray, List.getElem?_cons_zero, List.getElem?_cons_succ]; rfl) (by rfl) (fun w hS => ?_) ?_
      rotate_left
      · go_simp <;> with_reducible rfl
      simp only [Act.put, List.setIfInBounds_toArray, List.set_cons_zero, List.set_cons_succ]
      refine chainH_take (v := ?_) (by simp only [List.getElem?_toArray, List.getElem?_cons_zero, List.getElem?_cons_succ]; rfl) (by rfl) (fun w hS => ?_) ?_
      rotate_left
      · obtain ⟨a0, a1, a2, -⟩ := whole3 (HP.out.later hS); go_simp <;> with_reducible rfl
      simp only [Act.put, List.setIfInBounds_toArray, List.set_cons_zero, List.set_cons_succ]
      refine chainH_take (v := ?_) (by simp only [List.getElem?_toArray, List.getElem?_cons_zero, List.getElem?_cons_succ]; rfl) (by rfl) (fun w hS => ?_) ?_
      rotate_left
      · obtain ⟨a0, a1, a2, -⟩ := whole3 (HP.out.later hS); go_simp <;> with_reducible rfl
      simp only [Act.put, List.setIfInBounds_toArray, List.set_cons_zero, List.set_cons_succ]
      refine chainH_alone (by simp only [List.getElem?_toArray, List.getElem?_cons_zero, List.getElem?_cons_succ]; rfl) ?_
      intro K hK
      go_wp2_with fail
      refine (with_any f g b m false hf hm _).mono ?_
      rintro e z5 ⟨rfl, hb⟩
      rw [HY1.out]
      have Bz5 : Below U.heap.size U z5 := Bz4.trans (hb.mono Bz4.size)
      clear hb
      go_wp2
      refine hK.out _ _ Bz5 ?_
      clear hK K
      refine chainH_alone (by simp only [List.getElem?_toArray, List.getElem?_cons_zero, List.getElem?_cons_succ]; rfl) ?_
      intro K hK
      go_wp2_with fail
      refine (with_any Y g b m true hY hm _).mono ?_
      rintro e z6 ⟨rfl, hb⟩
      rw [HY2.out]
      have Bz6 : Below U.heap.size U z6 := Bz5.trans (hb.mono Bz5.size)
      clear hb
      go_wp2
      refine hK.out _ _ Bz6 ?_
      clear hK K
      refine chainH_alone (by simp only [List.getElem?_toArray, List.getElem?_cons_zero, List.getElem?_cons_succ]; rfl) ?_
      intro K hK
      go_wp2_with fail
      refine (with_any f g b m true hf hm _).mono ?_
      rintro e z7 ⟨rfl, hb⟩
      rw [HX1.out]
      have Bz7 : Below U.heap.size U z7 := Bz6.trans (hb.mono Bz6.size)
      clear hb
      go_wp2
      refine hK.out _ _ Bz7 ?_
      clear hK K
      refine chainH_alone (by simp only [List.getElem?_toArray, List.getElem?_cons_zero, List.getElem?_cons_succ]; rfl) ?_
      intro K hK
      go_wp2
      refine hK.out _ _ Bz7 ?_
      clear hK K
      refine chainH_alone (by simp only [List.getElem?_toArray, List.getElem?_cons_zero, List.getElem?_cons_succ]; rfl) ?_
      intro K hK
      go_wp2
      refine hK.out _ _ Bz7 ?_
      clear hK K
      refine chainH_alone (by simp only [List.getElem?_toArray, List.getElem?_cons_zero, List.getElem?_cons_succ]; rfl) ?_
      intro K hK
      go_wp2
      refine hK.out _ _ Bz7 ?_
      clear hK K
      refine chainH_nil ?_
      have hbel4 := hbel3.trans (Bz7.mono hbel3.size)
      go_wp2
      go_ret
      exact ⟨rfl, hbel4⟩
end Go.Proofs.Ythedfbkkeolkmaa
