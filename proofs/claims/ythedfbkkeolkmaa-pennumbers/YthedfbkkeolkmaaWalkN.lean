/-
  The walk of the law PenNumbers.
-/
import Derived.Test.YthedfbkkeolkmaaOf
import Derived.Test.YthedfbkkeolkmaaRWith
import Derived.Test.YthedfbkkeolkmaaChainH
namespace Go.Proofs.Ythedfbkkeolkmaa
open Go.ChangeShapes Go.WideShapes Go.ChangeAt Go.RowKit
set_option linter.unusedVariables false

theorem num_bd (p : Pn) : -1 ≤ numN p ∧ numN p ≤ 16927 := by
  unfold numN
  split
  · rename_i h
    unfold rightN at h
    simp only [Bool.and_eq_true, decide_eq_true_eq] at h
    omega
  · omega
set_option maxRecDepth 100000 in
set_option maxHeartbeats 4000000 in
theorem penNumbers_walk (f g b : Nat) (n : Int) (w : World) (hn1 : -9223372036854775808 ≤ n) (hn2 : n < 9223372036854775808) :
    Calls Try.prog 4 #[.agg #[.int .u8 (f : Int), .int .u8 (g : Int), .int .u8 (b : Int)], .int .i64 n] w fun e w' => e = .returned (.bool true) ∧ Below w.heap.size w w' := by
  have e23 := eql23
  have n27 := neq27
  have es := eqP_self
  have tt : (true != true) = false := rfl
  obtain ⟨N, hN⟩ : ∃ N, numN ⟨f, g, b⟩ = N := ⟨_, rfl⟩
  have hNb := num_bd ⟨f, g, b⟩
  rw [hN] at hNb
  have hN1 : -9223372036854775808 ≤ N := by omega
  have hN2 : N < 9223372036854775808 := by omega
  have nn : (N != N) = false := by simp
  have n2 : (n != n) = false := by simp
  have HP0 := hide (Whole.new w 23 [.int .u8 (f : Int), .int .u8 (g : Int), .int .u8 (b : Int)])
  obtain ⟨⟨⟨F, G, B⟩, ok⟩, hq⟩ : ∃ x, ofN n = x := ⟨_, rfl⟩
  have hqn : ok = true → numN ⟨F, G, B⟩ = n := fun h => by subst h; exact (ofN_true n _ hq).2
  have HQN := hide hqn
  have HQ0 := hide hq
  have HN1 := hide hN
  clear hq hN hqn
  have HOT : Hid (rightN ⟨f, g, b⟩ = true → ofN N = (⟨f, g, b⟩, true)) := fun h => by rw [← HN1.out]; exact ofN_numN _ h
  have HOF : Hid (rightN ⟨f, g, b⟩ = false → ofN N = (⟨0, 0, 0⟩, false)) := fun h => by rw [← HN1.out]; exact ofN_not _ h
  obtain ⟨rt, hrt⟩ : ∃ x, rightN ⟨f, g, b⟩ = x := ⟨_, rfl⟩
  rw [hrt] at HOT HOF
  have HRt := hide hrt
  clear hrt
  clear hNb
  go_enter Try.func4, Try.ntmps4
  go_wp2_with fail
  refine (of_any n hn1 hn2 _).mono ?_
  rintro e w1 ⟨rfl, hb1⟩
  rw [HQ0.out]
  have HP1 := hide ((HP0.out.later hb1).alloc (.cells #[.int .u8 (F : Int), .int .u8 (G : Int), .int .u8 (B : Int)] 23))
  have HQ1 := hide (Whole.new w1 23 [.int .u8 (F : Int), .int .u8 (G : Int), .int .u8 (B : Int)])
  have hb1' : Below w.heap.size w w1 := ((Below.refl w.heap.size w).alloc (Nat.le_refl _) _).trans (hb1.mono (by simp))
  have hbel1 := hb1'.alloc hb1'.size (.cells #[.int .u8 (F : Int), .int .u8 (G : Int), .int .u8 (B : Int)] 23)
  clear hb1 hb1' HP0
  go_wp2_with fail
  refine (rof_any n _).mono ?_
  rintro e w2 ⟨rfl, hb2⟩
  rw [HQ0.out]
  have HP := hide ((HP1.out.later hb2).alloc (.cells #[.int .u8 (F : Int), .int .u8 (G : Int), .int .u8 (B : Int)] 27))
  have HQ := hide ((HQ1.out.later hb2).alloc (.cells #[.int .u8 (F : Int), .int .u8 (G : Int), .int .u8 (B : Int)] 27))
  have HR := hide (Whole.new w2 27 [.int .u8 (F : Int), .int .u8 (G : Int), .int .u8 (B : Int)])
  have hb2' := hbel1.trans (hb2.mono hbel1.size)
  have hbel := hb2'.alloc hb2'.size (.cells #[.int .u8 (F : Int), .int .u8 (G : Int), .int .u8 (B : Int)] 27)
  clear hb2 hb2' hbel1 HP1 HQ1
  cases ok
  · have HN2 : Hid (True) := trivial
    clear HQN
    go_wp2
    generalize w2.alloc (.cells #[.int .u8 (F : Int), .int .u8 (G : Int), .int .u8 (B : Int)] 27) = W at *
    go_wp2
    refine wp_region_chainH (fun w' => Below W.heap.size W w') [(true, 0), (true, 2), (false, 1), (false, 3), (false, 4), (false, 5), (true, 6), (false, 7), (false, 8), (false, 9), (false, 10), (true, 11), (false, 12), (false, 13), (false, 14), (false, 15), (false, 16), (false, 17), (true, 20), (false, 18), (false, 19), (false, 21), (false, 22), (false, 23)] (by kernel_rfl) (by kernel_rfl) (by kernel_rfl) (fun _ _ _ _ _ h => h) ?_ ?_
    · exact (Below.refl _ _).drewN 1
    refine chainH_take (v := ?_) (by simp only [List.getElem?_toArray, List.getElem?_cons_zero]; rfl) (by rfl) (fun w hS => ?_) ?_
    rotate_left
    · obtain ⟨a0, a1, a2, -⟩ := whole3 (HP.out.later hS); go_simp <;> with_reducible rfl
    simp only [Act.put, List.setIfInBounds_toArray, List.set_cons_zero, List.set_cons_succ]
    refine chainH_take (v := ?_) (by simp only [List.getElem?_toArray, List.getElem?_cons_zero, List.getElem?_cons_succ]; rfl) (by rfl) (fun w hS => ?_) ?_
    rotate_left
    · obtain ⟨a0, a1, a2, -⟩ := whole3 (HP.out.later hS); go_simp <;> with_reducible rfl
    simp only [Act.put, List.setIfInBounds_toArray, List.set_cons_zero, List.set_cons_succ]
    refine chainH_alone (by simp only [List.getElem?_toArray, List.getElem?_cons_zero, List.getElem?_cons_succ]; rfl) ?_
    intro K hK
    go_wp2_with fail
    refine (number_any f g b _).mono ?_
    rintro e w5 ⟨rfl, hb⟩
    rw [HN1.out]
    have Bw5 : Below W.heap.size W w5 := ((Below.refl _ _).drewN 1).trans hb
    clear hb
    go_wp2
    refine hK.out _ _ Bw5 ?_
    clear hK K
    refine chainH_alone (by simp only [List.getElem?_toArray, List.getElem?_cons_zero, List.getElem?_cons_succ]; rfl) ?_
    intro K hK
    go_wp2_with fail
    refine (rnumber_any f g b _).mono ?_
    rintro e w6 ⟨rfl, hb⟩
    rw [HN1.out]
    have Bw6 : Below W.heap.size W w6 := Bw5.trans (hb.mono Bw5.size)
    clear hb
    obtain ⟨i0, i1, i2, -⟩ := whole3 (HQ.out.later Bw6)
    obtain ⟨j0, j1, j2, -⟩ := whole3 (HR.out.later Bw6)
    go_wp2
    refine hK.out _ _ Bw6 ?_
    clear hK K
    refine chainH_alone (by simp only [List.getElem?_toArray, List.getElem?_cons_zero, List.getElem?_cons_succ]; rfl) ?_
    intro K hK
    go_wp2
    refine hK.out _ _ Bw6 ?_
    clear hK K
    refine chainH_alone (by simp only [List.getElem?_toArray, List.getElem?_cons_zero, List.getElem?_cons_succ]; rfl) ?_
    intro K hK
    go_wp2
    refine hK.out _ _ Bw6 ?_
    clear hK K
    refine chainH_take (v := ?_) (by simp only [List.getElem?_toArray, List.getElem?_cons_zero, List.getElem?_cons_succ]; rfl) (by rfl) (fun w hS => ?_) ?_
    rotate_left
    · obtain ⟨a0, a1, a2, -⟩ := whole3 (HQ.out.later hS); go_simp <;> with_reducible rfl
    simp only [Act.put, List.setIfInBounds_toArray, List.set_cons_zero, List.set_cons_succ]
    refine chainH_alone (by simp only [List.getElem?_toArray, List.getElem?_cons_zero, List.getElem?_cons_succ]; rfl) ?_
    intro K hK
    go_wp2
    refine hK.out _ _ Bw6 ?_
    clear hK K
    refine chainH_alone (by simp only [List.getElem?_toArray, List.getElem?_cons_zero, List.getElem?_cons_succ]; rfl) ?_
    intro K hK
    go_wp2
    refine hK.out _ _ Bw6 ?_
    clear hK K
    refine chainH_alone (by simp only [List.getElem?_toArray, List.getElem?_cons_zero, List.getElem?_cons_succ]; rfl) ?_
    intro K hK
    go_wp2
    refine hK.out _ _ Bw6 ?_
    clear hK K
    refine chainH_alone (by simp only [List.getElem?_toArray, List.getElem?_cons_zero, List.getElem?_cons_succ]; rfl) ?_
    intro K hK
    go_wp2
    refine hK.out _ _ Bw6 ?_
    clear hK K
    refine chainH_take (v := ?_) (by simp only [List.getElem?_toArray, List.getElem?_cons_zero, List.getElem?_cons_succ]; rfl) (by rfl) (fun w hS => ?_) ?_
    rotate_left
    · go_simp <;> with_reducible rfl
    simp only [Act.put, List.setIfInBounds_toArray, List.set_cons_zero, List.set_cons_succ]
    refine chainH_alone (by simp only [List.getElem?_toArray, List.getElem?_cons_zero, List.getElem?_cons_succ]; rfl) ?_
    intro K hK
    go_wp2
    refine hK.out _ _ Bw6 ?_
    clear hK K
    refine chainH_alone (by simp only [List.getElem?_toArray, List.getElem?_cons_zero, List.getElem?_cons_succ]; rfl) ?_
    intro K hK
    go_wp2
    refine hK.out _ _ Bw6 ?_
    clear hK K
    refine chainH_alone (by simp only [List.getElem?_toArray, List.getElem?_cons_zero, List.getElem?_cons_succ]; rfl) ?_
    intro K hK
    go_wp2
    refine hK.out _ _ Bw6 ?_
    clear hK K
    refine chainH_alone (by simp only [List.getElem?_toArray, List.getElem?_cons_zero, List.getElem?_cons_succ]; rfl) ?_
    intro K hK
    go_wp2
    refine hK.out _ _ Bw6 ?_
    clear hK K
    refine chainH_alone (by simp only [List.getElem?_toArray, List.getElem?_cons_zero, List.getElem?_cons_succ]; rfl) ?_
    intro K hK
    go_wp2
    refine hK.out _ _ Bw6 ?_
    clear hK K
    refine chainH_alone (by simp only [List.getElem?_toArray, List.getElem?_cons_zero, List.getElem?_cons_succ]; rfl) ?_
    intro K hK
    go_wp2
    refine hK.out _ _ Bw6 ?_
    clear hK K
    refine chainH_skip (by simp only [List.getElem?_toArray, List.getElem?_cons_zero, List.getElem?_cons_succ]; rfl) (by rfl) ?_
    simp only [Act.put, List.setIfInBounds_toArray, List.set_cons_zero, List.set_cons_succ]
    refine chainH_pass (by simp only [List.getElem?_toArray, List.getElem?_cons_zero, List.getElem?_cons_succ]; rfl) (by rfl) Bw6 ?_
    simp only [Act.put, List.setIfInBounds_toArray, List.set_cons_zero, List.set_cons_succ]
    refine chainH_pass (by simp only [List.getElem?_toArray, List.getElem?_cons_zero, List.getElem?_cons_succ]; rfl) (by rfl) Bw6 ?_
    simp only [Act.put, List.setIfInBounds_toArray, List.set_cons_zero, List.set_cons_succ]
    refine chainH_pass (by simp only [List.getElem?_toArray, List.getElem?_cons_zero, List.getElem?_cons_succ]; rfl) (by rfl) Bw6 ?_
    simp only [Act.put, List.setIfInBounds_toArray, List.set_cons_zero, List.set_cons_succ]
    refine chainH_alone (by simp only [List.getElem?_toArray, List.getElem?_cons_zero, List.getElem?_cons_succ]; rfl) ?_
    intro K hK
    go_wp2
    refine hK.out _ _ Bw6 ?_
    clear hK K
    refine chainH_alone (by simp only [List.getElem?_toArray, List.getElem?_cons_zero, List.getElem?_cons_succ]; rfl) ?_
    intro K hK
    go_wp2
    refine hK.out _ _ Bw6 ?_
    clear hK K
    refine chainH_nil ?_
    replace HP := hide (HP.out.later Bw6)
    have hbel2 := hbel.trans (Bw6.mono hbel.size)
    clear HQ HR hbel
    obtain ⟨p0, p1, p2, -⟩ := whole3 HP.out
    go_wp2_with fail
    cases rt
    · have HO := hide (HOF.out rfl)
      refine (number_any f g b _).mono ?_
      rintro e w8 ⟨rfl, hb8⟩
      rw [HN1.out]
      have hb8' := hbel2.trans (hb8.mono hbel2.size)
      replace HP := hide (HP.out.later hb8)
      clear hb8 hbel2
      go_wp2_with fail
      refine (of_any N hN1 hN2 _).mono ?_
      rintro e w9 ⟨rfl, hb9⟩
      rw [HO.out]
      have hb9' := (hb8'.trans (hb9.mono hb8'.size)).alloc (hb8'.trans (hb9.mono hb8'.size)).size (.cells #[.int .u8 0, .int .u8 0, .int .u8 0] 23)
      replace HP := hide ((HP.out.later hb9).alloc (.cells #[.int .u8 0, .int .u8 0, .int .u8 0] 23))
      have HX := hide (Whole.new w9 23 [.int .u8 0, .int .u8 0, .int .u8 0])
      have sz : w9.heap.size < (w9.alloc (.cells #[.int .u8 0, .int .u8 0, .int .u8 0] 23)).heap.size := by simp
      clear hb9 hb8'
      go_wp2_with fail
      refine (known_any _).mono ?_
      rintro e w10 ⟨rfl, hb10⟩
      have hb10' := hb9'.trans (hb10.mono hb9'.size)
      replace HP := hide (HP.out.later hb10)
      replace HX := hide (HX.out.later hb10)
      obtain ⟨i0, i1, i2, -⟩ := whole3 HP.out
      clear hb9' hb10
      go_wp2_with fail
      refine (right_any f g b _).mono ?_
      rintro e w11 ⟨rfl, hb11⟩
      rw [HRt.out]
      replace HP := hide (HP.out.later hb11)
      replace HX := hide (HX.out.later hb11)
      have hbz := hb10'.trans (hb11.mono hb10'.size)
      clear i0 i1 i2
      obtain ⟨i0, i1, i2, -⟩ := whole3 HP.out
      obtain ⟨j0, j1, j2, -⟩ := whole3 HX.out
      clear hb10' hb11
      go_wp2
      go_ret
      exact ⟨rfl, hbz⟩
    · have HO := hide (HOT.out rfl)
      refine (number_any f g b _).mono ?_
      rintro e w8 ⟨rfl, hb8⟩
      rw [HN1.out]
      have hb8' := hbel2.trans (hb8.mono hbel2.size)
      replace HP := hide (HP.out.later hb8)
      clear hb8 hbel2
      go_wp2_with fail
      refine (of_any N hN1 hN2 _).mono ?_
      rintro e w9 ⟨rfl, hb9⟩
      rw [HO.out]
      have hb9' := (hb8'.trans (hb9.mono hb8'.size)).alloc (hb8'.trans (hb9.mono hb8'.size)).size (.cells #[.int .u8 (f : Int), .int .u8 (g : Int), .int .u8 (b : Int)] 23)
      replace HP := hide ((HP.out.later hb9).alloc (.cells #[.int .u8 (f : Int), .int .u8 (g : Int), .int .u8 (b : Int)] 23))
      have HX := hide (Whole.new w9 23 [.int .u8 (f : Int), .int .u8 (g : Int), .int .u8 (b : Int)])
      have sz : w9.heap.size < (w9.alloc (.cells #[.int .u8 (f : Int), .int .u8 (g : Int), .int .u8 (b : Int)] 23)).heap.size := by simp
      clear hb9 hb8'
      go_wp2_with fail
      refine (known_any _).mono ?_
      rintro e w10 ⟨rfl, hb10⟩
      have hb10' := hb9'.trans (hb10.mono hb9'.size)
      replace HP := hide (HP.out.later hb10)
      replace HX := hide (HX.out.later hb10)
      obtain ⟨i0, i1, i2, -⟩ := whole3 HP.out
      clear hb9' hb10
      go_wp2_with fail
      refine (right_any f g b _).mono ?_
      rintro e w11 ⟨rfl, hb11⟩
      rw [HRt.out]
      replace HP := hide (HP.out.later hb11)
      replace HX := hide (HX.out.later hb11)
      have hbz := hb10'.trans (hb11.mono hb10'.size)
      clear i0 i1 i2
      obtain ⟨i0, i1, i2, -⟩ := whole3 HP.out
      obtain ⟨j0, j1, j2, -⟩ := whole3 HX.out
      clear hb10' hb11
      go_wp2
      go_ret
      exact ⟨rfl, hbz⟩
  · have HN2 := hide (HQN.out rfl)
    clear HQN
    go_wp2
    generalize w2.alloc (.cells #[.int .u8 (F : Int), .int .u8 (G : Int), .int .u8 (B : Int)] 27) = W at *
    go_wp2
    refine wp_region_chainH (fun w' => Below W.heap.size W w') [(true, 0), (true, 2), (false, 1), (false, 3), (false, 4), (false, 5), (true, 6), (false, 7), (false, 8), (false, 9), (false, 10), (true, 11), (false, 12), (false, 13), (false, 14), (false, 15), (false, 16), (false, 17), (true, 20), (false, 18), (false, 19), (false, 21), (false, 22), (false, 23)] (by kernel_rfl) (by kernel_rfl) (by kernel_rfl) (fun _ _ _ _ _ h => h) ?_ ?_
    · exact (Below.refl _ _).drewN 1
    refine chainH_take (v := ?_) (by simp only [List.getElem?_toArray, List.getElem?_cons_zero]; rfl) (by rfl) (fun w hS => ?_) ?_
    rotate_left
    · obtain ⟨a0, a1, a2, -⟩ := whole3 (HP.out.later hS); go_simp <;> with_reducible rfl
    simp only [Act.put, List.setIfInBounds_toArray, List.set_cons_zero, List.set_cons_succ]
    refine chainH_take (v := ?_) (by simp only [List.getElem?_toArray, List.getElem?_cons_zero, List.getElem?_cons_succ]; rfl) (by rfl) (fun w hS => ?_) ?_
    rotate_left
    · obtain ⟨a0, a1, a2, -⟩ := whole3 (HP.out.later hS); go_simp <;> with_reducible rfl
    simp only [Act.put, List.setIfInBounds_toArray, List.set_cons_zero, List.set_cons_succ]
    refine chainH_alone (by simp only [List.getElem?_toArray, List.getElem?_cons_zero, List.getElem?_cons_succ]; rfl) ?_
    intro K hK
    go_wp2_with fail
    refine (number_any f g b _).mono ?_
    rintro e w5 ⟨rfl, hb⟩
    rw [HN1.out]
    have Bw5 : Below W.heap.size W w5 := ((Below.refl _ _).drewN 1).trans hb
    clear hb
    go_wp2
    refine hK.out _ _ Bw5 ?_
    clear hK K
    refine chainH_alone (by simp only [List.getElem?_toArray, List.getElem?_cons_zero, List.getElem?_cons_succ]; rfl) ?_
    intro K hK
    go_wp2_with fail
    refine (rnumber_any f g b _).mono ?_
    rintro e w6 ⟨rfl, hb⟩
    rw [HN1.out]
    have Bw6 : Below W.heap.size W w6 := Bw5.trans (hb.mono Bw5.size)
    clear hb
    obtain ⟨i0, i1, i2, -⟩ := whole3 (HQ.out.later Bw6)
    obtain ⟨j0, j1, j2, -⟩ := whole3 (HR.out.later Bw6)
    go_wp2
    refine hK.out _ _ Bw6 ?_
    clear hK K
    refine chainH_alone (by simp only [List.getElem?_toArray, List.getElem?_cons_zero, List.getElem?_cons_succ]; rfl) ?_
    intro K hK
    go_wp2
    refine hK.out _ _ Bw6 ?_
    clear hK K
    refine chainH_alone (by simp only [List.getElem?_toArray, List.getElem?_cons_zero, List.getElem?_cons_succ]; rfl) ?_
    intro K hK
    go_wp2
    refine hK.out _ _ Bw6 ?_
    clear hK K
    refine chainH_take (v := ?_) (by simp only [List.getElem?_toArray, List.getElem?_cons_zero, List.getElem?_cons_succ]; rfl) (by rfl) (fun w hS => ?_) ?_
    rotate_left
    · obtain ⟨a0, a1, a2, -⟩ := whole3 (HQ.out.later hS); go_simp <;> with_reducible rfl
    simp only [Act.put, List.setIfInBounds_toArray, List.set_cons_zero, List.set_cons_succ]
    refine chainH_alone (by simp only [List.getElem?_toArray, List.getElem?_cons_zero, List.getElem?_cons_succ]; rfl) ?_
    intro K hK
    go_wp2
    refine hK.out _ _ Bw6 ?_
    clear hK K
    refine chainH_alone (by simp only [List.getElem?_toArray, List.getElem?_cons_zero, List.getElem?_cons_succ]; rfl) ?_
    intro K hK
    go_wp2
    refine hK.out _ _ Bw6 ?_
    clear hK K
    refine chainH_alone (by simp only [List.getElem?_toArray, List.getElem?_cons_zero, List.getElem?_cons_succ]; rfl) ?_
    intro K hK
    go_wp2
    refine hK.out _ _ Bw6 ?_
    clear hK K
    refine chainH_alone (by simp only [List.getElem?_toArray, List.getElem?_cons_zero, List.getElem?_cons_succ]; rfl) ?_
    intro K hK
    go_wp2
    refine hK.out _ _ Bw6 ?_
    clear hK K
    refine chainH_take (v := ?_) (by simp only [List.getElem?_toArray, List.getElem?_cons_zero, List.getElem?_cons_succ]; rfl) (by rfl) (fun w hS => ?_) ?_
    rotate_left
    · go_simp <;> with_reducible rfl
    simp only [Act.put, List.setIfInBounds_toArray, List.set_cons_zero, List.set_cons_succ]
    refine chainH_alone (by simp only [List.getElem?_toArray, List.getElem?_cons_zero, List.getElem?_cons_succ]; rfl) ?_
    intro K hK
    go_wp2
    refine hK.out _ _ Bw6 ?_
    clear hK K
    refine chainH_alone (by simp only [List.getElem?_toArray, List.getElem?_cons_zero, List.getElem?_cons_succ]; rfl) ?_
    intro K hK
    go_wp2
    refine hK.out _ _ Bw6 ?_
    clear hK K
    refine chainH_alone (by simp only [List.getElem?_toArray, List.getElem?_cons_zero, List.getElem?_cons_succ]; rfl) ?_
    intro K hK
    go_wp2
    refine hK.out _ _ Bw6 ?_
    clear hK K
    refine chainH_alone (by simp only [List.getElem?_toArray, List.getElem?_cons_zero, List.getElem?_cons_succ]; rfl) ?_
    intro K hK
    go_wp2
    refine hK.out _ _ Bw6 ?_
    clear hK K
    refine chainH_alone (by simp only [List.getElem?_toArray, List.getElem?_cons_zero, List.getElem?_cons_succ]; rfl) ?_
    intro K hK
    go_wp2
    refine hK.out _ _ Bw6 ?_
    clear hK K
    refine chainH_alone (by simp only [List.getElem?_toArray, List.getElem?_cons_zero, List.getElem?_cons_succ]; rfl) ?_
    intro K hK
    go_wp2
    refine hK.out _ _ Bw6 ?_
    clear hK K
    refine chainH_take (v := ?_) (by simp only [List.getElem?_toArray, List.getElem?_cons_zero, List.getElem?_cons_succ]; rfl) (by rfl) (fun w hS => ?_) ?_
    rotate_left
    · go_simp <;> with_reducible rfl
    simp only [Act.put, List.setIfInBounds_toArray, List.set_cons_zero, List.set_cons_succ]
    refine chainH_alone (by simp only [List.getElem?_toArray, List.getElem?_cons_zero, List.getElem?_cons_succ]; rfl) ?_
    intro K hK
    go_wp2
    refine hK.out _ _ Bw6 ?_
    clear hK K
    refine chainH_alone (by simp only [List.getElem?_toArray, List.getElem?_cons_zero, List.getElem?_cons_succ]; rfl) ?_
    intro K hK
    go_wp2_with fail
    refine (number_any F G B _).mono ?_
    rintro e w7 ⟨rfl, hb⟩
    rw [HN2.out]
    have Bw7 : Below W.heap.size W w7 := Bw6.trans (hb.mono Bw6.size)
    clear hb
    go_wp2
    refine hK.out _ _ Bw7 ?_
    clear hK K
    refine chainH_alone (by simp only [List.getElem?_toArray, List.getElem?_cons_zero, List.getElem?_cons_succ]; rfl) ?_
    intro K hK
    go_wp2
    refine hK.out _ _ Bw7 ?_
    clear hK K
    refine chainH_alone (by simp only [List.getElem?_toArray, List.getElem?_cons_zero, List.getElem?_cons_succ]; rfl) ?_
    intro K hK
    go_wp2
    refine hK.out _ _ Bw7 ?_
    clear hK K
    refine chainH_alone (by simp only [List.getElem?_toArray, List.getElem?_cons_zero, List.getElem?_cons_succ]; rfl) ?_
    intro K hK
    go_wp2
    refine hK.out _ _ Bw7 ?_
    clear hK K
    refine chainH_nil ?_
    replace HP := hide (HP.out.later Bw7)
    have hbel2 := hbel.trans (Bw7.mono hbel.size)
    clear HQ HR hbel
    obtain ⟨p0, p1, p2, -⟩ := whole3 HP.out
    go_wp2_with fail
    cases rt
    · have HO := hide (HOF.out rfl)
      refine (number_any f g b _).mono ?_
      rintro e w8 ⟨rfl, hb8⟩
      rw [HN1.out]
      have hb8' := hbel2.trans (hb8.mono hbel2.size)
      replace HP := hide (HP.out.later hb8)
      clear hb8 hbel2
      go_wp2_with fail
      refine (of_any N hN1 hN2 _).mono ?_
      rintro e w9 ⟨rfl, hb9⟩
      rw [HO.out]
      have hb9' := (hb8'.trans (hb9.mono hb8'.size)).alloc (hb8'.trans (hb9.mono hb8'.size)).size (.cells #[.int .u8 0, .int .u8 0, .int .u8 0] 23)
      replace HP := hide ((HP.out.later hb9).alloc (.cells #[.int .u8 0, .int .u8 0, .int .u8 0] 23))
      have HX := hide (Whole.new w9 23 [.int .u8 0, .int .u8 0, .int .u8 0])
      have sz : w9.heap.size < (w9.alloc (.cells #[.int .u8 0, .int .u8 0, .int .u8 0] 23)).heap.size := by simp
      clear hb9 hb8'
      go_wp2_with fail
      refine (known_any _).mono ?_
      rintro e w10 ⟨rfl, hb10⟩
      have hb10' := hb9'.trans (hb10.mono hb9'.size)
      replace HP := hide (HP.out.later hb10)
      replace HX := hide (HX.out.later hb10)
      obtain ⟨i0, i1, i2, -⟩ := whole3 HP.out
      clear hb9' hb10
      go_wp2_with fail
      refine (right_any f g b _).mono ?_
      rintro e w11 ⟨rfl, hb11⟩
      rw [HRt.out]
      replace HP := hide (HP.out.later hb11)
      replace HX := hide (HX.out.later hb11)
      have hbz := hb10'.trans (hb11.mono hb10'.size)
      clear i0 i1 i2
      obtain ⟨i0, i1, i2, -⟩ := whole3 HP.out
      obtain ⟨j0, j1, j2, -⟩ := whole3 HX.out
      clear hb10' hb11
      go_wp2
      go_ret
      exact ⟨rfl, hbz⟩
    · have HO := hide (HOT.out rfl)
      refine (number_any f g b _).mono ?_
      rintro e w8 ⟨rfl, hb8⟩
      rw [HN1.out]
      have hb8' := hbel2.trans (hb8.mono hbel2.size)
      replace HP := hide (HP.out.later hb8)
      clear hb8 hbel2
      go_wp2_with fail
      refine (of_any N hN1 hN2 _).mono ?_
      rintro e w9 ⟨rfl, hb9⟩
      rw [HO.out]
      have hb9' := (hb8'.trans (hb9.mono hb8'.size)).alloc (hb8'.trans (hb9.mono hb8'.size)).size (.cells #[.int .u8 (f : Int), .int .u8 (g : Int), .int .u8 (b : Int)] 23)
      replace HP := hide ((HP.out.later hb9).alloc (.cells #[.int .u8 (f : Int), .int .u8 (g : Int), .int .u8 (b : Int)] 23))
      have HX := hide (Whole.new w9 23 [.int .u8 (f : Int), .int .u8 (g : Int), .int .u8 (b : Int)])
      have sz : w9.heap.size < (w9.alloc (.cells #[.int .u8 (f : Int), .int .u8 (g : Int), .int .u8 (b : Int)] 23)).heap.size := by simp
      clear hb9 hb8'
      go_wp2_with fail
      refine (known_any _).mono ?_
      rintro e w10 ⟨rfl, hb10⟩
      have hb10' := hb9'.trans (hb10.mono hb9'.size)
      replace HP := hide (HP.out.later hb10)
      replace HX := hide (HX.out.later hb10)
      obtain ⟨i0, i1, i2, -⟩ := whole3 HP.out
      clear hb9' hb10
      go_wp2_with fail
      refine (right_any f g b _).mono ?_
      rintro e w11 ⟨rfl, hb11⟩
      rw [HRt.out]
      replace HP := hide (HP.out.later hb11)
      replace HX := hide (HX.out.later hb11)
      have hbz := hb10'.trans (hb11.mono hb10'.size)
      clear i0 i1 i2
      obtain ⟨i0, i1, i2, -⟩ := whole3 HP.out
      obtain ⟨j0, j1, j2, -⟩ := whole3 HX.out
      clear hb10' hb11
      go_wp2
      go_ret
      exact ⟨rfl, hbz⟩
end Go.Proofs.Ythedfbkkeolkmaa
