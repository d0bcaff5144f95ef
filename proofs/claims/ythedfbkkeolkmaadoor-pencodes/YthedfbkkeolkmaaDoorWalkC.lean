/-
  The walk of the law PenCodes.
-/
import Derived.Test.YthedfbkkeolkmaaDoorRCod
namespace Go.Proofs.YthedfbkkeolkmaaDoor
open Go.ChangeShapes Go.WideShapes Go.ChangeAt Go.RowKit
set_option linter.unusedVariables false

set_option maxRecDepth 100000 in
set_option maxHeartbeats 4000000 in
theorem penCodes_walk (f g b : Nat) (hp0 : Pn.ok ⟨f, g, b⟩) (F G B : Nat) (hq0 : Pn.ok ⟨F, G, B⟩) (w : World) (hS0 : Flags w) :
    Calls Tryd.prog 3 #[.agg #[.int .u8 (f : Int), .int .u8 (g : Int), .int .u8 (b : Int)], .agg #[.int .u8 (F : Int), .int .u8 (G : Int), .int .u8 (B : Int)]] w fun e w' => e = .returned (.bool true) ∧ Below w.heap.size w w' := by
  have e23 := eql23
  have es := eqP_self
  have hq := hide hq0
  clear hq0 hp0
  obtain ⟨C, hC⟩ : ∃ C, codesN ⟨f, g, b⟩ = C := ⟨_, rfl⟩
  have hCl := codesN_len ⟨f, g, b⟩
  rw [hC] at hCl
  have HCl : Hid (C.length ≤ 1000000) := by unfold Hid; omega
  obtain ⟨rt, hrt⟩ : ∃ x, rightN ⟨f, g, b⟩ = x := ⟨_, rfl⟩
  have HRT : Hid (rt = true → turnN ⟨F, G, B⟩ C = ⟨f, g, b⟩) := fun h => by rw [← hC]; exact codes_make _ _ (hrt.trans h)
  have HRt := hide hrt
  have HCN := hide hC
  clear hC hrt
  have nn : ((C.length : Int) != (C.length : Int)) = false := by simp
  have HP := hide (two_whole w 23 [.int .u8 (f : Int), .int .u8 (g : Int), .int .u8 (b : Int)] (.cells #[.int .u8 (F : Int), .int .u8 (G : Int), .int .u8 (B : Int)] 23))
  have HQ := hide (whole_snd w (.cells #[.int .u8 (f : Int), .int .u8 (g : Int), .int .u8 (b : Int)] 23) 23 [.int .u8 (F : Int), .int .u8 (G : Int), .int .u8 (B : Int)])
  have HS := hide ((hS0.alloc (.cells #[.int .u8 (f : Int), .int .u8 (g : Int), .int .u8 (b : Int)] 23)).alloc (.cells #[.int .u8 (F : Int), .int .u8 (G : Int), .int .u8 (B : Int)] 23))
  have hbel := ((Below.refl w.heap.size w).alloc (Nat.le_refl _) (.cells #[.int .u8 (f : Int), .int .u8 (g : Int), .int .u8 (b : Int)] 23)).alloc (by simp) (.cells #[.int .u8 (F : Int), .int .u8 (G : Int), .int .u8 (B : Int)] 23)
  clear hS0
  go_enter Tryd.func3, Tryd.ntmps3
  go_wp2
  generalize (w.alloc (.cells #[.int .u8 (f : Int), .int .u8 (g : Int), .int .u8 (b : Int)] 23)).alloc (.cells #[.int .u8 (F : Int), .int .u8 (G : Int), .int .u8 (B : Int)] 23) = W at HP HQ HS hbel ⊢
  refine wp_region_chainH (fun w' => Below W.heap.size W w') [(true, 0), (true, 2), (false, 1), (false, 3), (false, 4), (false, 5)] (by kernel_rfl) (by kernel_rfl) (by kernel_rfl) (fun _ _ _ _ _ h => h) ?_ ?_
  · exact (Below.refl _ _).drewN 1
  refine chainH_take (v := ?_) (by simp only [List.getElem?_toArray, List.getElem?_cons_zero]; rfl) (by rfl) (fun w hS => ?_) ?_
  rotate_left
  · obtain ⟨a0, a1, a2, -⟩ := whole3 (HP.out.later hS); go_simp <;> with_reducible rfl
  simp only [Act.put, List.setIfInBounds_toArray, List.set_cons_zero, List.set_cons_succ]
  refine chainH_take (v := ?_) (by simp only [List.getElem?_toArray, List.getElem?_cons_zero, List.getElem?_cons_succ]; rfl) (by rfl) (fun w hS => ?_) ?_
  rotate_left
  · obtain ⟨a0, a1, a2, -⟩ := whole3 (HP.out.later hS); go_simp <;> with_reducible rfl
  simp only [Act.put, List.setIfInBounds_toArray, List.set_cons_zero, List.set_cons_succ]
  refine chainH_alone (by simp only [List.getElem?_toArray, List.getElem?_cons_zero, List.getElem?_cons_succ]; rfl) ?_
  intro K hK
  go_wp2_with fail
  refine (codes_any f g b _ HS.out.drew).mono ?_
  rintro e w1 ⟨v1, rfl, hv1⟩
  rw [HCN.out] at hv1
  have Bw1 : Below W.heap.size W w1 := ((Below.refl _ _).drewN 1).trans hv1.bel
  obtain ⟨A1, c1, rfl, hI1, hc1, -, -⟩ := hv1.form2
  have I1 := hide hI1
  clear hI1 hv1
  go_wp2
  refine hK.out _ _ Bw1 ?_
  clear hK K
  refine chainH_alone (by simp only [List.getElem?_toArray, List.getElem?_cons_zero, List.getElem?_cons_succ]; rfl) ?_
  intro K hK
  go_wp2_with fail
  refine (rcodes_any f g b _).mono ?_
  rintro e w2 ⟨v2, rfl, hv2⟩
  rw [HCN.out] at hv2
  have Bw2 : Below W.heap.size W w2 := Bw1.trans (hv2.bel.mono Bw1.size)
  have hI1w := hide (I1.out.below hv2.bel)
  obtain ⟨A2, c2, rfl, hI2, hc2, -, -⟩ := hv2.form2
  have I2 := hide hI2
  clear hI2 hv2
  go_wp2
  refine hK.out _ _ Bw2 ?_
  clear hK K
  refine chainH_alone (by simp only [List.getElem?_toArray, List.getElem?_cons_zero, List.getElem?_cons_succ]; rfl) ?_
  intro K hK
  go_wp2
  refine hK.out _ _ Bw2 ?_
  clear hK K
  refine chainH_alone (by simp only [List.getElem?_toArray, List.getElem?_cons_zero, List.getElem?_cons_succ]; rfl) ?_
  intro K hK
  go_wp2
  refine hK.out _ _ Bw2 ?_
  clear hK K
  refine chainH_nil ?_
  replace HP := hide (HP.out.later Bw2)
  replace HQ := hide (HQ.out.later Bw2)
  have hbel2 := hbel.trans (Bw2.mono hbel.size)
  have hb12 : Hid (Ints .i64 w2 A1 C) := hI1w
  clear hbel Bw1 Bw2 HS I1
  go_wp2
  go_loopw [7] (fun i wr => ∃ k : Nat, k ≤ C.length ∧ i = .int .i64 k ∧ Below w2.heap.size w2 wr) (fun i _ => C.length - (intOf i).toNat)
  case atStart => exact ⟨0, Nat.zero_le _, rfl, Below.refl _ _⟩
  case round =>
    obtain ⟨k, hk, rfl, hbr⟩ := hrel
    by_cases hlt : k < C.length
    · obtain ⟨b1, o1, rfl, q1, l1⟩ := (hb12.out.below hbr).at hlt
      obtain ⟨b2, o2, rfl, q2, l2⟩ := (I2.out.below hbr).at hlt
      obtain ⟨r, hr⟩ : ∃ r, C.getD k 0 = r := ⟨_, rfl⟩
      rw [hr] at q1 q2
      clear hr
      have rr : (r != r) = false := by simp
      have hlt' : (k : Int) < (C.length : Int) := by omega
      go_wp2
      go_quiet (fail)
      go_wp2
      go_roundw
      case rel => exact ⟨k + 1, by omega, by go_num, hbr.drewN nq⟩
      case measure => simp [intOf]; omega
    · have hge : ¬ (k : Int) < (C.length : Int) := by omega
      replace HP := hide (HP.out.later hbr)
      replace HQ := hide (HQ.out.later hbr)
      have I1 := hide (hb12.out.below hbr)
      have hbel := hbel2.trans (hbr.mono hbel2.size)
      clear hbr hbel2 hb12 I2
      generalize wr = U at *
      cases rt
      · clear HRT
        go_wp2
        refine wp_region_chainH (fun w' => Below U.heap.size U w') [(false, 0), (false, 1), (false, 2), (false, 3), (false, 4), (false, 5), (true, 7), (true, 6), (true, 9), (false, 8), (false, 10), (false, 11), (false, 12), (false, 13)] (by kernel_rfl) (by kernel_rfl) (by kernel_rfl) (fun _ _ _ _ _ h => h) ?_ ?_
        · exact (Below.refl _ _).drewN 1
        refine chainH_alone (by simp only [List.getElem?_toArray, List.getElem?_cons_zero]; rfl) ?_
        intro K hK
        go_wp2_with fail
        refine (known_any _).mono ?_
        rintro e z1 ⟨rfl, hb⟩
        have Bz1 : Below U.heap.size U z1 := ((Below.refl _ _).drewN 1).trans hb
        clear hb
        obtain ⟨j0, j1, j2, -⟩ := whole3 (HP.out.later Bz1)
        go_wp2
        refine hK.out _ _ Bz1 ?_
        clear hK K
        refine chainH_alone (by simp only [List.getElem?_toArray, List.getElem?_cons_zero, List.getElem?_cons_succ]; rfl) ?_
        intro K hK
        go_wp2
        refine hK.out _ _ Bz1 ?_
        clear hK K
        refine chainH_alone (by simp only [List.getElem?_toArray, List.getElem?_cons_zero, List.getElem?_cons_succ]; rfl) ?_
        intro K hK
        go_wp2
        refine hK.out _ _ Bz1 ?_
        clear hK K
        refine chainH_alone (by simp only [List.getElem?_toArray, List.getElem?_cons_zero, List.getElem?_cons_succ]; rfl) ?_
        intro K hK
        go_wp2_with fail
        refine (right_any f g b _).mono ?_
        rintro e z2 ⟨rfl, hb⟩
        rw [HRt.out]
        have Bz2 : Below U.heap.size U z2 := Bz1.trans (hb.mono Bz1.size)
        clear hb
        go_wp2
        refine hK.out _ _ Bz2 ?_
        clear hK K
        refine chainH_alone (by simp only [List.getElem?_toArray, List.getElem?_cons_zero, List.getElem?_cons_succ]; rfl) ?_
        intro K hK
        go_wp2
        refine hK.out _ _ Bz2 ?_
        clear hK K
        refine chainH_alone (by simp only [List.getElem?_toArray, List.getElem?_cons_zero, List.getElem?_cons_succ]; rfl) ?_
        intro K hK
        go_wp2
        refine hK.out _ _ Bz2 ?_
        clear hK K
        refine chainH_skip (by simp only [List.getElem?_toArray, List.getElem?_cons_zero, List.getElem?_cons_succ]; rfl) (by rfl) ?_
        simp only [Act.put, List.setIfInBounds_toArray, List.set_cons_zero, List.set_cons_succ]
        refine chainH_skip (by simp only [List.getElem?_toArray, List.getElem?_cons_zero, List.getElem?_cons_succ]; rfl) (by rfl) ?_
        simp only [Act.put, List.setIfInBounds_toArray, List.set_cons_zero, List.set_cons_succ]
        refine chainH_skip (by simp only [List.getElem?_toArray, List.getElem?_cons_zero, List.getElem?_cons_succ]; rfl) (by rfl) ?_
        simp only [Act.put, List.setIfInBounds_toArray, List.set_cons_zero, List.set_cons_succ]
        refine chainH_pass (by simp only [List.getElem?_toArray, List.getElem?_cons_zero, List.getElem?_cons_succ]; rfl) (by rfl) Bz2 ?_
        simp only [Act.put, List.setIfInBounds_toArray, List.set_cons_zero, List.set_cons_succ]
        refine chainH_pass (by simp only [List.getElem?_toArray, List.getElem?_cons_zero, List.getElem?_cons_succ]; rfl) (by rfl) Bz2 ?_
        simp only [Act.put, List.setIfInBounds_toArray, List.set_cons_zero, List.set_cons_succ]
        refine chainH_alone (by simp only [List.getElem?_toArray, List.getElem?_cons_zero, List.getElem?_cons_succ]; rfl) ?_
        intro K hK
        go_wp2
        refine hK.out _ _ Bz2 ?_
        clear hK K
        refine chainH_alone (by simp only [List.getElem?_toArray, List.getElem?_cons_zero, List.getElem?_cons_succ]; rfl) ?_
        intro K hK
        go_wp2
        refine hK.out _ _ Bz2 ?_
        clear hK K
        refine chainH_alone (by simp only [List.getElem?_toArray, List.getElem?_cons_zero, List.getElem?_cons_succ]; rfl) ?_
        intro K hK
        go_wp2
        refine hK.out _ _ Bz2 ?_
        clear hK K
        refine chainH_nil ?_
        have hbz := hbel.trans (Bz2.mono hbel.size)
        go_wp2
        go_ret
        exact ⟨rfl, hbz⟩
      · have HTn := hide (HRT.out rfl)
        clear HRT
        go_wp2
        refine wp_region_chainH (fun w' => Below U.heap.size U w') [(false, 0), (false, 1), (false, 2), (false, 3), (false, 4), (false, 5), (true, 7), (true, 6), (true, 9), (false, 8), (false, 10), (false, 11), (false, 12), (false, 13)] (by kernel_rfl) (by kernel_rfl) (by kernel_rfl) (fun _ _ _ _ _ h => h) ?_ ?_
        · exact (Below.refl _ _).drewN 1
        refine chainH_alone (by simp only [List.getElem?_toArray, List.getElem?_cons_zero]; rfl) ?_
        intro K hK
        go_wp2_with fail
        refine (known_any _).mono ?_
        rintro e z1 ⟨rfl, hb⟩
        have Bz1 : Below U.heap.size U z1 := ((Below.refl _ _).drewN 1).trans hb
        clear hb
        obtain ⟨j0, j1, j2, -⟩ := whole3 (HP.out.later Bz1)
        go_wp2
        refine hK.out _ _ Bz1 ?_
        clear hK K
        refine chainH_alone (by simp only [List.getElem?_toArray, List.getElem?_cons_zero, List.getElem?_cons_succ]; rfl) ?_
        intro K hK
        go_wp2
        refine hK.out _ _ Bz1 ?_
        clear hK K
        refine chainH_alone (by simp only [List.getElem?_toArray, List.getElem?_cons_zero, List.getElem?_cons_succ]; rfl) ?_
        intro K hK
        go_wp2
        refine hK.out _ _ Bz1 ?_
        clear hK K
        refine chainH_alone (by simp only [List.getElem?_toArray, List.getElem?_cons_zero, List.getElem?_cons_succ]; rfl) ?_
        intro K hK
        go_wp2_with fail
        refine (right_any f g b _).mono ?_
        rintro e z2 ⟨rfl, hb⟩
        rw [HRt.out]
        have Bz2 : Below U.heap.size U z2 := Bz1.trans (hb.mono Bz1.size)
        clear hb
        go_wp2
        refine hK.out _ _ Bz2 ?_
        clear hK K
        refine chainH_alone (by simp only [List.getElem?_toArray, List.getElem?_cons_zero, List.getElem?_cons_succ]; rfl) ?_
        intro K hK
        go_wp2
        refine hK.out _ _ Bz2 ?_
        clear hK K
        refine chainH_alone (by simp only [List.getElem?_toArray, List.getElem?_cons_zero, List.getElem?_cons_succ]; rfl) ?_
        intro K hK
        go_wp2
        refine hK.out _ _ Bz2 ?_
        clear hK K
        refine chainH_take (v := ?_) (by simp only [List.getElem?_toArray, List.getElem?_cons_zero, List.getElem?_cons_succ]; rfl) (by rfl) (fun w hS => ?_) ?_
        rotate_left
        · go_simp <;> with_reducible rfl
        simp only [Act.put, List.setIfInBounds_toArray, List.set_cons_zero, List.set_cons_succ]
        refine chainH_take (v := ?_) (by simp only [List.getElem?_toArray, List.getElem?_cons_zero, List.getElem?_cons_succ]; rfl) (by rfl) (fun w hS => ?_) ?_
        rotate_left
        · obtain ⟨a0, a1, a2, -⟩ := whole3 (HQ.out.later hS); go_simp <;> with_reducible rfl
        simp only [Act.put, List.setIfInBounds_toArray, List.set_cons_zero, List.set_cons_succ]
        refine chainH_take (v := ?_) (by simp only [List.getElem?_toArray, List.getElem?_cons_zero, List.getElem?_cons_succ]; rfl) (by rfl) (fun w hS => ?_) ?_
        rotate_left
        · obtain ⟨a0, a1, a2, -⟩ := whole3 (HP.out.later hS); go_simp <;> with_reducible rfl
        simp only [Act.put, List.setIfInBounds_toArray, List.set_cons_zero, List.set_cons_succ]
        refine chainH_alone (by simp only [List.getElem?_toArray, List.getElem?_cons_zero, List.getElem?_cons_succ]; rfl) ?_
        intro K hK
        go_wp2_with fail
        refine (turn_any F G B hq.out A1 _ c1 C _ (I1.out.below Bz2) rfl HCl.out).mono ?_
        rintro e z3 ⟨rfl, hb⟩
        rw [HTn.out]
        have Bz3 : Below U.heap.size U z3 := Bz2.trans (hb.mono Bz2.size)
        clear hb
        go_wp2
        refine hK.out _ _ Bz3 ?_
        clear hK K
        refine chainH_alone (by simp only [List.getElem?_toArray, List.getElem?_cons_zero, List.getElem?_cons_succ]; rfl) ?_
        intro K hK
        go_wp2
        refine hK.out _ _ Bz3 ?_
        clear hK K
        refine chainH_alone (by simp only [List.getElem?_toArray, List.getElem?_cons_zero, List.getElem?_cons_succ]; rfl) ?_
        intro K hK
        go_wp2
        refine hK.out _ _ Bz3 ?_
        clear hK K
        refine chainH_alone (by simp only [List.getElem?_toArray, List.getElem?_cons_zero, List.getElem?_cons_succ]; rfl) ?_
        intro K hK
        go_wp2
        refine hK.out _ _ Bz3 ?_
        clear hK K
        refine chainH_alone (by simp only [List.getElem?_toArray, List.getElem?_cons_zero, List.getElem?_cons_succ]; rfl) ?_
        intro K hK
        go_wp2
        refine hK.out _ _ Bz3 ?_
        clear hK K
        refine chainH_nil ?_
        have hbz := hbel.trans (Bz3.mono hbel.size)
        go_wp2
        go_ret
        exact ⟨rfl, hbz⟩
end Go.Proofs.YthedfbkkeolkmaaDoor
