/-
  Contract: the parameters that make a pen (the document's).
-/
import Derived.Test.YthedfbkkeolkmaaDoorCod
namespace Go.Proofs.YthedfbkkeolkmaaDoor
open Go.ChangeShapes Go.WideShapes Go.ChangeAt Go.RowKit
set_option linter.unusedVariables false

theorem colL_hi (g : Nat) (h : 9 ≤ g) : colL g 0 = [81 + (g : Int)] := by unfold colL colC; rw [if_neg (by omega), if_pos h]; congr 1; omega
theorem colL_lo (g : Nat) (h1 : 1 ≤ g) (h : g ≤ 8) : colL g 0 = [29 + (g : Int)] := by unfold colL colC; rw [if_neg (by omega), if_neg (by omega)]; congr 1; omega
theorem colB_hi (g : Nat) (h : 9 ≤ g) : colL g 10 = [91 + (g : Int)] := by unfold colL colC; rw [if_neg (by omega), if_pos h]; congr 1; omega
theorem colB_lo (g : Nat) (h1 : 1 ≤ g) (h : g ≤ 8) : colL g 10 = [39 + (g : Int)] := by unfold colL colC; rw [if_neg (by omega), if_neg (by omega)]; congr 1; omega
set_option maxRecDepth 100000 in
set_option maxHeartbeats 4000000 in
theorem rcodes_any (f g b : Nat) (w : World) : Calls Tryd.prog 5 #[.agg #[.int .u8 (f : Int), .int .u8 (g : Int), .int .u8 (b : Int)]] w (Made 3 .i64 w (codesN ⟨f, g, b⟩)) := by
  cases hr : rightN ⟨f, g, b⟩
  · have HR := hide hr
    have HN := hide (codes_not _ hr)
    clear hr
    go_enter Tryd.func5, Tryd.ntmps5
    go_wp2_with fail
    refine (rright_any f g b _).mono ?_
    rintro e w1 ⟨rfl, hb1⟩
    rw [HR.out]
    go_wp2
    go_ret
    have hb : Below w.heap.size w w1 := ((Below.refl _ _).alloc (Nat.le_refl _) _).trans (hb1.mono (by simp))
    exact ⟨_, rfl, by rw [HN.out]; exact ⟨World.ownsRow_nil _ _ _ _, hb, hb.size⟩⟩
  have HR := hide hr
  have HC := hide (codes_right f g b hr)
  obtain ⟨hf31, hg16, hb16⟩ := right_bd f g b hr
  clear hr
  have HP0 := hide (Whole.new w 27 [.int .u8 (f : Int), .int .u8 (g : Int), .int .u8 (b : Int)])
  go_enter Tryd.func5, Tryd.ntmps5
  go_wp2_with fail
  refine (rright_any f g b _).mono ?_
  rintro e w1 ⟨rfl, hb1⟩
  rw [HR.out]
  have HP := hide (HP0.out.later hb1)
  have HB : Hid (Below w.heap.size w w1) := ((Below.refl _ _).alloc (Nat.le_refl _) _).trans (hb1.mono (by simp))
  have HO := hide (Own.lit w1 3 .i64 [0] 1 rfl (by omega))
  clear hb1 HP0
  go_wp2
  go_loopw [3, 4] (fun l i wr => ∃ k : Nat, k ≤ 5 ∧ i = .int .i64 k ∧ Own 3 .i64 w1.heap.size w1 wr l (0 :: flagsL f k)) (fun _ i _ => 5 - (intOf i).toNat)
  case atStart => exact ⟨0, Nat.zero_le _, rfl, HO.out⟩
  case round =>
    obtain ⟨k, hk, rfl, ho⟩ := hrel
    have HPr := hide (HP.out.below ho.bel HP.out.lt)
    have HL5 : Hid ((0 :: flagsL f k).length ≤ 100) := by unfold Hid; have := flagsL_len f k; simp only [List.length_cons]; omega
    clear HO
    have HO := hide ho
    clear ho
    by_cases hlt : k < 5
    · cases hh : hasN f (bitC k)
      · have HF := hide (flags_no f k hh)
        have HH := hide hh
        clear hh
        go_wp2
        refine wp_region_chainH (fun w' => Below wr.heap.size wr w') [(true, 0), (true, 2), (true, 1), (false, 3), (false, 4)] (by kernel_rfl) (by kernel_rfl) (by kernel_rfl) (fun _ _ _ _ _ h => h) ?_ ?_
        · exact (Below.refl _ _).drewN 1
        refine chainH_take (v := ?_) (by simp only [List.getElem?_toArray, List.getElem?_cons_zero]; rfl) (by rfl) (fun w hS => ?_) ?_
        rotate_left
        · go_simp <;> with_reducible rfl
        simp only [Act.put, List.setIfInBounds_toArray, List.set_cons_zero, List.set_cons_succ]
        refine chainH_take (v := ?_) (by simp only [List.getElem?_toArray, List.getElem?_cons_zero, List.getElem?_cons_succ]; rfl) (by rfl) (fun w hS => ?_) ?_
        rotate_left
        · go_simp <;> with_reducible rfl
        simp only [Act.put, List.setIfInBounds_toArray, List.set_cons_zero, List.set_cons_succ]
        refine chainH_take (v := ?_) (by simp only [List.getElem?_toArray, List.getElem?_cons_zero, List.getElem?_cons_succ]; rfl) (by rfl) (fun w hS => ?_) ?_
        rotate_left
        · obtain ⟨a0, a1, a2, -⟩ := whole3 (HPr.out.later hS); go_simp <;> with_reducible rfl
        simp only [Act.put, List.setIfInBounds_toArray, List.set_cons_zero, List.set_cons_succ]
        refine chainH_alone (by simp only [List.getElem?_toArray, List.getElem?_cons_zero, List.getElem?_cons_succ]; rfl) ?_
        intro K hK
        go_wp2_with fail
        refine (bit_any k hlt _).mono ?_
        rintro e w3 ⟨rfl, hb⟩
        have Bw3 : Below wr.heap.size wr w3 := ((Below.refl _ _).drewN 1).trans hb
        clear hb
        go_wp2
        refine hK.out _ _ Bw3 ?_
        clear hK K
        refine chainH_alone (by simp only [List.getElem?_toArray, List.getElem?_cons_zero, List.getElem?_cons_succ]; rfl) ?_
        intro K hK
        go_wp2_with fail
        refine (has_any f (bitC k) (by omega) (bitC_lt k hlt).1 (bitC_lt k hlt).2 _).mono ?_
        rintro e w4 ⟨rfl, rfl⟩
        rw [HH.out]
        go_wp2
        refine hK.out _ _ Bw3 ?_
        clear hK K
        refine chainH_nil ?_
        go_wp2
        go_roundw
        case rel => exact ⟨k + 1, by omega, by go_num, by rw [HF.out]; exact HO.out.later Bw3⟩
        case measure => simp [intOf]; omega
      · have HF := hide (flags_yes f k hh)
        have HH := hide hh
        clear hh
        go_wp2
        refine wp_region_chainH (fun w' => Below wr.heap.size wr w') [(true, 0), (true, 2), (true, 1), (false, 3), (false, 4)] (by kernel_rfl) (by kernel_rfl) (by kernel_rfl) (fun _ _ _ _ _ h => h) ?_ ?_
        · exact (Below.refl _ _).drewN 1
        refine chainH_take (v := ?_) (by simp only [List.getElem?_toArray, List.getElem?_cons_zero]; rfl) (by rfl) (fun w hS => ?_) ?_
        rotate_left
        · go_simp <;> with_reducible rfl
        simp only [Act.put, List.setIfInBounds_toArray, List.set_cons_zero, List.set_cons_succ]
        refine chainH_take (v := ?_) (by simp only [List.getElem?_toArray, List.getElem?_cons_zero, List.getElem?_cons_succ]; rfl) (by rfl) (fun w hS => ?_) ?_
        rotate_left
        · go_simp <;> with_reducible rfl
        simp only [Act.put, List.setIfInBounds_toArray, List.set_cons_zero, List.set_cons_succ]
        refine chainH_take (v := ?_) (by simp only [List.getElem?_toArray, List.getElem?_cons_zero, List.getElem?_cons_succ]; rfl) (by rfl) (fun w hS => ?_) ?_
        rotate_left
        · obtain ⟨a0, a1, a2, -⟩ := whole3 (HPr.out.later hS); go_simp <;> with_reducible rfl
        simp only [Act.put, List.setIfInBounds_toArray, List.set_cons_zero, List.set_cons_succ]
        refine chainH_alone (by simp only [List.getElem?_toArray, List.getElem?_cons_zero, List.getElem?_cons_succ]; rfl) ?_
        intro K hK
        go_wp2_with fail
        refine (bit_any k hlt _).mono ?_
        rintro e w3 ⟨rfl, hb⟩
        have Bw3 : Below wr.heap.size wr w3 := ((Below.refl _ _).drewN 1).trans hb
        clear hb
        go_wp2
        refine hK.out _ _ Bw3 ?_
        clear hK K
        refine chainH_alone (by simp only [List.getElem?_toArray, List.getElem?_cons_zero, List.getElem?_cons_succ]; rfl) ?_
        intro K hK
        go_wp2_with fail
        refine (has_any f (bitC k) (by omega) (bitC_lt k hlt).1 (bitC_lt k hlt).2 _).mono ?_
        rintro e w4 ⟨rfl, rfl⟩
        rw [HH.out]
        go_wp2
        refine hK.out _ _ Bw3 ?_
        clear hK K
        refine chainH_nil ?_
        replace HO := hide (HO.out.later Bw3)
        go_wp2_with fail
        refine (on_any k hlt _).mono ?_
        rintro e w5 ⟨rfl, hb5⟩
        replace HO := hide (HO.out.later hb5)
        clear hb5
        go_wp2_with (at_builtin; refine wpList_push elem24 rfl (.tmp 18) (.tmp 21) rfl rfl rfl HO.out (by first | exact Nat.le_trans HL5.out (by omega) | (simp only [List.length_append, List.length_singleton]; have := HL5.out; omega)) (by omega) ?_; intro vho2 w2 ho2)
        go_roundw
        case rel => exact ⟨k + 1, by omega, by go_num, by rw [HF.out]; exact ho2⟩
        case measure => simp [intOf]; omega
    · have hk5 : k = 5 := by omega
      subst hk5
      obtain ⟨p0, p1, p2, -⟩ := whole3 HPr.out
      obtain ⟨L, hL⟩ : ∃ L, 0 :: flagsL f 5 = L := ⟨_, rfl⟩
      rw [hL] at HC HL5 HO
      clear hL
      have HWp := HP.out.lt
      rcases (show g = 0 ∨ (1 ≤ g ∧ g ≤ 8) ∨ 9 ≤ g by omega) with hg | hg | hg
      · rcases (show b = 0 ∨ (1 ≤ b ∧ b ≤ 8) ∨ 9 ≤ b by omega) with hb | hb | hb
        · have d1 : ¬ (8 : Int) < (g : Int) := by omega
          have d2 : ¬ (0 : Int) < (g : Int) := by omega
          rw [colL_none g 0 hg, List.append_nil] at HC
          clear hg
          have d3 : ¬ (8 : Int) < (b : Int) := by omega
          have d4 : ¬ (0 : Int) < (b : Int) := by omega
          rw [colL_none b 10 hb, List.append_nil] at HC
          clear hb
          go_wp2
          go_ret
          exact ⟨_, rfl, by rw [HC.out]; exact HO.out.lower HB.out.size HB.out⟩
        · have d1 : ¬ (8 : Int) < (g : Int) := by omega
          have d2 : ¬ (0 : Int) < (g : Int) := by omega
          rw [colL_none g 0 hg, List.append_nil] at HC
          clear hg
          have d3 : ¬ (8 : Int) < (b : Int) := by omega
          have d4 : (0 : Int) < (b : Int) := by omega
          rw [colB_lo b hb.1 hb.2] at HC
          go_wp2_with (at_builtin; refine wpList_push elem24 rfl (.tmp 56) (.tmp 61) rfl rfl rfl HO.out (Nat.le_trans HL5.out (by omega)) (by omega) ?_; intro vho4 w6 ho4; replace HO := hide ho4; clear ho4)
          go_ret
          exact ⟨_, rfl, by rw [HC.out]; exact HO.out.lower HB.out.size HB.out⟩
        · have d1 : ¬ (8 : Int) < (g : Int) := by omega
          have d2 : ¬ (0 : Int) < (g : Int) := by omega
          rw [colL_none g 0 hg, List.append_nil] at HC
          clear hg
          have d3 : (8 : Int) < (b : Int) := by omega
          rw [colB_hi b hb] at HC
          go_wp2_with (at_builtin; refine wpList_push elem24 rfl (.tmp 46) (.tmp 51) rfl rfl rfl HO.out (Nat.le_trans HL5.out (by omega)) (by omega) ?_; intro vho4 w6 ho4; replace HO := hide ho4; clear ho4)
          go_ret
          exact ⟨_, rfl, by rw [HC.out]; exact HO.out.lower HB.out.size HB.out⟩
      · rcases (show b = 0 ∨ (1 ≤ b ∧ b ≤ 8) ∨ 9 ≤ b by omega) with hb | hb | hb
        · have d1 : ¬ (8 : Int) < (g : Int) := by omega
          have d2 : (0 : Int) < (g : Int) := by omega
          rw [colL_lo g hg.1 hg.2] at HC
          have d3 : ¬ (8 : Int) < (b : Int) := by omega
          have d4 : ¬ (0 : Int) < (b : Int) := by omega
          rw [colL_none b 10 hb, List.append_nil] at HC
          clear hb
          go_wp2_with (at_builtin; refine wpList_push elem24 rfl (.tmp 36) (.tmp 41) rfl rfl rfl HO.out (Nat.le_trans HL5.out (by omega)) (by omega) ?_; intro vho3 w4 ho3; clear p0 p1 p2; obtain ⟨p0, p1, p2, -⟩ := whole3 (HP.out.below ho3.bel HWp); replace HO := hide ho3; clear ho3)
          go_ret
          exact ⟨_, rfl, by rw [HC.out]; exact HO.out.lower HB.out.size HB.out⟩
        · have d1 : ¬ (8 : Int) < (g : Int) := by omega
          have d2 : (0 : Int) < (g : Int) := by omega
          rw [colL_lo g hg.1 hg.2] at HC
          have d3 : ¬ (8 : Int) < (b : Int) := by omega
          have d4 : (0 : Int) < (b : Int) := by omega
          rw [colB_lo b hb.1 hb.2] at HC
          go_wp2_with (first | (at_builtin; refine wpList_push elem24 rfl (.tmp 36) (.tmp 41) rfl rfl rfl HO.out (Nat.le_trans HL5.out (by omega)) (by omega) ?_; intro vho3 w4 ho3; clear p0 p1 p2; obtain ⟨p0, p1, p2, -⟩ := whole3 (HP.out.below ho3.bel HWp); replace HO := hide ho3; clear ho3) | (at_builtin; refine wpList_push elem24 rfl (.tmp 56) (.tmp 61) rfl rfl rfl HO.out (by simp only [List.length_append, List.length_singleton]; have := HL5.out; omega) (by omega) ?_; intro vho4 w6 ho4; replace HO := hide ho4; clear ho4))
          go_ret
          exact ⟨_, rfl, by rw [HC.out]; exact HO.out.lower HB.out.size HB.out⟩
        · have d1 : ¬ (8 : Int) < (g : Int) := by omega
          have d2 : (0 : Int) < (g : Int) := by omega
          rw [colL_lo g hg.1 hg.2] at HC
          have d3 : (8 : Int) < (b : Int) := by omega
          rw [colB_hi b hb] at HC
          go_wp2_with (first | (at_builtin; refine wpList_push elem24 rfl (.tmp 36) (.tmp 41) rfl rfl rfl HO.out (Nat.le_trans HL5.out (by omega)) (by omega) ?_; intro vho3 w4 ho3; clear p0 p1 p2; obtain ⟨p0, p1, p2, -⟩ := whole3 (HP.out.below ho3.bel HWp); replace HO := hide ho3; clear ho3) | (at_builtin; refine wpList_push elem24 rfl (.tmp 46) (.tmp 51) rfl rfl rfl HO.out (by simp only [List.length_append, List.length_singleton]; have := HL5.out; omega) (by omega) ?_; intro vho4 w6 ho4; replace HO := hide ho4; clear ho4))
          go_ret
          exact ⟨_, rfl, by rw [HC.out]; exact HO.out.lower HB.out.size HB.out⟩
      · rcases (show b = 0 ∨ (1 ≤ b ∧ b ≤ 8) ∨ 9 ≤ b by omega) with hb | hb | hb
        · have d1 : (8 : Int) < (g : Int) := by omega
          rw [colL_hi g hg] at HC
          have d3 : ¬ (8 : Int) < (b : Int) := by omega
          have d4 : ¬ (0 : Int) < (b : Int) := by omega
          rw [colL_none b 10 hb, List.append_nil] at HC
          clear hb
          go_wp2_with (at_builtin; refine wpList_push elem24 rfl (.tmp 26) (.tmp 31) rfl rfl rfl HO.out (Nat.le_trans HL5.out (by omega)) (by omega) ?_; intro vho3 w4 ho3; clear p0 p1 p2; obtain ⟨p0, p1, p2, -⟩ := whole3 (HP.out.below ho3.bel HWp); replace HO := hide ho3; clear ho3)
          go_ret
          exact ⟨_, rfl, by rw [HC.out]; exact HO.out.lower HB.out.size HB.out⟩
        · have d1 : (8 : Int) < (g : Int) := by omega
          rw [colL_hi g hg] at HC
          have d3 : ¬ (8 : Int) < (b : Int) := by omega
          have d4 : (0 : Int) < (b : Int) := by omega
          rw [colB_lo b hb.1 hb.2] at HC
          go_wp2_with (first | (at_builtin; refine wpList_push elem24 rfl (.tmp 26) (.tmp 31) rfl rfl rfl HO.out (Nat.le_trans HL5.out (by omega)) (by omega) ?_; intro vho3 w4 ho3; clear p0 p1 p2; obtain ⟨p0, p1, p2, -⟩ := whole3 (HP.out.below ho3.bel HWp); replace HO := hide ho3; clear ho3) | (at_builtin; refine wpList_push elem24 rfl (.tmp 56) (.tmp 61) rfl rfl rfl HO.out (by simp only [List.length_append, List.length_singleton]; have := HL5.out; omega) (by omega) ?_; intro vho4 w6 ho4; replace HO := hide ho4; clear ho4))
          go_ret
          exact ⟨_, rfl, by rw [HC.out]; exact HO.out.lower HB.out.size HB.out⟩
        · have d1 : (8 : Int) < (g : Int) := by omega
          rw [colL_hi g hg] at HC
          have d3 : (8 : Int) < (b : Int) := by omega
          rw [colB_hi b hb] at HC
          go_wp2_with (first | (at_builtin; refine wpList_push elem24 rfl (.tmp 26) (.tmp 31) rfl rfl rfl HO.out (Nat.le_trans HL5.out (by omega)) (by omega) ?_; intro vho3 w4 ho3; clear p0 p1 p2; obtain ⟨p0, p1, p2, -⟩ := whole3 (HP.out.below ho3.bel HWp); replace HO := hide ho3; clear ho3) | (at_builtin; refine wpList_push elem24 rfl (.tmp 46) (.tmp 51) rfl rfl rfl HO.out (by simp only [List.length_append, List.length_singleton]; have := HL5.out; omega) (by omega) ?_; intro vho4 w6 ho4; replace HO := hide ho4; clear ho4))
          go_ret
          exact ⟨_, rfl, by rw [HC.out]; exact HO.out.lower HB.out.size HB.out⟩
end Go.Proofs.YthedfbkkeolkmaaDoor
