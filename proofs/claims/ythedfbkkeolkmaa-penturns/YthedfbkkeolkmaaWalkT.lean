/-
  The walk of the law PenTurns.
-/
import Derived.Test.YthedfbkkeolkmaaNumb
import Derived.Test.YthedfbkkeolkmaaRTurn
namespace Go.Proofs.Ythedfbkkeolkmaa
open Go.ChangeShapes Go.WideShapes Go.ChangeAt Go.RowKit
set_option linter.unusedVariables false

set_option maxRecDepth 100000 in
set_option maxHeartbeats 4000000 in
theorem penTurns_walk (f g b : Nat) (hp : Pn.ok ⟨f, g, b⟩) (a : Option Addr) (len cap : Nat) (zs : List Int) (m : Nat) (hm : m < 256) (on : Bool) (w : World) (hrow : IsRow .i64 w a len cap zs) :
    Calls Try.prog 3 #[.agg #[.int .u8 (f : Int), .int .u8 (g : Int), .int .u8 (b : Int)], .slice a len cap, .int .u8 (m : Int), .bool on] w fun e w' => e = .returned (.bool true) ∧ Below w.heap.size w w' := by
  have e27 := eql27
  have es := eqP_self
  have tt : (true == true) = true := rfl
  have ff : (false == false) = true := rfl
  have hf : f < 256 := hp.1
  have HPk := hide hp
  obtain ⟨hz, hl, hn0, hmaxl⟩ := hrow.len
  obtain ⟨p, hpq, hp30, hpl⟩ : ∃ p : Nat, min (len : Int) 30 = (p : Int) ∧ p ≤ 30 ∧ p ≤ len := ⟨min len 30, by omega, by omega, by omega⟩
  have hi := hrow.ints.take p
  have hx : (zs.take p).length = p := by rw [List.length_take]; omega
  unfold maxLen at hmaxl
  clear hrow
  have HX := hide hx
  have HX30 : Hid (p ≤ 1000000) := by unfold Hid; omega
  clear hz hn0 hx hp
  generalize zs.take p = xs at *
  have k1 : (0 : Int) ≤ (p : Int) := by omega
  have k2 : (p : Int) ≤ (cap : Int) := by omega
  obtain ⟨⟨F, G, B⟩, hT⟩ : ∃ P, turnN ⟨f, g, b⟩ xs = P := ⟨_, rfl⟩
  have HT := hide hT
  obtain ⟨rt, hrt⟩ : ∃ x, rightN ⟨f, g, b⟩ = x := ⟨_, rfl⟩
  have HRt := hide hrt
  have hrq : rt = true → rightN ⟨F, G, B⟩ = true := fun h => by rw [← hT]; exact turnN_right _ _ (hrt.trans h)
  have HRQ := hide hrq
  clear hT hrt hrq
  have HP0 := hide (Whole.new w 23 [.int .u8 (f : Int), .int .u8 (g : Int), .int .u8 (b : Int)])
  have HI0 := hide (hi.alloc (.cells #[.int .u8 (f : Int), .int .u8 (g : Int), .int .u8 (b : Int)] 23))
  clear hi
  go_enter Try.func3, Try.ntmps3
  go_wp2_with fail
  refine (turn_any f g b HPk.out a p cap xs _ HI0.out HX.out HX30.out).mono ?_
  rintro e w1 ⟨rfl, hb1⟩
  rw [HT.out]
  have HP := hide ((HP0.out.later hb1).alloc (.cells #[.int .u8 (F : Int), .int .u8 (G : Int), .int .u8 (B : Int)] 23))
  have HI := hide ((HI0.out.below hb1).alloc (.cells #[.int .u8 (F : Int), .int .u8 (G : Int), .int .u8 (B : Int)] 23))
  have HQ := hide (Whole.new w1 23 [.int .u8 (F : Int), .int .u8 (G : Int), .int .u8 (B : Int)])
  have hb1' : Below w.heap.size w w1 := ((Below.refl w.heap.size w).alloc (Nat.le_refl _) _).trans (hb1.mono (by simp))
  have hbel := hb1'.alloc hb1'.size (.cells #[.int .u8 (F : Int), .int .u8 (G : Int), .int .u8 (B : Int)] 23)
  clear hb1 hb1' HP0 HI0
  cases rt
  · have HRq : Hid (True) := trivial
    clear HRQ
    go_wp2
    generalize w1.alloc (.cells #[.int .u8 (F : Int), .int .u8 (G : Int), .int .u8 (B : Int)] 23) = W at *
    go_wp2
    refine wp_region_chainH (fun w' => Below W.heap.size W w') [(false, 0), (false, 1), (true, 4), (true, 2), (false, 3), (false, 5), (false, 6), (false, 7), (false, 8), (true, 9), (true, 11), (false, 10), (false, 12), (false, 13), (false, 14), (false, 15), (true, 17), (true, 18), (true, 21), (true, 22), (true, 16), (true, 20), (false, 19), (false, 23), (false, 24), (false, 25), (false, 26), (false, 27), (false, 28), (false, 29), (false, 30), (false, 31), (false, 32), (false, 33), (false, 34), (false, 35)] (by kernel_rfl) (by kernel_rfl) (by kernel_rfl) (fun _ _ _ _ _ h => h) ?_ ?_
    · exact (Below.refl _ _).drewN 1
    refine chainH_alone (by simp only [List.getElem?_toArray, List.getElem?_cons_zero]; rfl) ?_
    intro K hK
    go_wp2_with fail
    refine (known_any _).mono ?_
    rintro e w3 ⟨rfl, hb⟩
    have Bw3 : Below W.heap.size W w3 := ((Below.refl _ _).drewN 1).trans hb
    clear hb
    obtain ⟨i0, i1, i2, -⟩ := whole3 (HP.out.later Bw3)
    go_wp2
    refine hK.out _ _ Bw3 ?_
    clear hK K
    refine chainH_alone (by simp only [List.getElem?_toArray, List.getElem?_cons_zero, List.getElem?_cons_succ]; rfl) ?_
    intro K hK
    go_wp2
    refine hK.out _ _ Bw3 ?_
    clear hK K
    refine chainH_take (v := ?_) (by simp only [List.getElem?_toArray, List.getElem?_cons_zero, List.getElem?_cons_succ]; rfl) (by rfl) (fun w hS => ?_) ?_
    rotate_left
    · go_simp <;> with_reducible rfl
    simp only [Act.put, List.setIfInBounds_toArray, List.set_cons_zero, List.set_cons_succ]
    refine chainH_take (v := ?_) (by simp only [List.getElem?_toArray, List.getElem?_cons_zero, List.getElem?_cons_succ]; rfl) (by rfl) (fun w hS => ?_) ?_
    rotate_left
    · obtain ⟨a0, a1, a2, -⟩ := whole3 (HQ.out.later hS); go_simp <;> with_reducible rfl
    simp only [Act.put, List.setIfInBounds_toArray, List.set_cons_zero, List.set_cons_succ]
    refine chainH_alone (by simp only [List.getElem?_toArray, List.getElem?_cons_zero, List.getElem?_cons_succ]; rfl) ?_
    intro K hK
    go_wp2
    refine hK.out _ _ Bw3 ?_
    clear hK K
    refine chainH_alone (by simp only [List.getElem?_toArray, List.getElem?_cons_zero, List.getElem?_cons_succ]; rfl) ?_
    intro K hK
    go_wp2_with fail
    refine (rturn_any f g b HPk.out a p cap xs _ (HI.out.below Bw3) HX.out HX30.out).mono ?_
    rintro e w4 ⟨rfl, hb⟩
    rw [HT.out]
    have Bw4 : Below W.heap.size W w4 := Bw3.trans (hb.mono Bw3.size)
    clear hb
    clear i0 i1 i2
    go_wp2
    refine hK.out _ _ Bw4 ?_
    clear hK K
    refine chainH_alone (by simp only [List.getElem?_toArray, List.getElem?_cons_zero, List.getElem?_cons_succ]; rfl) ?_
    intro K hK
    go_wp2
    refine hK.out _ _ Bw4 ?_
    clear hK K
    refine chainH_alone (by simp only [List.getElem?_toArray, List.getElem?_cons_zero, List.getElem?_cons_succ]; rfl) ?_
    intro K hK
    go_wp2
    refine hK.out _ _ Bw4 ?_
    clear hK K
    refine chainH_alone (by simp only [List.getElem?_toArray, List.getElem?_cons_zero, List.getElem?_cons_succ]; rfl) ?_
    intro K hK
    go_wp2
    refine hK.out _ _ Bw4 ?_
    clear hK K
    refine chainH_take (v := ?_) (by simp only [List.getElem?_toArray, List.getElem?_cons_zero, List.getElem?_cons_succ]; rfl) (by rfl) (fun w hS => ?_) ?_
    rotate_left
    · obtain ⟨a0, a1, a2, -⟩ := whole3 (HP.out.later hS); go_simp <;> with_reducible rfl
    simp only [Act.put, List.setIfInBounds_toArray, List.set_cons_zero, List.set_cons_succ]
    refine chainH_take (v := ?_) (by simp only [List.getElem?_toArray, List.getElem?_cons_zero, List.getElem?_cons_succ]; rfl) (by rfl) (fun w hS => ?_) ?_
    rotate_left
    · obtain ⟨a0, a1, a2, -⟩ := whole3 (HP.out.later hS); go_simp <;> with_reducible rfl
    simp only [Act.put, List.setIfInBounds_toArray, List.set_cons_zero, List.set_cons_succ]
    refine chainH_alone (by simp only [List.getElem?_toArray, List.getElem?_cons_zero, List.getElem?_cons_succ]; rfl) ?_
    intro K hK
    go_wp2_with fail
    refine (right_any f g b _).mono ?_
    rintro e w5 ⟨rfl, hb⟩
    rw [HRt.out]
    have Bw5 : Below W.heap.size W w5 := Bw4.trans (hb.mono Bw4.size)
    clear hb
    go_wp2
    refine hK.out _ _ Bw5 ?_
    clear hK K
    refine chainH_alone (by simp only [List.getElem?_toArray, List.getElem?_cons_zero, List.getElem?_cons_succ]; rfl) ?_
    intro K hK
    go_wp2_with fail
    refine (rright_any f g b _).mono ?_
    rintro e w6 ⟨rfl, hb⟩
    rw [HRt.out]
    have Bw6 : Below W.heap.size W w6 := Bw5.trans (hb.mono Bw5.size)
    clear hb
    go_wp2
    refine hK.out _ _ Bw6 ?_
    clear hK K
    refine chainH_alone (by simp only [List.getElem?_toArray, List.getElem?_cons_zero, List.getElem?_cons_succ]; rfl) ?_
    intro K hK
    go_wp2
    refine hK.out _ _ Bw6 ?_
    clear hK K
    refine chainH_alone (by simp only [List.getElem?_toArray, List.getElem?_cons_zero, List.getElem?_cons_succ]; rfl) ?_
    intro K hK
    go_wp2
    refine hK.out _ _ Bw6 ?_
    clear hK K
    refine chainH_alone (by simp only [List.getElem?_toArray, List.getElem?_cons_zero, List.getElem?_cons_succ]; rfl) ?_
    intro K hK
    go_wp2
    refine hK.out _ _ Bw6 ?_
    clear hK K
    refine chainH_take (v := ?_) (by simp only [List.getElem?_toArray, List.getElem?_cons_zero, List.getElem?_cons_succ]; rfl) (by rfl) (fun w hS => ?_) ?_
    rotate_left
    · go_simp <;> with_reducible rfl
    simp only [Act.put, List.setIfInBounds_toArray, List.set_cons_zero, List.set_cons_succ]
    refine chainH_take (v := ?_) (by simp only [List.getElem?_toArray, List.getElem?_cons_zero, List.getElem?_cons_succ]; rfl) (by rfl) (fun w hS => ?_) ?_
    rotate_left
    · go_simp <;> with_reducible rfl
    simp only [Act.put, List.setIfInBounds_toArray, List.set_cons_zero, List.set_cons_succ]
    refine chainH_take (v := ?_) (by simp only [List.getElem?_toArray, List.getElem?_cons_zero, List.getElem?_cons_succ]; rfl) (by rfl) (fun w hS => ?_) ?_
    rotate_left
    · go_simp <;> with_reducible rfl
    simp only [Act.put, List.setIfInBounds_toArray, List.set_cons_zero, List.set_cons_succ]
    refine chainH_take (v := ?_) (by simp only [List.getElem?_toArray, List.getElem?_cons_zero, List.getElem?_cons_succ]; rfl) (by rfl) (fun w hS => ?_) ?_
    rotate_left
    · go_simp <;> with_reducible rfl
    simp only [Act.put, List.setIfInBounds_toArray, List.set_cons_zero, List.set_cons_succ]
    refine chainH_take (v := ?_) (by simp only [List.getElem?_toArray, List.getElem?_cons_zero, List.getElem?_cons_succ]; rfl) (by rfl) (fun w hS => ?_) ?_
    rotate_left
    · obtain ⟨a0, a1, a2, -⟩ := whole3 (HP.out.later hS); go_simp <;> with_reducible rfl
    simp only [Act.put, List.setIfInBounds_toArray, List.set_cons_zero, List.set_cons_succ]
    refine chainH_take (v := ?_) (by simp only [List.getElem?_toArray, List.getElem?_cons_zero, List.getElem?_cons_succ]; rfl) (by rfl) (fun w hS => ?_) ?_
    rotate_left
    · obtain ⟨a0, a1, a2, -⟩ := whole3 (HP.out.later hS); go_simp <;> with_reducible rfl
    simp only [Act.put, List.setIfInBounds_toArray, List.set_cons_zero, List.set_cons_succ]
    refine chainH_alone (by simp only [List.getElem?_toArray, List.getElem?_cons_zero, List.getElem?_cons_succ]; rfl) ?_
    intro K hK
    go_wp2_with fail
    refine (with_any f g b m on hf hm _).mono ?_
    rintro e w7 ⟨rfl, hb⟩
    have Bw7 : Below W.heap.size W w7 := Bw6.trans (hb.mono Bw6.size)
    clear hb
    go_wp2
    refine hK.out _ _ Bw7 ?_
    clear hK K
    refine chainH_alone (by simp only [List.getElem?_toArray, List.getElem?_cons_zero, List.getElem?_cons_succ]; rfl) ?_
    intro K hK
    go_wp2_with fail
    refine (rwith_any f g b m on hf hm _).mono ?_
    rintro e w8 ⟨rfl, hb⟩
    have Bw8 : Below W.heap.size W w8 := Bw7.trans (hb.mono Bw7.size)
    clear hb
    obtain ⟨i0, i1, i2, -⟩ := whole3 (HP.out.later Bw8)
    go_wp2
    refine hK.out _ _ Bw8 ?_
    clear hK K
    refine chainH_alone (by simp only [List.getElem?_toArray, List.getElem?_cons_zero, List.getElem?_cons_succ]; rfl) ?_
    intro K hK
    go_wp2
    refine hK.out _ _ Bw8 ?_
    clear hK K
    refine chainH_alone (by simp only [List.getElem?_toArray, List.getElem?_cons_zero, List.getElem?_cons_succ]; rfl) ?_
    intro K hK
    go_wp2
    refine hK.out _ _ Bw8 ?_
    clear hK K
    refine chainH_alone (by simp only [List.getElem?_toArray, List.getElem?_cons_zero, List.getElem?_cons_succ]; rfl) ?_
    intro K hK
    go_wp2
    refine hK.out _ _ Bw8 ?_
    clear hK K
    refine chainH_alone (by simp only [List.getElem?_toArray, List.getElem?_cons_zero, List.getElem?_cons_succ]; rfl) ?_
    intro K hK
    go_wp2
    refine hK.out _ _ Bw8 ?_
    clear hK K
    refine chainH_alone (by simp only [List.getElem?_toArray, List.getElem?_cons_zero, List.getElem?_cons_succ]; rfl) ?_
    intro K hK
    go_wp2_with fail
    refine (right_any f g b _).mono ?_
    rintro e w9 ⟨rfl, hb⟩
    rw [HRt.out]
    have Bw9 : Below W.heap.size W w9 := Bw8.trans (hb.mono Bw8.size)
    clear hb
    clear i0 i1 i2
    obtain ⟨i0, i1, i2, -⟩ := whole3 (HQ.out.later Bw9)
    go_wp2
    refine hK.out _ _ Bw9 ?_
    clear hK K
    refine chainH_alone (by simp only [List.getElem?_toArray, List.getElem?_cons_zero, List.getElem?_cons_succ]; rfl) ?_
    intro K hK
    go_wp2
    refine hK.out _ _ Bw9 ?_
    clear hK K
    refine chainH_alone (by simp only [List.getElem?_toArray, List.getElem?_cons_zero, List.getElem?_cons_succ]; rfl) ?_
    intro K hK
    go_wp2
    refine hK.out _ _ Bw9 ?_
    clear hK K
    refine chainH_pass (by simp only [List.getElem?_toArray, List.getElem?_cons_zero, List.getElem?_cons_succ]; rfl) (by rfl) Bw9 ?_
    simp only [Act.put, List.setIfInBounds_toArray, List.set_cons_zero, List.set_cons_succ]
    refine chainH_pass (by simp only [List.getElem?_toArray, List.getElem?_cons_zero, List.getElem?_cons_succ]; rfl) (by rfl) Bw9 ?_
    simp only [Act.put, List.setIfInBounds_toArray, List.set_cons_zero, List.set_cons_succ]
    refine chainH_alone (by simp only [List.getElem?_toArray, List.getElem?_cons_zero, List.getElem?_cons_succ]; rfl) ?_
    intro K hK
    go_wp2
    refine hK.out _ _ Bw9 ?_
    clear hK K
    refine chainH_alone (by simp only [List.getElem?_toArray, List.getElem?_cons_zero, List.getElem?_cons_succ]; rfl) ?_
    intro K hK
    go_wp2
    refine hK.out _ _ Bw9 ?_
    clear hK K
    refine chainH_alone (by simp only [List.getElem?_toArray, List.getElem?_cons_zero, List.getElem?_cons_succ]; rfl) ?_
    intro K hK
    go_wp2
    refine hK.out _ _ Bw9 ?_
    clear hK K
    refine chainH_nil ?_
    have hbel2 := hbel.trans (Bw9.mono hbel.size)
    go_wp2
    go_ret
    exact ⟨rfl, hbel2⟩
  · have HRq := hide (HRQ.out rfl)
    clear HRQ
    go_wp2
    generalize w1.alloc (.cells #[.int .u8 (F : Int), .int .u8 (G : Int), .int .u8 (B : Int)] 23) = W at *
    go_wp2
    refine wp_region_chainH (fun w' => Below W.heap.size W w') [(false, 0), (false, 1), (true, 4), (true, 2), (false, 3), (false, 5), (false, 6), (false, 7), (false, 8), (true, 9), (true, 11), (false, 10), (false, 12), (false, 13), (false, 14), (false, 15), (true, 17), (true, 18), (true, 21), (true, 22), (true, 16), (true, 20), (false, 19), (false, 23), (false, 24), (false, 25), (false, 26), (false, 27), (false, 28), (false, 29), (false, 30), (false, 31), (false, 32), (false, 33), (false, 34), (false, 35)] (by kernel_rfl) (by kernel_rfl) (by kernel_rfl) (fun _ _ _ _ _ h => h) ?_ ?_
    · exact (Below.refl _ _).drewN 1
    refine chainH_alone (by simp only [List.getElem?_toArray, List.getElem?_cons_zero]; rfl) ?_
    intro K hK
    go_wp2_with fail
    refine (known_any _).mono ?_
    rintro e w3 ⟨rfl, hb⟩
    have Bw3 : Below W.heap.size W w3 := ((Below.refl _ _).drewN 1).trans hb
    clear hb
    obtain ⟨i0, i1, i2, -⟩ := whole3 (HP.out.later Bw3)
    go_wp2
    refine hK.out _ _ Bw3 ?_
    clear hK K
    refine chainH_alone (by simp only [List.getElem?_toArray, List.getElem?_cons_zero, List.getElem?_cons_succ]; rfl) ?_
    intro K hK
    go_wp2
    refine hK.out _ _ Bw3 ?_
    clear hK K
    refine chainH_take (v := ?_) (by simp only [List.getElem?_toArray, List.getElem?_cons_zero, List.getElem?_cons_succ]; rfl) (by rfl) (fun w hS => ?_) ?_
    rotate_left
    · go_simp <;> with_reducible rfl
    simp only [Act.put, List.setIfInBounds_toArray, List.set_cons_zero, List.set_cons_succ]
    refine chainH_take (v := ?_) (by simp only [List.getElem?_toArray, List.getElem?_cons_zero, List.getElem?_cons_succ]; rfl) (by rfl) (fun w hS => ?_) ?_
    rotate_left
    · obtain ⟨a0, a1, a2, -⟩ := whole3 (HQ.out.later hS); go_simp <;> with_reducible rfl
    simp only [Act.put, List.setIfInBounds_toArray, List.set_cons_zero, List.set_cons_succ]
    refine chainH_alone (by simp only [List.getElem?_toArray, List.getElem?_cons_zero, List.getElem?_cons_succ]; rfl) ?_
    intro K hK
    go_wp2
    refine hK.out _ _ Bw3 ?_
    clear hK K
    refine chainH_alone (by simp only [List.getElem?_toArray, List.getElem?_cons_zero, List.getElem?_cons_succ]; rfl) ?_
    intro K hK
    go_wp2_with fail
    refine (rturn_any f g b HPk.out a p cap xs _ (HI.out.below Bw3) HX.out HX30.out).mono ?_
    rintro e w4 ⟨rfl, hb⟩
    rw [HT.out]
    have Bw4 : Below W.heap.size W w4 := Bw3.trans (hb.mono Bw3.size)
    clear hb
    clear i0 i1 i2
    go_wp2
    refine hK.out _ _ Bw4 ?_
    clear hK K
    refine chainH_alone (by simp only [List.getElem?_toArray, List.getElem?_cons_zero, List.getElem?_cons_succ]; rfl) ?_
    intro K hK
    go_wp2
    refine hK.out _ _ Bw4 ?_
    clear hK K
    refine chainH_alone (by simp only [List.getElem?_toArray, List.getElem?_cons_zero, List.getElem?_cons_succ]; rfl) ?_
    intro K hK
    go_wp2
    refine hK.out _ _ Bw4 ?_
    clear hK K
    refine chainH_alone (by simp only [List.getElem?_toArray, List.getElem?_cons_zero, List.getElem?_cons_succ]; rfl) ?_
    intro K hK
    go_wp2
    refine hK.out _ _ Bw4 ?_
    clear hK K
    refine chainH_take (v := ?_) (by simp only [List.getElem?_toArray, List.getElem?_cons_zero, List.getElem?_cons_succ]; rfl) (by rfl) (fun w hS => ?_) ?_
    rotate_left
    · obtain ⟨a0, a1, a2, -⟩ := whole3 (HP.out.later hS); go_simp <;> with_reducible rfl
    simp only [Act.put, List.setIfInBounds_toArray, List.set_cons_zero, List.set_cons_succ]
    refine chainH_take (v := ?_) (by simp only [List.getElem?_toArray, List.getElem?_cons_zero, List.getElem?_cons_succ]; rfl) (by rfl) (fun w hS => ?_) ?_
    rotate_left
    · obtain ⟨a0, a1, a2, -⟩ := whole3 (HP.out.later hS); go_simp <;> with_reducible rfl
    simp only [Act.put, List.setIfInBounds_toArray, List.set_cons_zero, List.set_cons_succ]
    refine chainH_alone (by simp only [List.getElem?_toArray, List.getElem?_cons_zero, List.getElem?_cons_succ]; rfl) ?_
    intro K hK
    go_wp2_with fail
    refine (right_any f g b _).mono ?_
    rintro e w5 ⟨rfl, hb⟩
    rw [HRt.out]
    have Bw5 : Below W.heap.size W w5 := Bw4.trans (hb.mono Bw4.size)
    clear hb
    go_wp2
    refine hK.out _ _ Bw5 ?_
    clear hK K
    refine chainH_alone (by simp only [List.getElem?_toArray, List.getElem?_cons_zero, List.getElem?_cons_succ]; rfl) ?_
    intro K hK
    go_wp2_with fail
    refine (rright_any f g b _).mono ?_
    rintro e w6 ⟨rfl, hb⟩
    rw [HRt.out]
    have Bw6 : Below W.heap.size W w6 := Bw5.trans (hb.mono Bw5.size)
    clear hb
    go_wp2
    refine hK.out _ _ Bw6 ?_
    clear hK K
    refine chainH_alone (by simp only [List.getElem?_toArray, List.getElem?_cons_zero, List.getElem?_cons_succ]; rfl) ?_
    intro K hK
    go_wp2
    refine hK.out _ _ Bw6 ?_
    clear hK K
    refine chainH_alone (by simp only [List.getElem?_toArray, List.getElem?_cons_zero, List.getElem?_cons_succ]; rfl) ?_
    intro K hK
    go_wp2
    refine hK.out _ _ Bw6 ?_
    clear hK K
    refine chainH_alone (by simp only [List.getElem?_toArray, List.getElem?_cons_zero, List.getElem?_cons_succ]; rfl) ?_
    intro K hK
    go_wp2
    refine hK.out _ _ Bw6 ?_
    clear hK K
    refine chainH_take (v := ?_) (by simp only [List.getElem?_toArray, List.getElem?_cons_zero, List.getElem?_cons_succ]; rfl) (by rfl) (fun w hS => ?_) ?_
    rotate_left
    · go_simp <;> with_reducible rfl
    simp only [Act.put, List.setIfInBounds_toArray, List.set_cons_zero, List.set_cons_succ]
    refine chainH_take (v := ?_) (by simp only [List.getElem?_toArray, List.getElem?_cons_zero, List.getElem?_cons_succ]; rfl) (by rfl) (fun w hS => ?_) ?_
    rotate_left
    · go_simp <;> with_reducible rfl
    simp only [Act.put, List.setIfInBounds_toArray, List.set_cons_zero, List.set_cons_succ]
    refine chainH_take (v := ?_) (by simp only [List.getElem?_toArray, List.getElem?_cons_zero, List.getElem?_cons_succ]; rfl) (by rfl) (fun w hS => ?_) ?_
    rotate_left
    · go_simp <;> with_reducible rfl
    simp only [Act.put, List.setIfInBounds_toArray, List.set_cons_zero, List.set_cons_succ]
    refine chainH_take (v := ?_) (by simp only [List.getElem?_toArray, List.getElem?_cons_zero, List.getElem?_cons_succ]; rfl) (by rfl) (fun w hS => ?_) ?_
    rotate_left
    · go_simp <;> with_reducible rfl
    simp only [Act.put, List.setIfInBounds_toArray, List.set_cons_zero, List.set_cons_succ]
    refine chainH_take (v := ?_) (by simp only [List.getElem?_toArray, List.getElem?_cons_zero, List.getElem?_cons_succ]; rfl) (by rfl) (fun w hS => ?_) ?_
    rotate_left
    · obtain ⟨a0, a1, a2, -⟩ := whole3 (HP.out.later hS); go_simp <;> with_reducible rfl
    simp only [Act.put, List.setIfInBounds_toArray, List.set_cons_zero, List.set_cons_succ]
    refine chainH_take (v := ?_) (by simp only [List.getElem?_toArray, List.getElem?_cons_zero, List.getElem?_cons_succ]; rfl) (by rfl) (fun w hS => ?_) ?_
    rotate_left
    · obtain ⟨a0, a1, a2, -⟩ := whole3 (HP.out.later hS); go_simp <;> with_reducible rfl
    simp only [Act.put, List.setIfInBounds_toArray, List.set_cons_zero, List.set_cons_succ]
    refine chainH_alone (by simp only [List.getElem?_toArray, List.getElem?_cons_zero, List.getElem?_cons_succ]; rfl) ?_
    intro K hK
    go_wp2_with fail
    refine (with_any f g b m on hf hm _).mono ?_
    rintro e w7 ⟨rfl, hb⟩
    have Bw7 : Below W.heap.size W w7 := Bw6.trans (hb.mono Bw6.size)
    clear hb
    go_wp2
    refine hK.out _ _ Bw7 ?_
    clear hK K
    refine chainH_alone (by simp only [List.getElem?_toArray, List.getElem?_cons_zero, List.getElem?_cons_succ]; rfl) ?_
    intro K hK
    go_wp2_with fail
    refine (rwith_any f g b m on hf hm _).mono ?_
    rintro e w8 ⟨rfl, hb⟩
    have Bw8 : Below W.heap.size W w8 := Bw7.trans (hb.mono Bw7.size)
    clear hb
    obtain ⟨i0, i1, i2, -⟩ := whole3 (HP.out.later Bw8)
    go_wp2
    refine hK.out _ _ Bw8 ?_
    clear hK K
    refine chainH_alone (by simp only [List.getElem?_toArray, List.getElem?_cons_zero, List.getElem?_cons_succ]; rfl) ?_
    intro K hK
    go_wp2
    refine hK.out _ _ Bw8 ?_
    clear hK K
    refine chainH_alone (by simp only [List.getElem?_toArray, List.getElem?_cons_zero, List.getElem?_cons_succ]; rfl) ?_
    intro K hK
    go_wp2
    refine hK.out _ _ Bw8 ?_
    clear hK K
    refine chainH_alone (by simp only [List.getElem?_toArray, List.getElem?_cons_zero, List.getElem?_cons_succ]; rfl) ?_
    intro K hK
    go_wp2
    refine hK.out _ _ Bw8 ?_
    clear hK K
    refine chainH_alone (by simp only [List.getElem?_toArray, List.getElem?_cons_zero, List.getElem?_cons_succ]; rfl) ?_
    intro K hK
    go_wp2
    refine hK.out _ _ Bw8 ?_
    clear hK K
    refine chainH_alone (by simp only [List.getElem?_toArray, List.getElem?_cons_zero, List.getElem?_cons_succ]; rfl) ?_
    intro K hK
    go_wp2_with fail
    refine (right_any f g b _).mono ?_
    rintro e w9 ⟨rfl, hb⟩
    rw [HRt.out]
    have Bw9 : Below W.heap.size W w9 := Bw8.trans (hb.mono Bw8.size)
    clear hb
    clear i0 i1 i2
    obtain ⟨i0, i1, i2, -⟩ := whole3 (HQ.out.later Bw9)
    go_wp2
    refine hK.out _ _ Bw9 ?_
    clear hK K
    refine chainH_alone (by simp only [List.getElem?_toArray, List.getElem?_cons_zero, List.getElem?_cons_succ]; rfl) ?_
    intro K hK
    go_wp2
    refine hK.out _ _ Bw9 ?_
    clear hK K
    refine chainH_alone (by simp only [List.getElem?_toArray, List.getElem?_cons_zero, List.getElem?_cons_succ]; rfl) ?_
    intro K hK
    go_wp2
    refine hK.out _ _ Bw9 ?_
    clear hK K
    refine chainH_alone (by simp only [List.getElem?_toArray, List.getElem?_cons_zero, List.getElem?_cons_succ]; rfl) ?_
    intro K hK
    go_wp2
    refine hK.out _ _ Bw9 ?_
    clear hK K
    refine chainH_alone (by simp only [List.getElem?_toArray, List.getElem?_cons_zero, List.getElem?_cons_succ]; rfl) ?_
    intro K hK
    go_wp2_with fail
    refine (right_any F G B _).mono ?_
    rintro e w10 ⟨rfl, hb⟩
    rw [HRq.out]
    have Bw10 : Below W.heap.size W w10 := Bw9.trans (hb.mono Bw9.size)
    clear hb
    go_wp2
    refine hK.out _ _ Bw10 ?_
    clear hK K
    refine chainH_alone (by simp only [List.getElem?_toArray, List.getElem?_cons_zero, List.getElem?_cons_succ]; rfl) ?_
    intro K hK
    go_wp2
    refine hK.out _ _ Bw10 ?_
    clear hK K
    refine chainH_alone (by simp only [List.getElem?_toArray, List.getElem?_cons_zero, List.getElem?_cons_succ]; rfl) ?_
    intro K hK
    go_wp2
    refine hK.out _ _ Bw10 ?_
    clear hK K
    refine chainH_alone (by simp only [List.getElem?_toArray, List.getElem?_cons_zero, List.getElem?_cons_succ]; rfl) ?_
    intro K hK
    go_wp2
    refine hK.out _ _ Bw10 ?_
    clear hK K
    refine chainH_nil ?_
    have hbel2 := hbel.trans (Bw10.mono hbel.size)
    go_wp2
    go_ret
    exact ⟨rfl, hbel2⟩
end Go.Proofs.Ythedfbkkeolkmaa
