/-
  The walk of the law NumReads.
-/
import Derived.Test.YtllhhadhogbcdaaRow
import Derived.Test.YtllhhadhogbcdaaChain
namespace Go.Proofs.Ytllhhadhogbcdaa
open Go.ChangeShapes Go.WideShapes Go.ChangeAt Go.RowKit


set_option maxRecDepth 100000 in
set_option maxHeartbeats 1000000 in
theorem numReads_walk (a : Option Addr) (len cap : Nat) (zs : List Int) (w : World) (hrow : IsRow .u8 w a len cap zs) :
    Calls Try.prog 4 #[.slice a len cap] w fun e w' => e = .returned (.bool true) ∧ Below w.heap.size w w' := by
  obtain ⟨hz, hl, hn0, hmax⟩ := hrow.len
  obtain ⟨n, hn, hn40, hnl⟩ : ∃ n : Nat, min (len : Int) 40 = (n : Int) ∧ n ≤ 40 ∧ n ≤ len := ⟨min len 40, by omega, by omega, by omega⟩
  have hi := hrow.ints.take n
  have hb := byte_of hrow.wf n
  have hx : (zs.take n).length = n := by rw [List.length_take]; omega
  unfold maxLen at hmax
  clear hrow
  have HX := hide hx
  clear hz hn0 hx
  generalize zs.take n = xs at *
  have HC := hide (rd_cases xs hb)
  go_enter Try.func4, Try.ntmps4
  go_wp2_with fail
  refine (read_any a n cap xs w hi HX.out (by omega) hb).mono ?_
  rintro e w1 ⟨rfl, rfl⟩
  go_wp2_with fail
  refine (rread_any a n cap xs w hi HX.out (by omega) hb).mono ?_
  rintro e w1 ⟨rfl, rfl⟩
  rcases HC.out with h | h | ⟨N, s, h, hN, hs, he⟩
  · rw [h]
    clear h HC
    go_wp2
    refine wp_region_chain [(false, [0, 1]), (true, [2]), (false, [3, 4, 5, 6]), (true, [7]), (false, [8, 9, 10, 11]), (true, [12]), (false, [13, 14, 15, 16, 17, 18, 19]), (true, [20]), (true, [23]), (true, [24]), (true, [25]), (false, [21, 22, 26, 27, 28, 29])] (by kernel_rfl) (by kernel_rfl) (by kernel_rfl) (fun _ _ _ _ _ h => h) ?_
    refine chain_alone (by simp only [pickOps, List.getElem?_toArray, List.getElem?_cons_zero, List.getElem?_cons_succ]; rfl) ?_
    intro K hK
    go_wp2_with fail
    refine (known_any _).mono ?_
    rintro e w1 ⟨rfl, hb1⟩
    replace hb1 : Below w.heap.size w w1 := (Below.refl w.heap.size w).drew.trans hb1
    go_wp2
    refine hK.out _ _ ?_
    clear hK K
    refine chain_take (v := ?_) (by simp only [pickOps, List.getElem?_toArray, List.getElem?_cons_zero, List.getElem?_cons_succ]; rfl) (Or.inl ⟨rfl, fun w => ?_⟩) ?_
    rotate_left
    · go_simp <;> with_reducible rfl
    simp only [Act.put, List.setIfInBounds_toArray, List.set_cons_zero, List.set_cons_succ]
    refine chain_alone (by simp only [pickOps, List.getElem?_toArray, List.getElem?_cons_zero, List.getElem?_cons_succ]; rfl) ?_
    intro K hK
    go_wp2
    refine hK.out _ _ ?_
    clear hK K
    refine chain_take (v := ?_) (by simp only [pickOps, List.getElem?_toArray, List.getElem?_cons_zero, List.getElem?_cons_succ]; rfl) (Or.inl ⟨rfl, fun w => ?_⟩) ?_
    rotate_left
    · go_simp <;> with_reducible rfl
    simp only [Act.put, List.setIfInBounds_toArray, List.set_cons_zero, List.set_cons_succ]
    refine chain_alone (by simp only [pickOps, List.getElem?_toArray, List.getElem?_cons_zero, List.getElem?_cons_succ]; rfl) ?_
    intro K hK
    go_wp2
    refine hK.out _ _ ?_
    clear hK K
    refine chain_take (v := ?_) (by simp only [pickOps, List.getElem?_toArray, List.getElem?_cons_zero, List.getElem?_cons_succ]; rfl) (Or.inl ⟨rfl, fun w => ?_⟩) ?_
    rotate_left
    · go_simp <;> with_reducible rfl
    simp only [Act.put, List.setIfInBounds_toArray, List.set_cons_zero, List.set_cons_succ]
    refine chain_alone (by simp only [pickOps, List.getElem?_toArray, List.getElem?_cons_zero, List.getElem?_cons_succ]; rfl) ?_
    intro K hK
    go_wp2
    refine hK.out _ _ ?_
    clear hK K
    refine chain_take (by simp only [pickOps, List.getElem?_toArray, List.getElem?_cons_zero, List.getElem?_cons_succ]; rfl) (Or.inr ⟨rfl, rfl⟩) ?_
    simp only [Act.put, List.setIfInBounds_toArray, List.set_cons_zero, List.set_cons_succ]
    refine chain_take (by simp only [pickOps, List.getElem?_toArray, List.getElem?_cons_zero, List.getElem?_cons_succ]; rfl) (Or.inr ⟨rfl, rfl⟩) ?_
    simp only [Act.put, List.setIfInBounds_toArray, List.set_cons_zero, List.set_cons_succ]
    refine chain_take (by simp only [pickOps, List.getElem?_toArray, List.getElem?_cons_zero, List.getElem?_cons_succ]; rfl) (Or.inr ⟨rfl, rfl⟩) ?_
    simp only [Act.put, List.setIfInBounds_toArray, List.set_cons_zero, List.set_cons_succ]
    refine chain_take (by simp only [pickOps, List.getElem?_toArray, List.getElem?_cons_zero, List.getElem?_cons_succ]; rfl) (Or.inr ⟨rfl, rfl⟩) ?_
    simp only [Act.put, List.setIfInBounds_toArray, List.set_cons_zero, List.set_cons_succ]
    refine chain_alone (by simp only [pickOps, List.getElem?_toArray, List.getElem?_cons_zero, List.getElem?_cons_succ]; rfl) ?_
    intro K hK
    go_wp2
    refine hK.out _ _ ?_
    clear hK K
    refine chain_nil ?_
    go_wp2
    go_ret
    exact ⟨rfl, hb1⟩
  · rw [h]
    clear h HC
    go_wp2
    refine wp_region_chain [(false, [0, 1]), (true, [2]), (false, [3, 4, 5, 6]), (true, [7]), (false, [8, 9, 10, 11]), (true, [12]), (false, [13, 14, 15, 16, 17, 18, 19]), (true, [20]), (true, [23]), (true, [24]), (true, [25]), (false, [21, 22, 26, 27, 28, 29])] (by kernel_rfl) (by kernel_rfl) (by kernel_rfl) (fun _ _ _ _ _ h => h) ?_
    refine chain_alone (by simp only [pickOps, List.getElem?_toArray, List.getElem?_cons_zero, List.getElem?_cons_succ]; rfl) ?_
    intro K hK
    go_wp2_with fail
    refine (known_any _).mono ?_
    rintro e w1 ⟨rfl, hb1⟩
    replace hb1 : Below w.heap.size w w1 := (Below.refl w.heap.size w).drew.trans hb1
    go_wp2
    refine hK.out _ _ ?_
    clear hK K
    refine chain_take (v := ?_) (by simp only [pickOps, List.getElem?_toArray, List.getElem?_cons_zero, List.getElem?_cons_succ]; rfl) (Or.inl ⟨rfl, fun w => ?_⟩) ?_
    rotate_left
    · go_simp <;> with_reducible rfl
    simp only [Act.put, List.setIfInBounds_toArray, List.set_cons_zero, List.set_cons_succ]
    refine chain_alone (by simp only [pickOps, List.getElem?_toArray, List.getElem?_cons_zero, List.getElem?_cons_succ]; rfl) ?_
    intro K hK
    go_wp2
    refine hK.out _ _ ?_
    clear hK K
    refine chain_take (v := ?_) (by simp only [pickOps, List.getElem?_toArray, List.getElem?_cons_zero, List.getElem?_cons_succ]; rfl) (Or.inl ⟨rfl, fun w => ?_⟩) ?_
    rotate_left
    · go_simp <;> with_reducible rfl
    simp only [Act.put, List.setIfInBounds_toArray, List.set_cons_zero, List.set_cons_succ]
    refine chain_alone (by simp only [pickOps, List.getElem?_toArray, List.getElem?_cons_zero, List.getElem?_cons_succ]; rfl) ?_
    intro K hK
    go_wp2
    refine hK.out _ _ ?_
    clear hK K
    refine chain_take (v := ?_) (by simp only [pickOps, List.getElem?_toArray, List.getElem?_cons_zero, List.getElem?_cons_succ]; rfl) (Or.inl ⟨rfl, fun w => ?_⟩) ?_
    rotate_left
    · go_simp <;> with_reducible rfl
    simp only [Act.put, List.setIfInBounds_toArray, List.set_cons_zero, List.set_cons_succ]
    refine chain_alone (by simp only [pickOps, List.getElem?_toArray, List.getElem?_cons_zero, List.getElem?_cons_succ]; rfl) ?_
    intro K hK
    go_wp2
    refine hK.out _ _ ?_
    clear hK K
    refine chain_take (by simp only [pickOps, List.getElem?_toArray, List.getElem?_cons_zero, List.getElem?_cons_succ]; rfl) (Or.inr ⟨rfl, rfl⟩) ?_
    simp only [Act.put, List.setIfInBounds_toArray, List.set_cons_zero, List.set_cons_succ]
    refine chain_take (by simp only [pickOps, List.getElem?_toArray, List.getElem?_cons_zero, List.getElem?_cons_succ]; rfl) (Or.inr ⟨rfl, rfl⟩) ?_
    simp only [Act.put, List.setIfInBounds_toArray, List.set_cons_zero, List.set_cons_succ]
    refine chain_take (by simp only [pickOps, List.getElem?_toArray, List.getElem?_cons_zero, List.getElem?_cons_succ]; rfl) (Or.inr ⟨rfl, rfl⟩) ?_
    simp only [Act.put, List.setIfInBounds_toArray, List.set_cons_zero, List.set_cons_succ]
    refine chain_take (by simp only [pickOps, List.getElem?_toArray, List.getElem?_cons_zero, List.getElem?_cons_succ]; rfl) (Or.inr ⟨rfl, rfl⟩) ?_
    simp only [Act.put, List.setIfInBounds_toArray, List.set_cons_zero, List.set_cons_succ]
    refine chain_alone (by simp only [pickOps, List.getElem?_toArray, List.getElem?_cons_zero, List.getElem?_cons_succ]; rfl) ?_
    intro K hK
    go_wp2
    refine hK.out _ _ ?_
    clear hK K
    refine chain_nil ?_
    go_wp2
    go_ret
    exact ⟨rfl, hb1⟩
  · rw [h]
    clear h HC
    have HE := hide he
    clear he
    have hsn : s ≤ n := by rw [← HX.out]; exact hs
    have hscap : s ≤ cap := by omega
    have HS : Hid ((enc N).length = s) := by unfold Hid; rw [HE.out, List.length_take]; omega
    go_wp2
    refine wp_region_chain [(false, [0, 1]), (true, [2]), (false, [3, 4, 5, 6]), (true, [7]), (false, [8, 9, 10, 11]), (true, [12]), (false, [13, 14, 15, 16, 17, 18, 19]), (true, [20]), (true, [23]), (true, [24]), (true, [25]), (false, [21, 22, 26, 27, 28, 29])] (by kernel_rfl) (by kernel_rfl) (by kernel_rfl) (fun _ _ _ _ _ h => h) ?_
    refine chain_alone (by simp only [pickOps, List.getElem?_toArray, List.getElem?_cons_zero, List.getElem?_cons_succ]; rfl) ?_
    intro K hK
    go_wp2_with fail
    refine (known_any _).mono ?_
    rintro e w1 ⟨rfl, hb1⟩
    replace hb1 : Below w.heap.size w w1 := (Below.refl w.heap.size w).drew.trans hb1
    go_wp2
    refine hK.out _ _ ?_
    clear hK K
    refine chain_take (v := ?_) (by simp only [pickOps, List.getElem?_toArray, List.getElem?_cons_zero, List.getElem?_cons_succ]; rfl) (Or.inl ⟨rfl, fun w => ?_⟩) ?_
    rotate_left
    · go_simp <;> with_reducible rfl
    simp only [Act.put, List.setIfInBounds_toArray, List.set_cons_zero, List.set_cons_succ]
    refine chain_alone (by simp only [pickOps, List.getElem?_toArray, List.getElem?_cons_zero, List.getElem?_cons_succ]; rfl) ?_
    intro K hK
    go_wp2
    refine hK.out _ _ ?_
    clear hK K
    refine chain_take (v := ?_) (by simp only [pickOps, List.getElem?_toArray, List.getElem?_cons_zero, List.getElem?_cons_succ]; rfl) (Or.inl ⟨rfl, fun w => ?_⟩) ?_
    rotate_left
    · go_simp <;> with_reducible rfl
    simp only [Act.put, List.setIfInBounds_toArray, List.set_cons_zero, List.set_cons_succ]
    refine chain_alone (by simp only [pickOps, List.getElem?_toArray, List.getElem?_cons_zero, List.getElem?_cons_succ]; rfl) ?_
    intro K hK
    go_wp2
    refine hK.out _ _ ?_
    clear hK K
    refine chain_take (v := ?_) (by simp only [pickOps, List.getElem?_toArray, List.getElem?_cons_zero, List.getElem?_cons_succ]; rfl) (Or.inl ⟨rfl, fun w => ?_⟩) ?_
    rotate_left
    · go_simp <;> with_reducible rfl
    simp only [Act.put, List.setIfInBounds_toArray, List.set_cons_zero, List.set_cons_succ]
    refine chain_alone (by simp only [pickOps, List.getElem?_toArray, List.getElem?_cons_zero, List.getElem?_cons_succ]; rfl) ?_
    intro K hK
    go_wp2
    refine hK.out _ _ ?_
    clear hK K
    refine chain_take (v := ?_) (by simp only [pickOps, List.getElem?_toArray, List.getElem?_cons_zero, List.getElem?_cons_succ]; rfl) (Or.inl ⟨rfl, fun w => ?_⟩) ?_
    rotate_left
    · go_simp <;> with_reducible rfl
    simp only [Act.put, List.setIfInBounds_toArray, List.set_cons_zero, List.set_cons_succ]
    refine chain_take (v := ?_) (by simp only [pickOps, List.getElem?_toArray, List.getElem?_cons_zero, List.getElem?_cons_succ]; rfl) (Or.inl ⟨rfl, fun w => ?_⟩) ?_
    rotate_left
    · go_simp <;> with_reducible rfl
    simp only [Act.put, List.setIfInBounds_toArray, List.set_cons_zero, List.set_cons_succ]
    refine chain_take (v := ?_) (by simp only [pickOps, List.getElem?_toArray, List.getElem?_cons_zero, List.getElem?_cons_succ]; rfl) (Or.inl ⟨rfl, fun w => ?_⟩) ?_
    rotate_left
    · go_simp <;> with_reducible rfl
    simp only [Act.put, List.setIfInBounds_toArray, List.set_cons_zero, List.set_cons_succ]
    refine chain_take (v := ?_) (by simp only [pickOps, List.getElem?_toArray, List.getElem?_cons_zero, List.getElem?_cons_succ]; rfl) (Or.inl ⟨rfl, fun w => ?_⟩) ?_
    rotate_left
    · go_simp <;> with_reducible rfl
    simp only [Act.put, List.setIfInBounds_toArray, List.set_cons_zero, List.set_cons_succ]
    refine chain_alone (by simp only [pickOps, List.getElem?_toArray, List.getElem?_cons_zero, List.getElem?_cons_succ]; rfl) ?_
    intro K hK
    go_wp2_with fail
    refine (bytes_any _ 1 1 [(N : Int)] _ (Ints.new .u64 w1 27 [(N : Int)]) rfl (by omega) (by simp; omega)).mono ?_
    rintro e w2 ⟨v2, rfl, hv2⟩
    rw [encAll_one, Int.toNat_natCast] at hv2
    obtain ⟨A2, c2, rfl, i2, hc2, hA2⟩ := hv2.form
    have hb12 : Below w1.heap.size w1 w2 := ((Below.refl _ _).alloc (Nat.le_refl _) _).trans (hv2.bel.mono (by simp))
    have hb02 : Below w.heap.size w w2 := hb1.trans (hb12.mono hb1.size)
    go_wp2_with fail
    rw [HS.out]
    refine (same_yes A2 a s c2 cap (enc N) w2 i2 (by rw [HE.out]; exact (hi.take s).below hb02) HS.out (enc_byte N hN)).mono ?_
    rintro e w3 ⟨rfl, rfl⟩
    go_wp2
    refine hK.out _ _ ?_
    clear hK K
    refine chain_nil ?_
    go_wp2
    go_ret
    exact ⟨rfl, hb02⟩
end Go.Proofs.Ytllhhadhogbcdaa
