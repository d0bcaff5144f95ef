/-
  The walk of the law UtfRunes.
-/
import Derived.Test.YtlblkoijkaaciaaKnown
import Derived.Test.YtlblkoijkaaciaaChainH
import Derived.Lib.MinMax
namespace Go.Proofs.Ytlblkoijkaaciaa
open Go.ChangeShapes Go.WideShapes Go.ChangeAt Go.RowKit
set_option linter.unusedVariables false

set_option maxRecDepth 100000 in
set_option maxHeartbeats 2000000 in
theorem utfRunes_walk (a : Option Addr) (len cap : Nat) (zs : List Int) (w : World) (hrow : IsRow .u8 w a len cap zs) :
    Calls Try.prog 4 #[.slice a len cap] w fun e w' => e = .returned (.bool true) ∧ Below w.heap.size w w' := by
  obtain ⟨hz, hl, hn0, hmaxl⟩ := hrow.len
  obtain ⟨n, hn, hn60, hnl⟩ : ∃ n : Nat, min (len : Int) 60 = (n : Int) ∧ n ≤ 60 ∧ n ≤ len := ⟨min len 60, by omega, by omega, by omega⟩
  have hi := hrow.ints.take n
  have hy : Byte (zs.take n) := byte_of hrow.wf n
  have hx : (zs.take n).length = n := by rw [List.length_take]; omega
  have hmax := hmaxl
  unfold maxLen at hmax
  clear hrow
  have HX := hide hx
  have HN0 := hide hn0
  have hncap : n ≤ cap := by omega
  clear hz hn0 hx
  generalize zs.take n = xs at *
  have hrl := runes_len xs
  rw [HX.out] at hrl
  have hrn := rn_runes xs hy
  have hel := encA_len (runes xs)
  have hfr := first_range xs hy
  have hfl := first_le4 xs
  obtain ⟨r, q, hrq⟩ : ∃ r q, first xs = (r, q) := ⟨_, _, rfl⟩
  rw [hrq] at hfr hfl
  obtain ⟨hr0, hr1⟩ := hfr
  simp only at hr0 hr1 hfl
  have HRQ := hide hrq
  clear hrq
  obtain ⟨vb, hvb⟩ : ∃ vb, vld xs = vb := ⟨_, rfl⟩
  have hst : ((strOf (encA (runes xs))).toList == (strOf xs).toList) = vb := by
    rw [strOf_beq _ _ (encA_byte _) hy, ← vld_iff xs hy, hvb]
  have HVB := hide hvb
  have HST := hide hst
  clear hvb hst
  go_enter Try.func4, Try.ntmps4
  go_wp2_with fail
  refine (first_any a n cap xs w hi HX.out hncap hmaxl (by omega) hy).mono ?_
  rintro e w2 ⟨rfl, hb2⟩
  rw [HRQ.out]
  go_wp2_with fail
  refine (rfirst_any a n cap xs w2 (hi.below hb2) HX.out hncap (by omega) hy).mono ?_
  rintro e w3 ⟨rfl, hb3⟩
  rw [HRQ.out]
  replace hb3 : Below w.heap.size w w3 := hb2.trans (hb3.mono hb2.size)
  go_wp2_with fail
  refine (rrunes_any a n cap xs w3 (hi.below hb3) HX.out hncap HN0.out hmaxl (by omega) hy).mono ?_
  rintro e w4 ⟨v4, rfl, hv4⟩
  obtain ⟨A4, c4, rfl, hi4, _, _, _⟩ := hv4.form2
  have hb4 : Below w.heap.size w w4 := hb3.trans (hv4.bel.mono hb3.size)
  have hiX := hi.below hb4
  clear hi hb2 hb3 hv4
  have HS : Hid (∀ w', Below w4.heap.size w4 w' → (convert 23 9 (.slice a n cap)).run Try.prog w' = .ok (.string (strOf xs)) w') := fun w' h => by
    have := run_strOf (P := Try.prog) w' 23 9 5 Try.underlying23 Try.underlying5 Try.underlying9 a cap xs (hiX.below h) hy
    rw [HX.out] at this; exact this
  have t1 : (r == r) = true := by simp
  have t2 : ((q : Int) == (q : Int)) = true := by simp
  have t3 : (vb == vb) = true := by simp
  go_wp2
  refine wp_region_chainH (fun w' => Below w4.heap.size w4 w') [(false, 0), (false, 1), (true, 2), (true, 4), (false, 3), (false, 5), (false, 6), (false, 7), (true, 8), (false, 9), (false, 10), (false, 11), (false, 12), (true, 13), (true, 15), (false, 14), (false, 16), (false, 17), (false, 18), (true, 19), (true, 21), (true, 24), (true, 25), (false, 20), (false, 22), (false, 23), (false, 26), (false, 27), (false, 28), (false, 29)] (by kernel_rfl) (by kernel_rfl) (by kernel_rfl) (fun _ _ _ _ _ h => h) ?_ ?_
  · exact (Below.refl _ _).drewN 1
  refine chainH_alone (by simp only [List.getElem?_toArray, List.getElem?_cons_zero]; rfl) ?_
  intro K hK
  go_wp2_with fail
  refine (known_any _).mono ?_
  rintro e w5 ⟨rfl, hb⟩
  have hb5 : Below w4.heap.size w4 w5 := ((Below.refl _ _).drewN 1).trans hb
  clear hb
  go_wp2
  refine hK.out _ _ hb5 ?_
  clear hK K
  refine chainH_alone (by simp only [List.getElem?_toArray, List.getElem?_cons_zero, List.getElem?_cons_succ]; rfl) ?_
  intro K hK
  go_wp2
  refine hK.out _ _ hb5 ?_
  clear hK K
  refine chainH_take (v := ?_) (by simp only [List.getElem?_toArray, List.getElem?_cons_zero, List.getElem?_cons_succ]; rfl) (by rfl) (fun w hS => ?_) ?_
  rotate_left
  · go_simp <;> with_reducible rfl
  simp only [Act.put, List.setIfInBounds_toArray, List.set_cons_zero, List.set_cons_succ]
  refine chainH_take (v := ?_) (by simp only [List.getElem?_toArray, List.getElem?_cons_zero, List.getElem?_cons_succ]; rfl) (by rfl) (fun w hS => ?_) ?_
  rotate_left
  · go_simp <;> with_reducible rfl
  simp only [Act.put, List.setIfInBounds_toArray, List.set_cons_zero, List.set_cons_succ]
  refine chainH_alone (by simp only [List.getElem?_toArray, List.getElem?_cons_zero, List.getElem?_cons_succ]; rfl) ?_
  intro K hK
  go_wp2
  refine hK.out _ _ hb5 ?_
  clear hK K
  refine chainH_alone (by simp only [List.getElem?_toArray, List.getElem?_cons_zero, List.getElem?_cons_succ]; rfl) ?_
  intro K hK
  go_wp2
  refine hK.out _ _ hb5 ?_
  clear hK K
  refine chainH_alone (by simp only [List.getElem?_toArray, List.getElem?_cons_zero, List.getElem?_cons_succ]; rfl) ?_
  intro K hK
  go_wp2
  refine hK.out _ _ hb5 ?_
  clear hK K
  refine chainH_alone (by simp only [List.getElem?_toArray, List.getElem?_cons_zero, List.getElem?_cons_succ]; rfl) ?_
  intro K hK
  go_wp2
  refine hK.out _ _ hb5 ?_
  clear hK K
  refine chainH_take (v := ?_) (by simp only [List.getElem?_toArray, List.getElem?_cons_zero, List.getElem?_cons_succ]; rfl) (by rfl) (fun w hS => ?_) ?_
  rotate_left
  · go_simp <;> with_reducible rfl
  simp only [Act.put, List.setIfInBounds_toArray, List.set_cons_zero, List.set_cons_succ]
  refine chainH_alone (by simp only [List.getElem?_toArray, List.getElem?_cons_zero, List.getElem?_cons_succ]; rfl) ?_
  intro K hK
  go_wp2
  refine hK.out _ _ hb5 ?_
  clear hK K
  refine chainH_alone (by simp only [List.getElem?_toArray, List.getElem?_cons_zero, List.getElem?_cons_succ]; rfl) ?_
  intro K hK
  go_wp2
  refine hK.out _ _ hb5 ?_
  clear hK K
  refine chainH_alone (by simp only [List.getElem?_toArray, List.getElem?_cons_zero, List.getElem?_cons_succ]; rfl) ?_
  intro K hK
  go_wp2
  refine hK.out _ _ hb5 ?_
  clear hK K
  refine chainH_alone (by simp only [List.getElem?_toArray, List.getElem?_cons_zero, List.getElem?_cons_succ]; rfl) ?_
  intro K hK
  go_wp2
  refine hK.out _ _ hb5 ?_
  clear hK K
  refine chainH_take (v := ?_) (by simp only [List.getElem?_toArray, List.getElem?_cons_zero, List.getElem?_cons_succ]; rfl) (by rfl) (fun w hS => ?_) ?_
  rotate_left
  · go_simp <;> with_reducible rfl
  simp only [Act.put, List.setIfInBounds_toArray, List.set_cons_zero, List.set_cons_succ]
  refine chainH_take (v := ?_) (by simp only [List.getElem?_toArray, List.getElem?_cons_zero, List.getElem?_cons_succ]; rfl) (by rfl) (fun w hS => ?_) ?_
  rotate_left
  · go_simp <;> with_reducible rfl
  simp only [Act.put, List.setIfInBounds_toArray, List.set_cons_zero, List.set_cons_succ]
  refine chainH_alone (by simp only [List.getElem?_toArray, List.getElem?_cons_zero, List.getElem?_cons_succ]; rfl) ?_
  intro K hK
  go_wp2_with fail
  refine (runes_any a n cap xs w5 (hiX.below hb5) HX.out hncap HN0.out hmaxl (by omega) hy).mono ?_
  rintro e w6 ⟨v6, rfl, hv6⟩
  obtain ⟨A6, c6, rfl, hi6, _, _, _⟩ := hv6.form2
  have hb6 : Below w4.heap.size w4 w6 := hb5.trans (hv6.bel.mono hb5.size)
  go_wp2
  refine hK.out _ _ hb6 ?_
  clear hK K
  refine chainH_alone (by simp only [List.getElem?_toArray, List.getElem?_cons_zero, List.getElem?_cons_succ]; rfl) ?_
  intro K hK
  go_wp2_with fail
  refine (same_yes A6 A4 _ c6 c4 (runes xs) w6 hi6 (hi4.below hb6) rfl (by omega) hrn).mono ?_
  rintro e w7 ⟨rfl, hb⟩
  have hb7 : Below w4.heap.size w4 w7 := hb6.trans (hb.mono hb6.size)
  clear hb
  go_wp2
  refine hK.out _ _ hb7 ?_
  clear hK K
  refine chainH_alone (by simp only [List.getElem?_toArray, List.getElem?_cons_zero, List.getElem?_cons_succ]; rfl) ?_
  intro K hK
  go_wp2
  refine hK.out _ _ hb7 ?_
  clear hK K
  refine chainH_alone (by simp only [List.getElem?_toArray, List.getElem?_cons_zero, List.getElem?_cons_succ]; rfl) ?_
  intro K hK
  go_wp2
  refine hK.out _ _ hb7 ?_
  clear hK K
  refine chainH_take (v := ?_) (by simp only [List.getElem?_toArray, List.getElem?_cons_zero, List.getElem?_cons_succ]; rfl) (by rfl) (fun w hS => ?_) ?_
  rotate_left
  · go_simp <;> with_reducible rfl
  simp only [Act.put, List.setIfInBounds_toArray, List.set_cons_zero, List.set_cons_succ]
  refine chainH_take (v := ?_) (by simp only [List.getElem?_toArray, List.getElem?_cons_zero, List.getElem?_cons_succ]; rfl) (by rfl) (fun w hS => ?_) ?_
  rotate_left
  · go_simp <;> with_reducible rfl
  simp only [Act.put, List.setIfInBounds_toArray, List.set_cons_zero, List.set_cons_succ]
  refine chainH_take (v := ?_) (by simp only [List.getElem?_toArray, List.getElem?_cons_zero, List.getElem?_cons_succ]; rfl) (by rfl) (fun w hS => ?_) ?_
  rotate_left
  · go_simp <;> with_reducible rfl
  simp only [Act.put, List.setIfInBounds_toArray, List.set_cons_zero, List.set_cons_succ]
  refine chainH_take (v := ?_) (by simp only [List.getElem?_toArray, List.getElem?_cons_zero, List.getElem?_cons_succ]; rfl) (by rfl) (fun w hS => ?_) ?_
  rotate_left
  · have := HS.out w hS; go_simp <;> with_reducible rfl
  simp only [Act.put, List.setIfInBounds_toArray, List.set_cons_zero, List.set_cons_succ]
  refine chainH_alone (by simp only [List.getElem?_toArray, List.getElem?_cons_zero, List.getElem?_cons_succ]; rfl) ?_
  intro K hK
  go_wp2_with fail
  refine (valid_any a n cap xs w7 (hiX.below hb7) HX.out (by omega) hy).mono ?_
  rintro e w8 ⟨rfl, hb⟩
  have hb8 : Below w4.heap.size w4 w8 := hb7.trans (hb.mono hb7.size)
  clear hb
  go_wp2
  refine hK.out _ _ hb8 ?_
  clear hK K
  refine chainH_alone (by simp only [List.getElem?_toArray, List.getElem?_cons_zero, List.getElem?_cons_succ]; rfl) ?_
  intro K hK
  go_wp2_with fail
  refine (all_any A4 _ c4 (runes xs) w8 (hi4.below hb8) rfl (by omega)).mono ?_
  rintro e w9 ⟨v9, rfl, hv9⟩
  obtain ⟨A9, c9, rfl, hi9, _, _, _⟩ := hv9.form2
  have hb9 : Below w4.heap.size w4 w9 := hb8.trans (hv9.bel.mono hb8.size)
  have r9 := run_strOf (P := Try.prog) w9 23 9 5 Try.underlying23 Try.underlying5 Try.underlying9 A9 c9 _ hi9 (encA_byte _)
  go_wp2
  refine hK.out _ _ hb9 ?_
  clear hK K
  refine chainH_alone (by simp only [List.getElem?_toArray, List.getElem?_cons_zero, List.getElem?_cons_succ]; rfl) ?_
  intro K hK
  go_wp2
  refine hK.out _ _ hb9 ?_
  clear hK K
  refine chainH_alone (by simp only [List.getElem?_toArray, List.getElem?_cons_zero, List.getElem?_cons_succ]; rfl) ?_
  intro K hK
  go_wp2
  refine hK.out _ _ hb9 ?_
  clear hK K
  refine chainH_alone (by simp only [List.getElem?_toArray, List.getElem?_cons_zero, List.getElem?_cons_succ]; rfl) ?_
  intro K hK
  go_wp2
  refine hK.out _ _ hb9 ?_
  clear hK K
  refine chainH_alone (by simp only [List.getElem?_toArray, List.getElem?_cons_zero, List.getElem?_cons_succ]; rfl) ?_
  intro K hK
  go_wp2
  refine hK.out _ _ hb9 ?_
  clear hK K
  refine chainH_alone (by simp only [List.getElem?_toArray, List.getElem?_cons_zero, List.getElem?_cons_succ]; rfl) ?_
  intro K hK
  go_wp2
  refine hK.out _ _ hb9 ?_
  clear hK K
  refine chainH_nil ?_
  go_wp2
  go_ret
  exact ⟨(ret_bool (by rw [HVB.out, HST.out]; exact t3) : Ending.returned (.bool (vld xs == ((strOf (encA (runes xs))).toList == (strOf xs).toList))) = .returned (.bool true)), hb4.trans (hb9.mono hb4.size)⟩
end Go.Proofs.Ytlblkoijkaaciaa
