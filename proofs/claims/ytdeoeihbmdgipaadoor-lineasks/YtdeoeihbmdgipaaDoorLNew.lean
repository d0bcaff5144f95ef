/-
  Contracts: so many blanks; a line, mended; a part of a line; a line of another length.
-/
import Derived.Test.YtdeoeihbmdgipaaDoorLOwn
namespace Go.Proofs.YtdeoeihbmdgipaaDoor
open Go.ChangeShapes Go.WideShapes Go.ChangeAt Go.RowKit
set_option linter.unusedVariables false

theorem fill_new (n : Int) : fillC (List.replicate (lenN n) zeroC) 0 (lenN n) (blankC zeroP) = newC n := by
  unfold fillC newC
  rw [List.length_replicate]
  exact tab_eq fun i hi => by rw [if_pos (by omega)]
theorem new_len (n : Int) : (newC n).length = lenN n := tab_len _ _
set_option maxRecDepth 100000 in
set_option maxHeartbeats 1000000 in
theorem new_any (n : Int) (w : World) : Calls Tryd.prog 22 #[.int .i64 n] w (Lined (newC n) w) := by
  obtain ⟨N, hN⟩ : ∃ N, lenN n = N := ⟨_, rfl⟩
  have hm : min (max n 0) 512 = (N : Int) := by rw [← hN]; unfold lenN; omega
  have hl : N ≤ 512 := by rw [← hN]; exact lenN_le n
  have HN := hide hN
  clear hN
  go_enter Tryd.func22, Tryd.ntmps22
  go_wp2_with (at_make; refine stopw ?_)
  unfold Hid
  refine wpList_makeL elemL rfl _ _ rfl N rfl rfl (by omega) (by omega) ?_
  intro w1 hw1 hb1
  have HW1 := hide hw1
  have HB1 := hide hb1
  clear hw1 hb1
  go_wp2_with fail
  refine (blank_v 0 0 0 w1).mono ?_
  rintro e w2 ⟨rfl, hb⟩
  have HW2 := hide (HW1.out.later hb)
  have HB2 := hide (HB1.out.trans (hb.mono HB1.out.size))
  clear hb
  go_wp2_with fail
  refine (fill_any w.heap.size 0 N N 32 0 0 1 0 0 0 (List.replicate N zeroC) w2 HW2.out (by simp) (by simp; omega)).mono ?_
  rintro e w3 ⟨rfl, hw3, ho3⟩
  have HW3 : Hid (Whole w3 w.heap.size 27 (flatC .i32 (newC n))) := by unfold Hid; rw [← fill_new, HN.out]; exact hw3
  have HB3 := hide (ho3.below HB2.out HB2.out.size (Nat.le_refl _))
  clear hw3 ho3
  go_wp2
  go_ret
  exact ⟨_, by rw [new_len, HN.out]; rfl, Nat.le_refl _, HW3.out, HB3.out⟩
set_option maxRecDepth 100000 in
set_option maxHeartbeats 1000000 in
theorem mend_any (A : Option Addr) (n c : Nat) (cs : List Cel) (w : World) (h : Cels .i32 w A cs) (hn : cs.length = n) (hl : n ≤ 1000000) : Calls Tryd.prog 20 #[.slice A n c] w (Lined (mendC cs) w) := by
  have HC := hide h
  have HN := hide hn
  clear h hn
  go_enter Tryd.func20, Tryd.ntmps20
  go_wp2_with fail
  refine (copied_any A n c cs w HC.out HN.out hl).mono ?_
  rintro e w1 ⟨g, rfl, hg, hw, hb⟩
  have HW1 := hide hw
  have HB1 := hide hb
  have HG := hide hg
  clear hw hb hg
  rw [HN.out]
  go_wp2_with fail
  refine (mendown_any g n cs w1 HW1.out HN.out hl).mono ?_
  rintro e w2 ⟨rfl, hw, ho⟩
  have HW2 := hide hw
  have HB2 := hide (ho.below HB1.out HB1.out.size HG.out)
  clear hw ho
  go_wp2
  go_ret
  exact ⟨g, by rw [mend_len, HN.out]; rfl, HG.out, HW2.out, HB2.out⟩
theorem lay_new (n : Int) (cs : List Cel) : layC (newC n) 0 (cs.take (lenN n)) = fitTab cs n := by
  rw [lay_tab _ _ _ (by rw [new_len, List.length_take]; omega), new_len]
  unfold fitTab
  refine tab_eq fun i hi => ?_
  rw [List.length_take]
  by_cases h : i < cs.length
  · rw [if_pos (by omega), if_pos h]
    unfold cAt
    simp [hi]
  · rw [if_neg (by omega), if_neg h]
    exact tab_cAt _ _ _ hi
theorem fitTab_len (cs : List Cel) (n : Int) : (fitTab cs n).length = lenN n := tab_len _ _
theorem fit_len (cs : List Cel) (n : Int) : (fitC cs n).length = lenN n := by unfold fitC; rw [mend_len, fitTab_len]
set_option maxRecDepth 100000 in
set_option maxHeartbeats 1000000 in
theorem lfit_any (A : Option Addr) (n c : Nat) (x : Int) (cs : List Cel) (w : World) (h : Cels .i32 w A cs) (hn : cs.length = n) : Calls Tryd.prog 18 #[.slice A n c, .int .i64 x] w (Lined (fitC cs x) w) := by
  have HC := hide h
  have HN := hide hn
  clear h hn
  obtain ⟨N, hN⟩ : ∃ N, lenN x = N := ⟨_, rfl⟩
  have hl : N ≤ 512 := by rw [← hN]; exact lenN_le x
  have HX := hide hN
  clear hN
  go_enter Tryd.func18, Tryd.ntmps18
  go_wp2_with fail
  refine (new_any x w).mono ?_
  rintro e w1 ⟨g, rfl, hg, hw, hb⟩
  have HW1 := hide hw
  have HB1 := hide hb
  have HG := hide hg
  clear hw hb hg
  rw [new_len, HX.out]
  obtain ⟨w2, hrun, hw2, ho2⟩ := run_copyL elemL w1 3 g 0 27 (newC x) cs A N N n c HW1.out (HC.out.below HB1.out) HN.out (by rw [new_len, HX.out]; omega)
  rw [Nat.zero_mul] at hrun
  have HW2 : Hid (Whole w2 g 27 (flatC .i32 (fitTab cs x))) := by unfold Hid; rw [← lay_new, HX.out]; exact hw2
  have HB2 := hide (ho2.below HB1.out HB1.out.size HG.out)
  clear hw2 ho2
  go_wp2_with fail
  refine (mendown_any g N (fitTab cs x) w2 HW2.out (by rw [fitTab_len, HX.out]) (by omega)).mono ?_
  rintro e w3 ⟨rfl, hw, ho⟩
  have HW3 := hide hw
  have HB3 := hide (ho.below HB2.out HB2.out.size HG.out)
  clear hw ho
  go_wp2
  go_ret
  exact ⟨g, by rw [fit_len, HX.out]; rfl, HG.out, HW3.out, HB3.out⟩
set_option maxRecDepth 100000 in
set_option maxHeartbeats 1000000 in
theorem cut_any (g n p q : Nat) (w : World) (h : p < q) (hq : q ≤ n) : Calls Tryd.prog 35 #[.slice (some ⟨g, 0, none⟩) n n, .int .i64 (p : Int), .int .i64 (q : Int)] w fun e w' => e = .returned (.slice (some ⟨g, p * 7, none⟩) (q - p) (q - p)) ∧ w = w' := by
  have hne : ¬ n = p := by omega
  go_enter Tryd.func35, Tryd.ntmps35
  go_wp2
  go_ret
  exact ⟨rfl, rfl⟩
end Go.Proofs.YtdeoeihbmdgipaaDoor
