/-
  The walk of the law WidthFits.
-/
import Derived.Test.YtlbdfechhagimaaDoorKnown
namespace Go.Proofs.YtlbdfechhagimaaDoor
open Go.ChangeShapes Go.WideShapes Go.ChangeAt Go.RowKit
set_option linter.unusedVariables false

theorem fitN_tot (n : Int) (l : List Int) (h : 0 ≤ n) : tot (l.take (fitN n l)) ≤ n := by
  unfold fitN; rw [if_neg (by omega)]; exact fitF_tot n l h

set_option maxRecDepth 100000 in
set_option maxHeartbeats 2000000 in
theorem widthFits_walk (n m : Int) (a : Option Addr) (len cap : Nat) (zs : List Int) (w : World) (hn : (Lit.int .i64 n).wf = true) (hm : (Lit.int .i64 m).wf = true) (hrow : IsRow .i32 w a len cap zs) (hS : Spans w) :
    Calls Tryd.prog 5 #[.int .i64 n, .int .i64 m, .slice a len cap] w fun e w' => e = .returned (.bool true) ∧ Below w.heap.size w w' := by
  clear hn hm
  obtain ⟨hz, hl, hn0, hmax⟩ := hrow.len
  obtain ⟨q, hq, hq30, hql⟩ : ∃ q : Nat, min (len : Int) 30 = (q : Int) ∧ q ≤ 30 ∧ q ≤ len := ⟨min len 30, by omega, by omega, by omega⟩
  have hi := hrow.ints.take q
  have hb := rn_of hrow.wf q
  have hx : (zs.take q).length = q := by rw [List.length_take]; omega
  unfold maxLen at hmax
  clear hrow
  have HX := hide hx
  have HS := hide hS
  clear hz hn0 hx hS
  generalize zs.take q = xs at *
  obtain ⟨F, hF⟩ : ∃ F, fitN n xs = F := ⟨_, rfl⟩
  obtain ⟨G, hG⟩ : ∃ G, fitN m xs = G := ⟨_, rfl⟩
  have hFq : F ≤ q := by rw [← hF, ← HX.out]; exact fitN_le n xs
  have hFG : n ≤ m → F ≤ G := fun h => by rw [← hF, ← hG]; exact fitN_mono xs n m h
  obtain ⟨T, hT⟩ : ∃ T, tot (xs.take F) = T := ⟨_, rfl⟩
  have hTn : 0 ≤ n → T ≤ n := fun h => by rw [← hT, ← hF]; exact fitN_tot n xs h
  have HF := hide hF
  have HG := hide hG
  have HT := hide hT
  have HFG := hide hFG
  have HTN := hide hTn
  clear hF hG hT hFG hTn
  have f1 : ((F : Int) == (F : Int)) = true := by simp
  have p1 : (0 : Int) ≤ (F : Int) := by omega
  have p2 : (F : Int) ≤ (cap : Int) := by omega
  have hxl : xs.length ≤ 30 := by rw [HX.out]; exact hq30
  go_enter Tryd.func5, Tryd.ntmps5
  go_wp2_with fail
  refine (fit_any n a q cap xs w hi HX.out (by omega) HS.out).mono ?_
  rintro e w1 ⟨rfl, b1⟩
  rw [HF.out]
  go_wp2_with fail
  refine (known_any w1 (HS.out.below b1)).mono ?_
  rintro e w2 ⟨rfl, hb2⟩
  have b2 := b1.trans (hb2.mono b1.size)
  clear b1 hb2
  go_wp2_with fail
  refine (ints_any a q cap xs w2 (hi.below b2) HX.out (by omega) hb).mono ?_
  rintro e w3 ⟨v3, rfl, hv3⟩
  obtain ⟨A3, c3, rfl, hi3, hc3, hA3, hm3⟩ := hv3.form2
  have b3 := b2.trans (hv3.bel.mono b2.size)
  have HA3 := hide hA3
  have HC3 := hide hc3
  have HM3 := hide hm3
  clear b2 hv3 hA3 hc3 hm3
  go_wp2_with fail
  refine (rfit_any n A3 xs.length c3 xs w3 hi3 rfl (by omega) HC3.out HM3.out HA3.out).mono ?_
  rintro e w4 ⟨rfl, hb4⟩
  rw [HF.out]
  have b4 := b3.trans (hb4.mono b3.size)
  clear b3 hb4 hi3
  have tail : ∀ w5 : World, Below w.heap.size w w5 → 0 ≤ n → Calls Tryd.prog 13 #[.slice a F cap] w5 fun e w' => e = .returned (.int .i64 T) ∧ Below w.heap.size w w' := fun w5 b5 h0 =>
    (total_any a F cap (xs.take F) w5 ((hi.take F).below b5) (by rw [List.length_take, HX.out]; omega) (by omega) (HS.out.below b5)).mono fun e w' ⟨h1, h2⟩ => ⟨by rw [h1, HT.out], b5.trans (h2.mono b5.size)⟩
  have TL := hide tail
  clear tail
  by_cases hnm : m < n
  · by_cases h0 : n < 0
    · go_wp2
      go_ret
      exact ⟨rfl, b4⟩
    · have hTn : T ≤ n := HTN.out (by omega)
      go_wp2_with fail
      refine (TL.out w4 b4 (by omega)).mono ?_
      rintro e w5 ⟨rfl, b5⟩
      go_wp2
      go_ret
      exact ⟨rfl, b5⟩
  · have hFG : F ≤ G := HFG.out (by omega)
    go_wp2_with fail
    refine (fit_any m a q cap xs w4 (hi.below b4) HX.out (by omega) (HS.out.below b4)).mono ?_
    rintro e w5 ⟨rfl, hb5⟩
    rw [HG.out]
    have b5 := b4.trans (hb5.mono b4.size)
    clear b4 hb5
    by_cases h0 : n < 0
    · go_wp2
      go_ret
      exact ⟨rfl, b5⟩
    · have hTn : T ≤ n := HTN.out (by omega)
      go_wp2_with fail
      refine (TL.out w5 b5 (by omega)).mono ?_
      rintro e w6 ⟨rfl, b6⟩
      go_wp2
      go_ret
      exact ⟨rfl, b6⟩
end Go.Proofs.YtlbdfechhagimaaDoor
