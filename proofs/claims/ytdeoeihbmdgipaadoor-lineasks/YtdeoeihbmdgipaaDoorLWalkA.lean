/-
  The walk of the law LineAsks.
-/
import Derived.Test.YtdeoeihbmdgipaaDoorLWalkM
import Derived.Test.YtdeoeihbmdgipaaDoorLText
namespace Go.Proofs.YtdeoeihbmdgipaaDoor
open Go.ChangeShapes Go.WideShapes Go.ChangeAt Go.RowKit
set_option linter.unusedVariables false

set_option maxRecDepth 100000 in
set_option maxHeartbeats 8000000 in
theorem lineAsks_walk (A : Option Addr) (len cap : Nat) (cs : List Cel) (A' : Option Addr) (len' cap' : Nat) (cs' : List Cel) (w : World) (hI : LineIn w A len cap cs) (hI' : LineIn w A' len' cap' cs') (hS : Spans w) :
    Calls Tryd.prog 4 #[.slice A len cap, .slice A' len' cap'] w fun e w' => e = .returned (.bool true) ∧ Below w.heap.size w w' := by
  obtain ⟨hI1, hI2, hI3, hI4, hI5⟩ := hI
  obtain ⟨hJ1, hJ2, hJ3, hJ4, hJ5⟩ := hI'
  have HB : Hid (Below w.heap.size w w) := Below.refl _ _
  have HS := hide hS
  have CI := hide hI1
  have HI2 := hide hI2
  have HI3 := hide hI3
  have HI4 := hide hI4
  have CJ := hide hJ1
  have HJ2 := hide hJ2
  have HJ3 := hide hJ3
  have HJ4 := hide hJ4
  obtain ⟨L, hL⟩ : ∃ L, cs.take (min len 30) = L := ⟨_, rfl⟩
  have HL := hide hL
  have HLB : Hid (LB L) := by unfold Hid; rw [← hL]; exact LB_take hI5 _
  have hn : L.length ≤ 30 := by rw [← hL, List.length_take]; omega
  obtain ⟨N, hN⟩ : ∃ N, L.length = N := ⟨_, rfl⟩
  rw [hN] at hn
  have HN := hide hN
  obtain ⟨K, hK⟩ : ∃ L, cs'.take (min len' 30) = L := ⟨_, rfl⟩
  have HK := hide hK
  have HKB : Hid (LB K) := by unfold Hid; rw [← hK]; exact LB_take hJ5 _
  have hm : K.length ≤ 30 := by rw [← hK, List.length_take]; omega
  obtain ⟨M, hM⟩ : ∃ N, K.length = N := ⟨_, rfl⟩
  rw [hM] at hm
  have HM := hide hM
  obtain ⟨R, hR⟩ : ∃ R, rightL L = R := ⟨_, rfl⟩
  obtain ⟨D, hD⟩ : ∃ R, decide (L = K) = R := ⟨_, rfl⟩
  obtain ⟨U, hU⟩ : ∃ R : Nat, usedC L = R := ⟨_, rfl⟩
  obtain ⟨S, hSt⟩ : ∃ R, strOf (textC L) = R := ⟨_, rfl⟩
  have HR := hide hR
  have HD := hide hD
  have HU := hide hU
  have HT := hide hSt
  have q1 : (R == R) = true := by simp
  have q2 : (D == D) = true := by simp
  have q3 : ((U : Int) == (U : Int)) = true := by simp
  have q4 : (S.toList == S.toList) = true := by simp
  clear hS hI1 hI2 hI3 hI4 hI5 hJ1 hJ2 hJ3 hJ4 hJ5 hL hN hK hM hR hD hU hSt
  go_enter Tryd.func4, Tryd.ntmps4
  go_wp2_with fail
  refine (lcut_v CI.out HI2.out HI4.out HI3.out HL.out).mono ?_
  rintro e w1 ⟨A1, c1, rfl, hc, hb⟩
  replace HB := hide (HB.out.trans (hb.mono HB.out.size))
  replace HS := hide (HS.out.below hb)
  replace CI := hide (CI.out.below hb)
  replace CJ := hide (CJ.out.below hb)
  have CL := hide hc
  clear hb hc
  rw [HN.out]
  go_wp2_with fail
  refine (lcut_v CJ.out HJ2.out HJ4.out HJ3.out HK.out).mono ?_
  rintro e w2 ⟨A2, c2, rfl, hc, hb⟩
  replace HB := hide (HB.out.trans (hb.mono HB.out.size))
  replace HS := hide (HS.out.below hb)
  replace CI := hide (CI.out.below hb)
  replace CJ := hide (CJ.out.below hb)
  replace CL := hide (CL.out.below hb)
  have CK := hide hc
  clear hb hc
  rw [HM.out]
  go_wp2_with fail
  refine (lknown_any _ HS.out).mono ?_
  rintro e w3 ⟨rfl, hb⟩
  replace HB := hide (HB.out.trans (hb.mono HB.out.size))
  replace HS := hide (HS.out.below hb)
  replace CI := hide (CI.out.below hb)
  replace CJ := hide (CJ.out.below hb)
  replace CL := hide (CL.out.below hb)
  replace CK := hide (CK.out.below hb)
  clear hb 
  go_wp2_with fail
  refine (lright_any A1 N c1 L _ CL.out HN.out (by omega) HLB.out HS.out).mono ?_
  rintro e w4 ⟨rfl, hb⟩
  replace HB := hide (HB.out.trans (hb.mono HB.out.size))
  replace HS := hide (HS.out.below hb)
  replace CI := hide (CI.out.below hb)
  replace CJ := hide (CJ.out.below hb)
  replace CL := hide (CL.out.below hb)
  replace CK := hide (CK.out.below hb)
  clear hb 
  rw [HR.out]
  go_wp2_with fail
  refine (lineof_v (c := c1) CL.out HN.out (by omega) HLB.out).mono ?_
  rintro e w5 ⟨A5, c5, rfl, hc, hb, hz⟩
  replace HB := hide (HB.out.trans (hb.mono HB.out.size))
  replace HS := hide (HS.out.below hb)
  replace CI := hide (CI.out.below hb)
  replace CJ := hide (CJ.out.below hb)
  replace CL := hide (CL.out.below hb)
  replace CK := hide (CK.out.below hb)
  have CW5 := hide hc
  have HZ5 := hide hz
  clear hb hc hz
  go_wp2_with fail
  refine (rlright_any A5 N c5 L _ CW5.out HN.out (by omega) HLB.out).mono ?_
  rintro e w6 ⟨rfl, hb⟩
  replace HB := hide (HB.out.trans (hb.mono HB.out.size))
  replace HS := hide (HS.out.below hb)
  replace CI := hide (CI.out.below hb)
  replace CJ := hide (CJ.out.below hb)
  replace CL := hide (CL.out.below hb)
  replace CK := hide (CK.out.below hb)
  replace CW5 := hide (CW5.out.below hb)
  clear hb 
  rw [HR.out]
  go_wp2_with fail
  refine (same6_any A1 A2 N c1 M c2 L K _ CL.out CK.out HN.out HM.out (by omega)).mono ?_
  rintro e w7 ⟨rfl, hb⟩
  replace HB := hide (HB.out.trans (hb.mono HB.out.size))
  replace HS := hide (HS.out.below hb)
  replace CI := hide (CI.out.below hb)
  replace CJ := hide (CJ.out.below hb)
  replace CL := hide (CL.out.below hb)
  replace CK := hide (CK.out.below hb)
  replace CW5 := hide (CW5.out.below hb)
  clear hb 
  rw [HD.out]
  go_wp2_with fail
  refine (lineof_v (c := c1) CL.out HN.out (by omega) HLB.out).mono ?_
  rintro e w8 ⟨A8, c8, rfl, hc, hb, hz⟩
  replace HB := hide (HB.out.trans (hb.mono HB.out.size))
  replace HS := hide (HS.out.below hb)
  replace CI := hide (CI.out.below hb)
  replace CJ := hide (CJ.out.below hb)
  replace CL := hide (CL.out.below hb)
  replace CK := hide (CK.out.below hb)
  replace CW5 := hide (CW5.out.below hb)
  have CW8 := hide hc
  have HZ8 := hide hz
  clear hb hc hz
  go_wp2_with fail
  refine (lineof_v (c := c2) CK.out HM.out (by omega) HKB.out).mono ?_
  rintro e w9 ⟨A9, c9, rfl, hc, hb, hz⟩
  replace HB := hide (HB.out.trans (hb.mono HB.out.size))
  replace HS := hide (HS.out.below hb)
  replace CI := hide (CI.out.below hb)
  replace CJ := hide (CJ.out.below hb)
  replace CL := hide (CL.out.below hb)
  replace CK := hide (CK.out.below hb)
  replace CW5 := hide (CW5.out.below hb)
  replace CW8 := hide (CW8.out.below hb)
  have CW9 := hide hc
  have HZ9 := hide hz
  clear hb hc hz
  go_wp2_with fail
  refine (rsame6_any A8 A9 N c8 M c9 L K _ CW8.out CW9.out HN.out HM.out (by omega)).mono ?_
  rintro e w10 ⟨rfl, hb⟩
  replace HB := hide (HB.out.trans (hb.mono HB.out.size))
  replace HS := hide (HS.out.below hb)
  replace CI := hide (CI.out.below hb)
  replace CJ := hide (CJ.out.below hb)
  replace CL := hide (CL.out.below hb)
  replace CK := hide (CK.out.below hb)
  replace CW5 := hide (CW5.out.below hb)
  replace CW8 := hide (CW8.out.below hb)
  replace CW9 := hide (CW9.out.below hb)
  clear hb 
  rw [HD.out]
  go_wp2_with fail
  refine (used_any A1 N c1 L _ CL.out HN.out (by omega)).mono ?_
  rintro e w11 ⟨rfl, hb⟩
  replace HB := hide (HB.out.trans (hb.mono HB.out.size))
  replace HS := hide (HS.out.below hb)
  replace CI := hide (CI.out.below hb)
  replace CJ := hide (CJ.out.below hb)
  replace CL := hide (CL.out.below hb)
  replace CK := hide (CK.out.below hb)
  replace CW5 := hide (CW5.out.below hb)
  replace CW8 := hide (CW8.out.below hb)
  replace CW9 := hide (CW9.out.below hb)
  clear hb 
  rw [HU.out]
  go_wp2_with fail
  refine (lineof_v (c := c1) CL.out HN.out (by omega) HLB.out).mono ?_
  rintro e w12 ⟨A12, c12, rfl, hc, hb, hz⟩
  replace HB := hide (HB.out.trans (hb.mono HB.out.size))
  replace HS := hide (HS.out.below hb)
  replace CI := hide (CI.out.below hb)
  replace CJ := hide (CJ.out.below hb)
  replace CL := hide (CL.out.below hb)
  replace CK := hide (CK.out.below hb)
  replace CW5 := hide (CW5.out.below hb)
  replace CW8 := hide (CW8.out.below hb)
  replace CW9 := hide (CW9.out.below hb)
  have CW12 := hide hc
  have HZ12 := hide hz
  clear hb hc hz
  go_wp2_with fail
  refine (rused_any A12 N c12 L _ CW12.out HN.out (by omega)).mono ?_
  rintro e w13 ⟨rfl, hb⟩
  replace HB := hide (HB.out.trans (hb.mono HB.out.size))
  replace HS := hide (HS.out.below hb)
  replace CI := hide (CI.out.below hb)
  replace CJ := hide (CJ.out.below hb)
  replace CL := hide (CL.out.below hb)
  replace CK := hide (CK.out.below hb)
  replace CW5 := hide (CW5.out.below hb)
  replace CW8 := hide (CW8.out.below hb)
  replace CW9 := hide (CW9.out.below hb)
  replace CW12 := hide (CW12.out.below hb)
  clear hb 
  rw [HU.out]
  go_wp2_with fail
  refine (text_any A1 N c1 L _ CL.out HN.out (by omega)).mono ?_
  rintro e w14 ⟨rfl, hb⟩
  replace HB := hide (HB.out.trans (hb.mono HB.out.size))
  replace HS := hide (HS.out.below hb)
  replace CI := hide (CI.out.below hb)
  replace CJ := hide (CJ.out.below hb)
  replace CL := hide (CL.out.below hb)
  replace CK := hide (CK.out.below hb)
  replace CW5 := hide (CW5.out.below hb)
  replace CW8 := hide (CW8.out.below hb)
  replace CW9 := hide (CW9.out.below hb)
  replace CW12 := hide (CW12.out.below hb)
  clear hb 
  rw [HT.out]
  go_wp2_with fail
  refine (lineof_v (c := c1) CL.out HN.out (by omega) HLB.out).mono ?_
  rintro e w15 ⟨A15, c15, rfl, hc, hb, hz⟩
  replace HB := hide (HB.out.trans (hb.mono HB.out.size))
  replace HS := hide (HS.out.below hb)
  replace CI := hide (CI.out.below hb)
  replace CJ := hide (CJ.out.below hb)
  replace CL := hide (CL.out.below hb)
  replace CK := hide (CK.out.below hb)
  replace CW5 := hide (CW5.out.below hb)
  replace CW8 := hide (CW8.out.below hb)
  replace CW9 := hide (CW9.out.below hb)
  replace CW12 := hide (CW12.out.below hb)
  have CW15 := hide hc
  have HZ15 := hide hz
  clear hb hc hz
  go_wp2_with fail
  refine (rtext_any A15 N c15 L _ CW15.out HN.out (by omega)).mono ?_
  rintro e w16 ⟨rfl, hb⟩
  replace HB := hide (HB.out.trans (hb.mono HB.out.size))
  replace HS := hide (HS.out.below hb)
  replace CI := hide (CI.out.below hb)
  replace CJ := hide (CJ.out.below hb)
  replace CL := hide (CL.out.below hb)
  replace CK := hide (CK.out.below hb)
  replace CW5 := hide (CW5.out.below hb)
  replace CW8 := hide (CW8.out.below hb)
  replace CW9 := hide (CW9.out.below hb)
  replace CW12 := hide (CW12.out.below hb)
  replace CW15 := hide (CW15.out.below hb)
  clear hb 
  rw [HT.out]
  go_wp2
  go_ret
  exact ⟨rfl, HB.out⟩
end Go.Proofs.YtdeoeihbmdgipaaDoor
