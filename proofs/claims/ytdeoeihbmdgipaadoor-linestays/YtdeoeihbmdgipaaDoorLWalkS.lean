/-
  The walk of the law LineStays.
-/
import Derived.Test.YtdeoeihbmdgipaaDoorLWalkM
import Derived.Test.YtdeoeihbmdgipaaDoorLRight
import Derived.Test.YtdeoeihbmdgipaaDoorLMath2
namespace Go.Proofs.YtdeoeihbmdgipaaDoor
open Go.ChangeShapes Go.WideShapes Go.ChangeAt Go.RowKit
set_option linter.unusedVariables false

set_option maxRecDepth 100000 in
set_option maxHeartbeats 8000000 in
theorem lineStays_walk (A : Option Addr) (len cap : Nat) (cs : List Cel) (r m x : Int) (d f g b : Nat) (h1 : CelOk r m x d f g b) (at_ to : Int) (F G B : Nat) (h2 : PenOk F G B) (y : Int) (hy0 : R32 y) (w : World) (hI : LineIn w A len cap cs) (hat : (Lit.int .i64 at_).wf = true) (hto : (Lit.int .i64 to).wf = true) (hS : Spans w) :
    Calls Tryd.prog 5 #[.slice A len cap, .agg #[.int .i32 r, .int .i32 m, .int .i32 x, .int .u8 (d : Int), .int .u8 (f : Int), .int .u8 (g : Int), .int .u8 (b : Int)], .int .i64 at_, .int .i64 to, .agg #[.int .u8 (F : Int), .int .u8 (G : Int), .int .u8 (B : Int)], .int .i32 y] w fun e w' => e = .returned (.bool true) ∧ Below w.heap.size w w' := by
  obtain ⟨hr, hm, hx, hd, -⟩ := h1
  obtain ⟨hI1, hI2, hI3, hI4, hI5⟩ := hI
  have HAT := hide (i64_bd hat)
  obtain ⟨W0, hW0⟩ : ∃ W0, (w.alloc (.cells #[.int .i32 r, .int .i32 m, .int .i32 x, .int .u8 (d : Int), .int .u8 (f : Int), .int .u8 (g : Int), .int .u8 (b : Int)] 27)).alloc (.cells #[.int .u8 (F : Int), .int .u8 (G : Int), .int .u8 (B : Int)] 25) = W0 := ⟨_, rfl⟩
  have HB : Hid (Below w.heap.size w W0) := by unfold Hid; rw [← hW0]; exact two_new w _ _ [.int .i32 r, .int .i32 m, .int .i32 x, .int .u8 (d : Int), .int .u8 (f : Int), .int .u8 (g : Int), .int .u8 (b : Int)] [.int .u8 (F : Int), .int .u8 (G : Int), .int .u8 (B : Int)]
  have HS : Hid (Spans W0) := by unfold Hid; rw [← hW0]; exact (hS.alloc _).alloc _
  have HX : Hid (Whole W0 w.heap.size 27 [.int .i32 r, .int .i32 m, .int .i32 x, .int .u8 (d : Int), .int .u8 (f : Int), .int .u8 (g : Int), .int .u8 (b : Int)]) := by unfold Hid; rw [← hW0]; exact (Whole.new w 27 [.int .i32 r, .int .i32 m, .int .i32 x, .int .u8 (d : Int), .int .u8 (f : Int), .int .u8 (g : Int), .int .u8 (b : Int)]).alloc _
  have HP : Hid (Whole W0 (w.heap.size + 1) 25 [.int .u8 (F : Int), .int .u8 (G : Int), .int .u8 (B : Int)]) := by unfold Hid; rw [← hW0]; exact whole_snd w _ 25 [.int .u8 (F : Int), .int .u8 (G : Int), .int .u8 (B : Int)]
  have CI : Hid (Cels .i32 W0 A cs) := by unfold Hid; rw [← hW0]; exact (hI1.alloc _).alloc _
  have HW0 := hide hW0
  have HI2 := hide hI2
  have HI3 := hide hI3
  have HI4 := hide hI4
  obtain ⟨L, hL⟩ : ∃ L, cs.take (min len 30) = L := ⟨_, rfl⟩
  have HL := hide hL
  have HLB : Hid (LB L) := by unfold Hid; rw [← hL]; exact LB_take hI5 _
  have hn : L.length ≤ 30 := by rw [← hL, List.length_take]; omega
  obtain ⟨N, hN⟩ : ∃ N, L.length = N := ⟨_, rfl⟩
  rw [hN] at hn
  have HN := hide hN
  obtain ⟨R, hR⟩ : ∃ R, rightL L = R := ⟨_, rfl⟩
  obtain ⟨Q, hQ⟩ : ∃ R, rightN ⟨F, G, B⟩ = R := ⟨_, rfl⟩
  have HR := hide hR
  have HQ := hide hQ
  clear hS hW0 h2 hI1 hI2 hI3 hI4 hI5 hL hN hat hto hR hQ
  go_enter Tryd.func5, Tryd.ntmps5
  go_wp2_with fail
  rw [HW0.out]
  refine (lcut_v CI.out HI2.out HI4.out HI3.out HL.out).mono ?_
  rintro e w1 ⟨A1, c1, rfl, hc, hb⟩
  replace HB := hide (HB.out.trans (hb.mono HB.out.size))
  replace HS := hide (HS.out.below hb)
  replace HX := hide (HX.out.later hb)
  replace HP := hide (HP.out.later hb)
  have CL := hide hc
  clear hb hc
  rw [HN.out]
  go_wp2_with fail
  refine (lright_any A1 N c1 L _ CL.out HN.out (by omega) HLB.out HS.out).mono ?_
  rintro e w2 ⟨rfl, hb⟩
  replace HB := hide (HB.out.trans (hb.mono HB.out.size))
  replace HS := hide (HS.out.below hb)
  replace HX := hide (HX.out.later hb)
  replace HP := hide (HP.out.later hb)
  replace CL := hide (CL.out.below hb)
  clear hb 
  rw [HR.out]
  cases R
  · go_wp2_with fail
    refine (lknown_any _ HS.out).mono ?_
    rintro e w3 ⟨rfl, hb⟩
    replace HB := hide (HB.out.trans (hb.mono HB.out.size))
    replace HS := hide (HS.out.below hb)
    replace HX := hide (HX.out.later hb)
    replace HP := hide (HP.out.later hb)
    replace CL := hide (CL.out.below hb)
    clear hb 
    go_wp2
    go_ret
    exact ⟨rfl, HB.out⟩
  · obtain ⟨f1_0, f1_1, f1_2, -⟩ := cells3 HP.out
    go_wp2_with fail
    refine (right_any F G B _).mono ?_
    rintro e w3 ⟨rfl, hb⟩
    clear f1_0 f1_1 f1_2
    replace HB := hide (HB.out.trans (hb.mono HB.out.size))
    replace HS := hide (HS.out.below hb)
    replace HX := hide (HX.out.later hb)
    replace HP := hide (HP.out.later hb)
    replace CL := hide (CL.out.below hb)
    clear hb 
    rw [HQ.out]
    cases Q
    · go_wp2_with fail
      refine (lknown_any _ HS.out).mono ?_
      rintro e w4 ⟨rfl, hb⟩
      replace HB := hide (HB.out.trans (hb.mono HB.out.size))
      replace HS := hide (HS.out.below hb)
      replace HX := hide (HX.out.later hb)
      replace HP := hide (HP.out.later hb)
      replace CL := hide (CL.out.below hb)
      clear hb 
      go_wp2
      go_ret
      exact ⟨rfl, HB.out⟩
    · obtain ⟨M, hM⟩ : ∃ M, lenN to = M := ⟨_, rfl⟩
      have hMl : M ≤ 512 := by rw [← hM]; exact lenN_le to
      have HM := hide hM
      obtain ⟨X1, hX1⟩ : ∃ X, putC L at_ ⟨r, m, x, d, ⟨f, g, b⟩⟩ = X := ⟨_, rfl⟩
      obtain ⟨ok1, hok1⟩ : ∃ X, putOk L at_ ⟨r, m, x, d, ⟨f, g, b⟩⟩ = X := ⟨_, rfl⟩
      obtain ⟨⟨X2, ok2⟩, hX2⟩ : ∃ X, lmarkC L at_ y = X := ⟨_, rfl⟩
      obtain ⟨X3, hX3⟩ : ∃ X, eraseC L at_ to ⟨F, G, B⟩ = X := ⟨_, rfl⟩
      obtain ⟨X4, hX4⟩ : ∃ X, fitC L to = X := ⟨_, rfl⟩
      obtain ⟨X6, hX6⟩ : ∃ X, newC to = X := ⟨_, rfl⟩
      have R1 : Hid (rightL X1 = true) := by unfold Hid; rw [← hX1]; exact right_put HR.out
      have R2 : Hid (rightL X2 = true) := by unfold Hid; have q := right_lmark (a := at_) (r := y) HR.out; rwa [hX2] at q
      have R3 : Hid (rightL X3 = true) := by unfold Hid; rw [← hX3]; exact right_erase HR.out HQ.out
      have R4 : Hid (rightL X4 = true) := by unfold Hid; rw [← hX4]; exact right_fit HR.out
      have H5 := hide (mend_right HR.out)
      have B1 : Hid (LB X1) := by unfold Hid; rw [← hX1]; exact LB_put HLB.out ⟨hr, hm, hx, hd⟩
      have B2 : Hid (LB X2) := by unfold Hid; have q := LB_mark (a := at_) HLB.out hy0; rwa [hX2] at q
      have B3 : Hid (LB X3) := by unfold Hid; rw [← hX3]; exact LB_erase HLB.out
      have B4 : Hid (LB X4) := by unfold Hid; rw [← hX4]; exact LB_fit HLB.out
      have N1 : Hid (X1.length = N) := by unfold Hid; rw [← hX1, put_len, HN.out]
      have N2 : Hid (X2.length = N) := by unfold Hid; have q := lmark_len L at_ y; rwa [hX2, HN.out] at q
      have N3 : Hid (X3.length = N) := by unfold Hid; rw [← hX3, erase_len, HN.out]
      have N4 : Hid (X4.length = M) := by unfold Hid; rw [← hX4, fit_len, hM]
      have H1 := hide hX1
      have H1' := hide hok1
      have H2 := hide hX2
      have H3 := hide hX3
      have H4 := hide hX4
      have H6 := hide hX6
      have eN : ((N : Int) == (N : Int)) = true := by simp
      have eM : ((M : Int) == (M : Int)) = true := by simp
      clear hM hX1 hok1 hX2 hX3 hX4 hX6
      obtain ⟨f2_0, f2_1, f2_2, f2_3, f2_4, f2_5, f2_6, -⟩ := cells7 HX.out
      go_wp2_with fail
      refine (put_v (c := c1) at_ r m x d f g b HAT.out H1.out H1'.out CL.out HN.out (by omega) hd HS.out).mono ?_
      rintro e w4 ⟨A4, c4, rfl, hc, hb⟩
      clear f2_0 f2_1 f2_2 f2_3 f2_4 f2_5 f2_6
      replace HB := hide (HB.out.trans (hb.mono HB.out.size))
      replace HS := hide (HS.out.below hb)
      replace HX := hide (HX.out.later hb)
      replace HP := hide (HP.out.later hb)
      replace CL := hide (CL.out.below hb)
      have CA := hide hc
      clear hb hc
      obtain ⟨f3_0, f3_1, f3_2, -⟩ := cells3 HP.out
      go_wp2_with fail
      refine (erase_v (c := c1) at_ to F G B H3.out CL.out HN.out (by omega)).mono ?_
      rintro e w5 ⟨A5, c5, rfl, hc, hb⟩
      clear f3_0 f3_1 f3_2
      replace HB := hide (HB.out.trans (hb.mono HB.out.size))
      replace HS := hide (HS.out.below hb)
      replace HX := hide (HX.out.later hb)
      replace HP := hide (HP.out.later hb)
      replace CL := hide (CL.out.below hb)
      replace CA := hide (CA.out.below hb)
      have CB := hide hc
      clear hb hc
      go_wp2_with fail
      refine (lmark_v (c := c1) at_ y H2.out CL.out HN.out (by omega) HS.out).mono ?_
      rintro e w6 ⟨A6, c6, rfl, hc, hb⟩
      replace HB := hide (HB.out.trans (hb.mono HB.out.size))
      replace HS := hide (HS.out.below hb)
      replace HX := hide (HX.out.later hb)
      replace HP := hide (HP.out.later hb)
      replace CL := hide (CL.out.below hb)
      replace CA := hide (CA.out.below hb)
      replace CB := hide (CB.out.below hb)
      have CD := hide hc
      clear hb hc
      go_wp2_with fail
      refine (fit_v (c := c1) to H4.out HM.out CL.out HN.out).mono ?_
      rintro e w7 ⟨A7, c7, rfl, hc, hb⟩
      replace HB := hide (HB.out.trans (hb.mono HB.out.size))
      replace HS := hide (HS.out.below hb)
      replace HX := hide (HX.out.later hb)
      replace HP := hide (HP.out.later hb)
      replace CL := hide (CL.out.below hb)
      replace CA := hide (CA.out.below hb)
      replace CB := hide (CB.out.below hb)
      replace CD := hide (CD.out.below hb)
      have CE := hide hc
      clear hb hc
      go_wp2_with fail
      refine (lknown_any _ HS.out).mono ?_
      rintro e w8 ⟨rfl, hb⟩
      replace HB := hide (HB.out.trans (hb.mono HB.out.size))
      replace HS := hide (HS.out.below hb)
      replace HX := hide (HX.out.later hb)
      replace HP := hide (HP.out.later hb)
      replace CL := hide (CL.out.below hb)
      replace CA := hide (CA.out.below hb)
      replace CB := hide (CB.out.below hb)
      replace CD := hide (CD.out.below hb)
      replace CE := hide (CE.out.below hb)
      clear hb 
      go_wp2_with fail
      refine (lright_any A4 N c4 X1 _ CA.out N1.out (by omega) B1.out HS.out).mono ?_
      rintro e w9 ⟨rfl, hb⟩
      replace HB := hide (HB.out.trans (hb.mono HB.out.size))
      replace HS := hide (HS.out.below hb)
      replace HX := hide (HX.out.later hb)
      replace HP := hide (HP.out.later hb)
      replace CL := hide (CL.out.below hb)
      replace CA := hide (CA.out.below hb)
      replace CB := hide (CB.out.below hb)
      replace CD := hide (CD.out.below hb)
      replace CE := hide (CE.out.below hb)
      clear hb 
      rw [R1.out]
      go_wp2_with fail
      refine (lright_any A5 N c5 X3 _ CB.out N3.out (by omega) B3.out HS.out).mono ?_
      rintro e w10 ⟨rfl, hb⟩
      replace HB := hide (HB.out.trans (hb.mono HB.out.size))
      replace HS := hide (HS.out.below hb)
      replace HX := hide (HX.out.later hb)
      replace HP := hide (HP.out.later hb)
      replace CL := hide (CL.out.below hb)
      replace CA := hide (CA.out.below hb)
      replace CB := hide (CB.out.below hb)
      replace CD := hide (CD.out.below hb)
      replace CE := hide (CE.out.below hb)
      clear hb 
      rw [R3.out]
      go_wp2_with fail
      refine (lright_any A6 N c6 X2 _ CD.out N2.out (by omega) B2.out HS.out).mono ?_
      rintro e w11 ⟨rfl, hb⟩
      replace HB := hide (HB.out.trans (hb.mono HB.out.size))
      replace HS := hide (HS.out.below hb)
      replace HX := hide (HX.out.later hb)
      replace HP := hide (HP.out.later hb)
      replace CL := hide (CL.out.below hb)
      replace CA := hide (CA.out.below hb)
      replace CB := hide (CB.out.below hb)
      replace CD := hide (CD.out.below hb)
      replace CE := hide (CE.out.below hb)
      clear hb 
      rw [R2.out]
      go_wp2_with fail
      refine (lright_any A7 M c7 X4 _ CE.out N4.out (by omega) B4.out HS.out).mono ?_
      rintro e w12 ⟨rfl, hb⟩
      replace HB := hide (HB.out.trans (hb.mono HB.out.size))
      replace HS := hide (HS.out.below hb)
      replace HX := hide (HX.out.later hb)
      replace HP := hide (HP.out.later hb)
      replace CL := hide (CL.out.below hb)
      replace CA := hide (CA.out.below hb)
      replace CB := hide (CB.out.below hb)
      replace CD := hide (CD.out.below hb)
      replace CE := hide (CE.out.below hb)
      clear hb 
      rw [R4.out]
      go_wp2_with fail
      refine (new_v to H6.out HM.out _).mono ?_
      rintro e w13 ⟨A13, c13, rfl, hc, hb⟩
      replace HB := hide (HB.out.trans (hb.mono HB.out.size))
      replace HS := hide (HS.out.below hb)
      replace HX := hide (HX.out.later hb)
      replace HP := hide (HP.out.later hb)
      replace CL := hide (CL.out.below hb)
      replace CA := hide (CA.out.below hb)
      replace CB := hide (CB.out.below hb)
      replace CD := hide (CD.out.below hb)
      replace CE := hide (CE.out.below hb)
      have CN := hide hc
      clear hb hc
      go_wp2_with fail
      refine (mend_v (c := c1) H5.out CL.out HN.out (by omega)).mono ?_
      rintro e w14 ⟨A14, c14, rfl, hc, hb⟩
      replace HB := hide (HB.out.trans (hb.mono HB.out.size))
      replace HS := hide (HS.out.below hb)
      replace HX := hide (HX.out.later hb)
      replace HP := hide (HP.out.later hb)
      replace CL := hide (CL.out.below hb)
      replace CA := hide (CA.out.below hb)
      replace CB := hide (CB.out.below hb)
      replace CD := hide (CD.out.below hb)
      replace CE := hide (CE.out.below hb)
      replace CN := hide (CN.out.below hb)
      have CM := hide hc
      clear hb hc
      go_wp2_with fail
      refine (same6_v (c := c14) (d := c1) CM.out CL.out HN.out (by omega)).mono ?_
      rintro e w15 ⟨rfl, hb⟩
      replace HB := hide (HB.out.trans (hb.mono HB.out.size))
      replace HS := hide (HS.out.below hb)
      replace HX := hide (HX.out.later hb)
      replace HP := hide (HP.out.later hb)
      replace CL := hide (CL.out.below hb)
      replace CA := hide (CA.out.below hb)
      replace CB := hide (CB.out.below hb)
      replace CD := hide (CD.out.below hb)
      replace CE := hide (CE.out.below hb)
      replace CN := hide (CN.out.below hb)
      replace CM := hide (CM.out.below hb)
      clear hb 
      go_wp2
      go_ret
      exact ⟨rfl, HB.out⟩
end Go.Proofs.YtdeoeihbmdgipaaDoor
