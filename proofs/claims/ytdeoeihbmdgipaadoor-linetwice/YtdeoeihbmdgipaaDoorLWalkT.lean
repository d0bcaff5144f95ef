/-
  The walk of the law LineTwice.
-/
import Derived.Test.YtdeoeihbmdgipaaDoorLWalkS
namespace Go.Proofs.YtdeoeihbmdgipaaDoor
open Go.ChangeShapes Go.WideShapes Go.ChangeAt Go.RowKit
set_option linter.unusedVariables false

theorem whole_mid (w : World) (o o2 : Obj) (t : TypeId) (l : List Value) : Whole (((w.alloc o).alloc (.cells l.toArray t)).alloc o2) (w.heap.size + 1) t l := (whole_snd w o t l).alloc o2
set_option maxRecDepth 100000 in
set_option maxHeartbeats 8000000 in
theorem lineTwice_walk (A : Option Addr) (len cap : Nat) (cs : List Cel) (r m x : Int) (d f g b : Nat) (h1 : CelOk r m x d f g b) (r' m' x' : Int) (d' f' g' b' : Nat) (h1' : CelOk r' m' x' d' f' g' b') (at_ to : Int) (F G B : Nat) (h2 : PenOk F G B) (w : World) (hI : LineIn w A len cap cs) (hat : (Lit.int .i64 at_).wf = true) (hto : (Lit.int .i64 to).wf = true) (hS : Spans w) :
    Calls Tryd.prog 6 #[.slice A len cap, .agg #[.int .i32 r, .int .i32 m, .int .i32 x, .int .u8 (d : Int), .int .u8 (f : Int), .int .u8 (g : Int), .int .u8 (b : Int)], .agg #[.int .i32 r', .int .i32 m', .int .i32 x', .int .u8 (d' : Int), .int .u8 (f' : Int), .int .u8 (g' : Int), .int .u8 (b' : Int)], .int .i64 at_, .int .i64 to, .agg #[.int .u8 (F : Int), .int .u8 (G : Int), .int .u8 (B : Int)]] w fun e w' => e = .returned (.bool true) ∧ Below w.heap.size w w' := by
  obtain ⟨hr, hm, hx, hd, -⟩ := h1
  obtain ⟨hr', hm', hx', hd', -⟩ := h1'
  obtain ⟨hI1, hI2, hI3, hI4, hI5⟩ := hI
  have HAT := hide (i64_bd hat)
  obtain ⟨W0, hW0⟩ : ∃ W0, ((w.alloc (.cells #[.int .i32 r, .int .i32 m, .int .i32 x, .int .u8 (d : Int), .int .u8 (f : Int), .int .u8 (g : Int), .int .u8 (b : Int)] 27)).alloc (.cells #[.int .i32 r', .int .i32 m', .int .i32 x', .int .u8 (d' : Int), .int .u8 (f' : Int), .int .u8 (g' : Int), .int .u8 (b' : Int)] 27)).alloc (.cells #[.int .u8 (F : Int), .int .u8 (G : Int), .int .u8 (B : Int)] 25) = W0 := ⟨_, rfl⟩
  have HB : Hid (Below w.heap.size w W0) := by unfold Hid; rw [← hW0]; exact three_new w _ _ _
  have HS : Hid (Spans W0) := by unfold Hid; rw [← hW0]; exact ((hS.alloc _).alloc _).alloc _
  have HX : Hid (Whole W0 w.heap.size 27 [.int .i32 r, .int .i32 m, .int .i32 x, .int .u8 (d : Int), .int .u8 (f : Int), .int .u8 (g : Int), .int .u8 (b : Int)]) := by unfold Hid; rw [← hW0]; exact ((Whole.new w 27 [.int .i32 r, .int .i32 m, .int .i32 x, .int .u8 (d : Int), .int .u8 (f : Int), .int .u8 (g : Int), .int .u8 (b : Int)]).alloc _).alloc _
  have HY : Hid (Whole W0 (w.heap.size + 1) 27 [.int .i32 r', .int .i32 m', .int .i32 x', .int .u8 (d' : Int), .int .u8 (f' : Int), .int .u8 (g' : Int), .int .u8 (b' : Int)]) := by unfold Hid; rw [← hW0]; exact whole_mid w _ _ 27 [.int .i32 r', .int .i32 m', .int .i32 x', .int .u8 (d' : Int), .int .u8 (f' : Int), .int .u8 (g' : Int), .int .u8 (b' : Int)]
  have HP : Hid (Whole W0 (w.heap.size + 2) 25 [.int .u8 (F : Int), .int .u8 (G : Int), .int .u8 (B : Int)]) := by unfold Hid; rw [← hW0]; exact whole_thd w _ _ 25 [.int .u8 (F : Int), .int .u8 (G : Int), .int .u8 (B : Int)]
  have CI : Hid (Cels .i32 W0 A cs) := by unfold Hid; rw [← hW0]; exact ((hI1.alloc _).alloc _).alloc _
  have HW0 := hide hW0
  have HI2 := hide hI2
  have HI3 := hide hI3
  have HI4 := hide hI4
  obtain ⟨L, hL⟩ : ∃ L, cs.take (min len 30) = L := ⟨_, rfl⟩
  have HL := hide hL
  have HLB : Hid (LB L) := by unfold Hid; rw [← hL]; exact LB_take hI5 _
  have hn : L.length ≤ 30 := by rw [← hL, List.length_take]; omega
  obtain ⟨N, hN⟩ : ∃ N, L.length = N := ⟨_, rfl⟩
  rw [hN] at hn
  have HN := hide hN
  obtain ⟨M, hM⟩ : ∃ M, lenN to = M := ⟨_, rfl⟩
  have hMl : M ≤ 512 := by rw [← hM]; exact lenN_le to
  have HM := hide hM
  obtain ⟨X4, hX4⟩ : ∃ X, fitC L to = X := ⟨_, rfl⟩
  obtain ⟨X3, hX3⟩ : ∃ X, eraseC L at_ to ⟨F, G, B⟩ = X := ⟨_, rfl⟩
  have T4 : Hid (fitC X4 to = X4) := by unfold Hid; rw [← hX4]; exact fit_twice L to
  have T3 : Hid (eraseC X3 at_ to ⟨F, G, B⟩ = X3) := by unfold Hid; rw [← hX3]; exact erase_twice L at_ to _
  have N3 : Hid (X3.length = N) := by unfold Hid; rw [← hX3, erase_len, hN]
  have N4 : Hid (X4.length = M) := by unfold Hid; rw [← hX4, fit_len, hM]
  have H3 := hide hX3
  have H4 := hide hX4
  obtain ⟨R, hR⟩ : ∃ R, rightL L = R := ⟨_, rfl⟩
  have HR := hide hR
  clear hS hW0 h2 hI1 hI2 hI3 hI4 hI5 hL hN hat hto hR hM hX3 hX4
  go_enter Tryd.func6, Tryd.ntmps6
  go_wp2_with fail
  rw [HW0.out]
  refine (lcut_v CI.out HI2.out HI4.out HI3.out HL.out).mono ?_
  rintro e w1 ⟨A1, c1, rfl, hc, hb⟩
  replace HB := hide (HB.out.trans (hb.mono HB.out.size))
  replace HS := hide (HS.out.below hb)
  replace HX := hide (HX.out.later hb)
  replace HY := hide (HY.out.later hb)
  replace HP := hide (HP.out.later hb)
  have CL := hide hc
  clear hb hc
  rw [HN.out]
  by_cases h : d = 1
  · have HD := hide h
    have e1 : ((d : Int) == 1) = true := by simp; omega
    clear h
    by_cases h : d' = 1
    · have HD' := hide h
      have e2 : ((d' : Int) == 1) = true := by simp; omega
      clear h
      obtain ⟨f1_0, f1_1, f1_2, f1_3, f1_4, f1_5, f1_6, -⟩ := cells7 HX.out
      obtain ⟨f2_0, f2_1, f2_2, f2_3, f2_4, f2_5, f2_6, -⟩ := cells7 HY.out
      go_wp2_with fail
      refine (lright_any A1 N c1 L _ CL.out HN.out (by omega) HLB.out HS.out).mono ?_
      rintro e w2 ⟨rfl, hb⟩
      clear f1_0 f1_1 f1_2 f1_3 f1_4 f1_5 f1_6 f2_0 f2_1 f2_2 f2_3 f2_4 f2_5 f2_6
      replace HB := hide (HB.out.trans (hb.mono HB.out.size))
      replace HS := hide (HS.out.below hb)
      replace HX := hide (HX.out.later hb)
      replace HY := hide (HY.out.later hb)
      replace HP := hide (HP.out.later hb)
      replace CL := hide (CL.out.below hb)
      clear hb 
      rw [HR.out]
      cases R
      · go_wp2_with fail
        refine (fit_v (c := c1) to H4.out HM.out CL.out HN.out).mono ?_
        rintro e t1 ⟨A21, c21, rfl, hc, hb⟩
        replace HB := hide (HB.out.trans (hb.mono HB.out.size))
        replace HS := hide (HS.out.below hb)
        replace HX := hide (HX.out.later hb)
        replace HY := hide (HY.out.later hb)
        replace HP := hide (HP.out.later hb)
        replace CL := hide (CL.out.below hb)
        have CX := hide hc
        clear hb hc
        obtain ⟨f3_0, f3_1, f3_2, -⟩ := cells3 HP.out
        go_wp2_with fail
        refine (erase_v (c := c1) at_ to F G B H3.out CL.out HN.out (by omega)).mono ?_
        rintro e t2 ⟨A22, c22, rfl, hc, hb⟩
        clear f3_0 f3_1 f3_2
        replace HB := hide (HB.out.trans (hb.mono HB.out.size))
        replace HS := hide (HS.out.below hb)
        replace HX := hide (HX.out.later hb)
        replace HY := hide (HY.out.later hb)
        replace HP := hide (HP.out.later hb)
        replace CL := hide (CL.out.below hb)
        replace CX := hide (CX.out.below hb)
        have CY := hide hc
        clear hb hc
        go_wp2_with fail
        refine (lknown_any _ HS.out).mono ?_
        rintro e t3 ⟨rfl, hb⟩
        replace HB := hide (HB.out.trans (hb.mono HB.out.size))
        replace HS := hide (HS.out.below hb)
        replace HX := hide (HX.out.later hb)
        replace HY := hide (HY.out.later hb)
        replace HP := hide (HP.out.later hb)
        replace CL := hide (CL.out.below hb)
        replace CX := hide (CX.out.below hb)
        replace CY := hide (CY.out.below hb)
        clear hb 
        go_wp2_with fail
        refine (fit_v (c := c21) to T4.out HM.out CX.out N4.out).mono ?_
        rintro e t4 ⟨A24, c24, rfl, hc, hb⟩
        replace HB := hide (HB.out.trans (hb.mono HB.out.size))
        replace HS := hide (HS.out.below hb)
        replace HX := hide (HX.out.later hb)
        replace HY := hide (HY.out.later hb)
        replace HP := hide (HP.out.later hb)
        replace CL := hide (CL.out.below hb)
        replace CX := hide (CX.out.below hb)
        replace CY := hide (CY.out.below hb)
        have CXX := hide hc
        clear hb hc
        go_wp2_with fail
        refine (same6_v (c := c24) (d := c21) CXX.out CX.out N4.out (by omega)).mono ?_
        rintro e t5 ⟨rfl, hb⟩
        replace HB := hide (HB.out.trans (hb.mono HB.out.size))
        replace HS := hide (HS.out.below hb)
        replace HX := hide (HX.out.later hb)
        replace HY := hide (HY.out.later hb)
        replace HP := hide (HP.out.later hb)
        replace CL := hide (CL.out.below hb)
        replace CX := hide (CX.out.below hb)
        replace CY := hide (CY.out.below hb)
        replace CXX := hide (CXX.out.below hb)
        clear hb 
        obtain ⟨f4_0, f4_1, f4_2, -⟩ := cells3 HP.out
        go_wp2_with fail
        refine (erase_v (c := c22) at_ to F G B T3.out CY.out N3.out (by omega)).mono ?_
        rintro e t6 ⟨A26, c26, rfl, hc, hb⟩
        clear f4_0 f4_1 f4_2
        replace HB := hide (HB.out.trans (hb.mono HB.out.size))
        replace HS := hide (HS.out.below hb)
        replace HX := hide (HX.out.later hb)
        replace HY := hide (HY.out.later hb)
        replace HP := hide (HP.out.later hb)
        replace CL := hide (CL.out.below hb)
        replace CX := hide (CX.out.below hb)
        replace CY := hide (CY.out.below hb)
        replace CXX := hide (CXX.out.below hb)
        have CYY := hide hc
        clear hb hc
        go_wp2_with fail
        refine (same6_v (c := c26) (d := c22) CYY.out CY.out N3.out (by omega)).mono ?_
        rintro e t7 ⟨rfl, hb⟩
        replace HB := hide (HB.out.trans (hb.mono HB.out.size))
        replace HS := hide (HS.out.below hb)
        replace HX := hide (HX.out.later hb)
        replace HY := hide (HY.out.later hb)
        replace HP := hide (HP.out.later hb)
        replace CL := hide (CL.out.below hb)
        replace CX := hide (CX.out.below hb)
        replace CY := hide (CY.out.below hb)
        replace CXX := hide (CXX.out.below hb)
        replace CYY := hide (CYY.out.below hb)
        clear hb 
        go_wp2
        go_ret
        exact ⟨rfl, HB.out⟩
      · obtain ⟨X1, hX1⟩ : ∃ X, putC L at_ ⟨r, m, x, d, ⟨f, g, b⟩⟩ = X := ⟨_, rfl⟩
        obtain ⟨ok1, hok1⟩ : ∃ X, putOk L at_ ⟨r, m, x, d, ⟨f, g, b⟩⟩ = X := ⟨_, rfl⟩
        obtain ⟨X2, hX2⟩ : ∃ X, putC X1 at_ ⟨r', m', x', d', ⟨f', g', b'⟩⟩ = X := ⟨_, rfl⟩
        obtain ⟨ok2, hok2⟩ : ∃ X, putOk X1 at_ ⟨r', m', x', d', ⟨f', g', b'⟩⟩ = X := ⟨_, rfl⟩
        obtain ⟨X5, hX5⟩ : ∃ X, putC L at_ ⟨r', m', x', d', ⟨f', g', b'⟩⟩ = X := ⟨_, rfl⟩
        obtain ⟨ok5, hok5⟩ : ∃ X, putOk L at_ ⟨r', m', x', d', ⟨f', g', b'⟩⟩ = X := ⟨_, rfl⟩
        have HEQ : Hid (ok1 = true → ok2 = true → ok5 = true → X2 = X5) := by
          unfold Hid
          intro q1 q2 q5
          rw [q1] at hok1
          rw [q2, ← hX1] at hok2
          rw [q5] at hok5
          rw [← hX2, ← hX5, ← hX1]
          exact put_twice L at_ _ _ HD.out HD'.out hok1 hok2 hok5
        have N1 : Hid (X1.length = N) := by unfold Hid; rw [← hX1, put_len, HN.out]
        have N2 : Hid (X2.length = N) := by unfold Hid; rw [← hX2, put_len, N1.out]
        have N5 : Hid (X5.length = N) := by unfold Hid; rw [← hX5, put_len, HN.out]
        have H1 := hide hX1
        have H1' := hide hok1
        have H2 := hide hX2
        have H2' := hide hok2
        have H5 := hide hX5
        have H5' := hide hok5
        clear hX1 hok1 hX2 hok2 hX5 hok5
        obtain ⟨f3_0, f3_1, f3_2, f3_3, f3_4, f3_5, f3_6, -⟩ := cells7 HX.out
        go_wp2_with fail
        refine (put_v (c := c1) at_ r m x d f g b HAT.out H1.out H1'.out CL.out HN.out (by omega) hd HS.out).mono ?_
        rintro e w3 ⟨A3, c3, rfl, hc, hb⟩
        clear f3_0 f3_1 f3_2 f3_3 f3_4 f3_5 f3_6
        replace HB := hide (HB.out.trans (hb.mono HB.out.size))
        replace HS := hide (HS.out.below hb)
        replace HX := hide (HX.out.later hb)
        replace HY := hide (HY.out.later hb)
        replace HP := hide (HP.out.later hb)
        replace CL := hide (CL.out.below hb)
        have CA := hide hc
        clear hb hc
        obtain ⟨f4_0, f4_1, f4_2, f4_3, f4_4, f4_5, f4_6, -⟩ := cells7 HY.out
        go_wp2_with fail
        refine (put_v (c := c3) at_ r' m' x' d' f' g' b' HAT.out H2.out H2'.out CA.out N1.out (by omega) hd' HS.out).mono ?_
        rintro e w4 ⟨A4, c4, rfl, hc, hb⟩
        clear f4_0 f4_1 f4_2 f4_3 f4_4 f4_5 f4_6
        replace HB := hide (HB.out.trans (hb.mono HB.out.size))
        replace HS := hide (HS.out.below hb)
        replace HX := hide (HX.out.later hb)
        replace HY := hide (HY.out.later hb)
        replace HP := hide (HP.out.later hb)
        replace CL := hide (CL.out.below hb)
        replace CA := hide (CA.out.below hb)
        have CB := hide hc
        clear hb hc
        obtain ⟨f5_0, f5_1, f5_2, f5_3, f5_4, f5_5, f5_6, -⟩ := cells7 HY.out
        go_wp2_with fail
        refine (put_v (c := c1) at_ r' m' x' d' f' g' b' HAT.out H5.out H5'.out CL.out HN.out (by omega) hd' HS.out).mono ?_
        rintro e w5 ⟨A5, c5, rfl, hc, hb⟩
        clear f5_0 f5_1 f5_2 f5_3 f5_4 f5_5 f5_6
        replace HB := hide (HB.out.trans (hb.mono HB.out.size))
        replace HS := hide (HS.out.below hb)
        replace HX := hide (HX.out.later hb)
        replace HY := hide (HY.out.later hb)
        replace HP := hide (HP.out.later hb)
        replace CL := hide (CL.out.below hb)
        replace CA := hide (CA.out.below hb)
        replace CB := hide (CB.out.below hb)
        have CE := hide hc
        clear hb hc
        cases ok1
        · go_wp2_with fail
          refine (fit_v (c := c1) to H4.out HM.out CL.out HN.out).mono ?_
          rintro e t1 ⟨A21, c21, rfl, hc, hb⟩
          replace HB := hide (HB.out.trans (hb.mono HB.out.size))
          replace HS := hide (HS.out.below hb)
          replace HX := hide (HX.out.later hb)
          replace HY := hide (HY.out.later hb)
          replace HP := hide (HP.out.later hb)
          replace CL := hide (CL.out.below hb)
          replace CA := hide (CA.out.below hb)
          replace CB := hide (CB.out.below hb)
          replace CE := hide (CE.out.below hb)
          have CX := hide hc
          clear hb hc
          obtain ⟨f6_0, f6_1, f6_2, -⟩ := cells3 HP.out
          go_wp2_with fail
          refine (erase_v (c := c1) at_ to F G B H3.out CL.out HN.out (by omega)).mono ?_
          rintro e t2 ⟨A22, c22, rfl, hc, hb⟩
          clear f6_0 f6_1 f6_2
          replace HB := hide (HB.out.trans (hb.mono HB.out.size))
          replace HS := hide (HS.out.below hb)
          replace HX := hide (HX.out.later hb)
          replace HY := hide (HY.out.later hb)
          replace HP := hide (HP.out.later hb)
          replace CL := hide (CL.out.below hb)
          replace CA := hide (CA.out.below hb)
          replace CB := hide (CB.out.below hb)
          replace CE := hide (CE.out.below hb)
          replace CX := hide (CX.out.below hb)
          have CY := hide hc
          clear hb hc
          go_wp2_with fail
          refine (lknown_any _ HS.out).mono ?_
          rintro e t3 ⟨rfl, hb⟩
          replace HB := hide (HB.out.trans (hb.mono HB.out.size))
          replace HS := hide (HS.out.below hb)
          replace HX := hide (HX.out.later hb)
          replace HY := hide (HY.out.later hb)
          replace HP := hide (HP.out.later hb)
          replace CL := hide (CL.out.below hb)
          replace CA := hide (CA.out.below hb)
          replace CB := hide (CB.out.below hb)
          replace CE := hide (CE.out.below hb)
          replace CX := hide (CX.out.below hb)
          replace CY := hide (CY.out.below hb)
          clear hb 
          go_wp2_with fail
          refine (fit_v (c := c21) to T4.out HM.out CX.out N4.out).mono ?_
          rintro e t4 ⟨A24, c24, rfl, hc, hb⟩
          replace HB := hide (HB.out.trans (hb.mono HB.out.size))
          replace HS := hide (HS.out.below hb)
          replace HX := hide (HX.out.later hb)
          replace HY := hide (HY.out.later hb)
          replace HP := hide (HP.out.later hb)
          replace CL := hide (CL.out.below hb)
          replace CA := hide (CA.out.below hb)
          replace CB := hide (CB.out.below hb)
          replace CE := hide (CE.out.below hb)
          replace CX := hide (CX.out.below hb)
          replace CY := hide (CY.out.below hb)
          have CXX := hide hc
          clear hb hc
          go_wp2_with fail
          refine (same6_v (c := c24) (d := c21) CXX.out CX.out N4.out (by omega)).mono ?_
          rintro e t5 ⟨rfl, hb⟩
          replace HB := hide (HB.out.trans (hb.mono HB.out.size))
          replace HS := hide (HS.out.below hb)
          replace HX := hide (HX.out.later hb)
          replace HY := hide (HY.out.later hb)
          replace HP := hide (HP.out.later hb)
          replace CL := hide (CL.out.below hb)
          replace CA := hide (CA.out.below hb)
          replace CB := hide (CB.out.below hb)
          replace CE := hide (CE.out.below hb)
          replace CX := hide (CX.out.below hb)
          replace CY := hide (CY.out.below hb)
          replace CXX := hide (CXX.out.below hb)
          clear hb 
          obtain ⟨f7_0, f7_1, f7_2, -⟩ := cells3 HP.out
          go_wp2_with fail
          refine (erase_v (c := c22) at_ to F G B T3.out CY.out N3.out (by omega)).mono ?_
          rintro e t6 ⟨A26, c26, rfl, hc, hb⟩
          clear f7_0 f7_1 f7_2
          replace HB := hide (HB.out.trans (hb.mono HB.out.size))
          replace HS := hide (HS.out.below hb)
          replace HX := hide (HX.out.later hb)
          replace HY := hide (HY.out.later hb)
          replace HP := hide (HP.out.later hb)
          replace CL := hide (CL.out.below hb)
          replace CA := hide (CA.out.below hb)
          replace CB := hide (CB.out.below hb)
          replace CE := hide (CE.out.below hb)
          replace CX := hide (CX.out.below hb)
          replace CY := hide (CY.out.below hb)
          replace CXX := hide (CXX.out.below hb)
          have CYY := hide hc
          clear hb hc
          go_wp2_with fail
          refine (same6_v (c := c26) (d := c22) CYY.out CY.out N3.out (by omega)).mono ?_
          rintro e t7 ⟨rfl, hb⟩
          replace HB := hide (HB.out.trans (hb.mono HB.out.size))
          replace HS := hide (HS.out.below hb)
          replace HX := hide (HX.out.later hb)
          replace HY := hide (HY.out.later hb)
          replace HP := hide (HP.out.later hb)
          replace CL := hide (CL.out.below hb)
          replace CA := hide (CA.out.below hb)
          replace CB := hide (CB.out.below hb)
          replace CE := hide (CE.out.below hb)
          replace CX := hide (CX.out.below hb)
          replace CY := hide (CY.out.below hb)
          replace CXX := hide (CXX.out.below hb)
          replace CYY := hide (CYY.out.below hb)
          clear hb 
          go_wp2
          go_ret
          exact ⟨rfl, HB.out⟩
        · cases ok2
          · go_wp2_with fail
            refine (fit_v (c := c1) to H4.out HM.out CL.out HN.out).mono ?_
            rintro e t1 ⟨A21, c21, rfl, hc, hb⟩
            replace HB := hide (HB.out.trans (hb.mono HB.out.size))
            replace HS := hide (HS.out.below hb)
            replace HX := hide (HX.out.later hb)
            replace HY := hide (HY.out.later hb)
            replace HP := hide (HP.out.later hb)
            replace CL := hide (CL.out.below hb)
            replace CA := hide (CA.out.below hb)
            replace CB := hide (CB.out.below hb)
            replace CE := hide (CE.out.below hb)
            have CX := hide hc
            clear hb hc
            obtain ⟨f6_0, f6_1, f6_2, -⟩ := cells3 HP.out
            go_wp2_with fail
            refine (erase_v (c := c1) at_ to F G B H3.out CL.out HN.out (by omega)).mono ?_
            rintro e t2 ⟨A22, c22, rfl, hc, hb⟩
            clear f6_0 f6_1 f6_2
            replace HB := hide (HB.out.trans (hb.mono HB.out.size))
            replace HS := hide (HS.out.below hb)
            replace HX := hide (HX.out.later hb)
            replace HY := hide (HY.out.later hb)
            replace HP := hide (HP.out.later hb)
            replace CL := hide (CL.out.below hb)
            replace CA := hide (CA.out.below hb)
            replace CB := hide (CB.out.below hb)
            replace CE := hide (CE.out.below hb)
            replace CX := hide (CX.out.below hb)
            have CY := hide hc
            clear hb hc
            go_wp2_with fail
            refine (lknown_any _ HS.out).mono ?_
            rintro e t3 ⟨rfl, hb⟩
            replace HB := hide (HB.out.trans (hb.mono HB.out.size))
            replace HS := hide (HS.out.below hb)
            replace HX := hide (HX.out.later hb)
            replace HY := hide (HY.out.later hb)
            replace HP := hide (HP.out.later hb)
            replace CL := hide (CL.out.below hb)
            replace CA := hide (CA.out.below hb)
            replace CB := hide (CB.out.below hb)
            replace CE := hide (CE.out.below hb)
            replace CX := hide (CX.out.below hb)
            replace CY := hide (CY.out.below hb)
            clear hb 
            go_wp2_with fail
            refine (fit_v (c := c21) to T4.out HM.out CX.out N4.out).mono ?_
            rintro e t4 ⟨A24, c24, rfl, hc, hb⟩
            replace HB := hide (HB.out.trans (hb.mono HB.out.size))
            replace HS := hide (HS.out.below hb)
            replace HX := hide (HX.out.later hb)
            replace HY := hide (HY.out.later hb)
            replace HP := hide (HP.out.later hb)
            replace CL := hide (CL.out.below hb)
            replace CA := hide (CA.out.below hb)
            replace CB := hide (CB.out.below hb)
            replace CE := hide (CE.out.below hb)
            replace CX := hide (CX.out.below hb)
            replace CY := hide (CY.out.below hb)
            have CXX := hide hc
            clear hb hc
            go_wp2_with fail
            refine (same6_v (c := c24) (d := c21) CXX.out CX.out N4.out (by omega)).mono ?_
            rintro e t5 ⟨rfl, hb⟩
            replace HB := hide (HB.out.trans (hb.mono HB.out.size))
            replace HS := hide (HS.out.below hb)
            replace HX := hide (HX.out.later hb)
            replace HY := hide (HY.out.later hb)
            replace HP := hide (HP.out.later hb)
            replace CL := hide (CL.out.below hb)
            replace CA := hide (CA.out.below hb)
            replace CB := hide (CB.out.below hb)
            replace CE := hide (CE.out.below hb)
            replace CX := hide (CX.out.below hb)
            replace CY := hide (CY.out.below hb)
            replace CXX := hide (CXX.out.below hb)
            clear hb 
            obtain ⟨f7_0, f7_1, f7_2, -⟩ := cells3 HP.out
            go_wp2_with fail
            refine (erase_v (c := c22) at_ to F G B T3.out CY.out N3.out (by omega)).mono ?_
            rintro e t6 ⟨A26, c26, rfl, hc, hb⟩
            clear f7_0 f7_1 f7_2
            replace HB := hide (HB.out.trans (hb.mono HB.out.size))
            replace HS := hide (HS.out.below hb)
            replace HX := hide (HX.out.later hb)
            replace HY := hide (HY.out.later hb)
            replace HP := hide (HP.out.later hb)
            replace CL := hide (CL.out.below hb)
            replace CA := hide (CA.out.below hb)
            replace CB := hide (CB.out.below hb)
            replace CE := hide (CE.out.below hb)
            replace CX := hide (CX.out.below hb)
            replace CY := hide (CY.out.below hb)
            replace CXX := hide (CXX.out.below hb)
            have CYY := hide hc
            clear hb hc
            go_wp2_with fail
            refine (same6_v (c := c26) (d := c22) CYY.out CY.out N3.out (by omega)).mono ?_
            rintro e t7 ⟨rfl, hb⟩
            replace HB := hide (HB.out.trans (hb.mono HB.out.size))
            replace HS := hide (HS.out.below hb)
            replace HX := hide (HX.out.later hb)
            replace HY := hide (HY.out.later hb)
            replace HP := hide (HP.out.later hb)
            replace CL := hide (CL.out.below hb)
            replace CA := hide (CA.out.below hb)
            replace CB := hide (CB.out.below hb)
            replace CE := hide (CE.out.below hb)
            replace CX := hide (CX.out.below hb)
            replace CY := hide (CY.out.below hb)
            replace CXX := hide (CXX.out.below hb)
            replace CYY := hide (CYY.out.below hb)
            clear hb 
            go_wp2
            go_ret
            exact ⟨rfl, HB.out⟩
          · cases ok5
            · go_wp2_with fail
              refine (fit_v (c := c1) to H4.out HM.out CL.out HN.out).mono ?_
              rintro e t1 ⟨A21, c21, rfl, hc, hb⟩
              replace HB := hide (HB.out.trans (hb.mono HB.out.size))
              replace HS := hide (HS.out.below hb)
              replace HX := hide (HX.out.later hb)
              replace HY := hide (HY.out.later hb)
              replace HP := hide (HP.out.later hb)
              replace CL := hide (CL.out.below hb)
              replace CA := hide (CA.out.below hb)
              replace CB := hide (CB.out.below hb)
              replace CE := hide (CE.out.below hb)
              have CX := hide hc
              clear hb hc
              obtain ⟨f6_0, f6_1, f6_2, -⟩ := cells3 HP.out
              go_wp2_with fail
              refine (erase_v (c := c1) at_ to F G B H3.out CL.out HN.out (by omega)).mono ?_
              rintro e t2 ⟨A22, c22, rfl, hc, hb⟩
              clear f6_0 f6_1 f6_2
              replace HB := hide (HB.out.trans (hb.mono HB.out.size))
              replace HS := hide (HS.out.below hb)
              replace HX := hide (HX.out.later hb)
              replace HY := hide (HY.out.later hb)
              replace HP := hide (HP.out.later hb)
              replace CL := hide (CL.out.below hb)
              replace CA := hide (CA.out.below hb)
              replace CB := hide (CB.out.below hb)
              replace CE := hide (CE.out.below hb)
              replace CX := hide (CX.out.below hb)
              have CY := hide hc
              clear hb hc
              go_wp2_with fail
              refine (lknown_any _ HS.out).mono ?_
              rintro e t3 ⟨rfl, hb⟩
              replace HB := hide (HB.out.trans (hb.mono HB.out.size))
              replace HS := hide (HS.out.below hb)
              replace HX := hide (HX.out.later hb)
              replace HY := hide (HY.out.later hb)
              replace HP := hide (HP.out.later hb)
              replace CL := hide (CL.out.below hb)
              replace CA := hide (CA.out.below hb)
              replace CB := hide (CB.out.below hb)
              replace CE := hide (CE.out.below hb)
              replace CX := hide (CX.out.below hb)
              replace CY := hide (CY.out.below hb)
              clear hb 
              go_wp2_with fail
              refine (fit_v (c := c21) to T4.out HM.out CX.out N4.out).mono ?_
              rintro e t4 ⟨A24, c24, rfl, hc, hb⟩
              replace HB := hide (HB.out.trans (hb.mono HB.out.size))
              replace HS := hide (HS.out.below hb)
              replace HX := hide (HX.out.later hb)
              replace HY := hide (HY.out.later hb)
              replace HP := hide (HP.out.later hb)
              replace CL := hide (CL.out.below hb)
              replace CA := hide (CA.out.below hb)
              replace CB := hide (CB.out.below hb)
              replace CE := hide (CE.out.below hb)
              replace CX := hide (CX.out.below hb)
              replace CY := hide (CY.out.below hb)
              have CXX := hide hc
              clear hb hc
              go_wp2_with fail
              refine (same6_v (c := c24) (d := c21) CXX.out CX.out N4.out (by omega)).mono ?_
              rintro e t5 ⟨rfl, hb⟩
              replace HB := hide (HB.out.trans (hb.mono HB.out.size))
              replace HS := hide (HS.out.below hb)
              replace HX := hide (HX.out.later hb)
              replace HY := hide (HY.out.later hb)
              replace HP := hide (HP.out.later hb)
              replace CL := hide (CL.out.below hb)
              replace CA := hide (CA.out.below hb)
              replace CB := hide (CB.out.below hb)
              replace CE := hide (CE.out.below hb)
              replace CX := hide (CX.out.below hb)
              replace CY := hide (CY.out.below hb)
              replace CXX := hide (CXX.out.below hb)
              clear hb 
              obtain ⟨f7_0, f7_1, f7_2, -⟩ := cells3 HP.out
              go_wp2_with fail
              refine (erase_v (c := c22) at_ to F G B T3.out CY.out N3.out (by omega)).mono ?_
              rintro e t6 ⟨A26, c26, rfl, hc, hb⟩
              clear f7_0 f7_1 f7_2
              replace HB := hide (HB.out.trans (hb.mono HB.out.size))
              replace HS := hide (HS.out.below hb)
              replace HX := hide (HX.out.later hb)
              replace HY := hide (HY.out.later hb)
              replace HP := hide (HP.out.later hb)
              replace CL := hide (CL.out.below hb)
              replace CA := hide (CA.out.below hb)
              replace CB := hide (CB.out.below hb)
              replace CE := hide (CE.out.below hb)
              replace CX := hide (CX.out.below hb)
              replace CY := hide (CY.out.below hb)
              replace CXX := hide (CXX.out.below hb)
              have CYY := hide hc
              clear hb hc
              go_wp2_with fail
              refine (same6_v (c := c26) (d := c22) CYY.out CY.out N3.out (by omega)).mono ?_
              rintro e t7 ⟨rfl, hb⟩
              replace HB := hide (HB.out.trans (hb.mono HB.out.size))
              replace HS := hide (HS.out.below hb)
              replace HX := hide (HX.out.later hb)
              replace HY := hide (HY.out.later hb)
              replace HP := hide (HP.out.later hb)
              replace CL := hide (CL.out.below hb)
              replace CA := hide (CA.out.below hb)
              replace CB := hide (CB.out.below hb)
              replace CE := hide (CE.out.below hb)
              replace CX := hide (CX.out.below hb)
              replace CY := hide (CY.out.below hb)
              replace CXX := hide (CXX.out.below hb)
              replace CYY := hide (CYY.out.below hb)
              clear hb 
              go_wp2
              go_ret
              exact ⟨rfl, HB.out⟩
            · obtain rfl : X2 = X5 := HEQ.out rfl rfl rfl
              go_wp2_with fail
              refine (same6_v (c := c4) (d := c5) CB.out CE.out N2.out (by omega)).mono ?_
              rintro e w6 ⟨rfl, hb⟩
              replace HB := hide (HB.out.trans (hb.mono HB.out.size))
              replace HS := hide (HS.out.below hb)
              replace HX := hide (HX.out.later hb)
              replace HY := hide (HY.out.later hb)
              replace HP := hide (HP.out.later hb)
              replace CL := hide (CL.out.below hb)
              replace CA := hide (CA.out.below hb)
              replace CB := hide (CB.out.below hb)
              replace CE := hide (CE.out.below hb)
              clear hb 
              go_wp2_with fail
              refine (fit_v (c := c1) to H4.out HM.out CL.out HN.out).mono ?_
              rintro e t1 ⟨A21, c21, rfl, hc, hb⟩
              replace HB := hide (HB.out.trans (hb.mono HB.out.size))
              replace HS := hide (HS.out.below hb)
              replace HX := hide (HX.out.later hb)
              replace HY := hide (HY.out.later hb)
              replace HP := hide (HP.out.later hb)
              replace CL := hide (CL.out.below hb)
              replace CA := hide (CA.out.below hb)
              replace CB := hide (CB.out.below hb)
              replace CE := hide (CE.out.below hb)
              have CX := hide hc
              clear hb hc
              obtain ⟨f6_0, f6_1, f6_2, -⟩ := cells3 HP.out
              go_wp2_with fail
              refine (erase_v (c := c1) at_ to F G B H3.out CL.out HN.out (by omega)).mono ?_
              rintro e t2 ⟨A22, c22, rfl, hc, hb⟩
              clear f6_0 f6_1 f6_2
              replace HB := hide (HB.out.trans (hb.mono HB.out.size))
              replace HS := hide (HS.out.below hb)
              replace HX := hide (HX.out.later hb)
              replace HY := hide (HY.out.later hb)
              replace HP := hide (HP.out.later hb)
              replace CL := hide (CL.out.below hb)
              replace CA := hide (CA.out.below hb)
              replace CB := hide (CB.out.below hb)
              replace CE := hide (CE.out.below hb)
              replace CX := hide (CX.out.below hb)
              have CY := hide hc
              clear hb hc
              go_wp2_with fail
              refine (lknown_any _ HS.out).mono ?_
              rintro e t3 ⟨rfl, hb⟩
              replace HB := hide (HB.out.trans (hb.mono HB.out.size))
              replace HS := hide (HS.out.below hb)
              replace HX := hide (HX.out.later hb)
              replace HY := hide (HY.out.later hb)
              replace HP := hide (HP.out.later hb)
              replace CL := hide (CL.out.below hb)
              replace CA := hide (CA.out.below hb)
              replace CB := hide (CB.out.below hb)
              replace CE := hide (CE.out.below hb)
              replace CX := hide (CX.out.below hb)
              replace CY := hide (CY.out.below hb)
              clear hb 
              go_wp2_with fail
              refine (fit_v (c := c21) to T4.out HM.out CX.out N4.out).mono ?_
              rintro e t4 ⟨A24, c24, rfl, hc, hb⟩
              replace HB := hide (HB.out.trans (hb.mono HB.out.size))
              replace HS := hide (HS.out.below hb)
              replace HX := hide (HX.out.later hb)
              replace HY := hide (HY.out.later hb)
              replace HP := hide (HP.out.later hb)
              replace CL := hide (CL.out.below hb)
              replace CA := hide (CA.out.below hb)
              replace CB := hide (CB.out.below hb)
              replace CE := hide (CE.out.below hb)
              replace CX := hide (CX.out.below hb)
              replace CY := hide (CY.out.below hb)
              have CXX := hide hc
              clear hb hc
              go_wp2_with fail
              refine (same6_v (c := c24) (d := c21) CXX.out CX.out N4.out (by omega)).mono ?_
              rintro e t5 ⟨rfl, hb⟩
              replace HB := hide (HB.out.trans (hb.mono HB.out.size))
              replace HS := hide (HS.out.below hb)
              replace HX := hide (HX.out.later hb)
              replace HY := hide (HY.out.later hb)
              replace HP := hide (HP.out.later hb)
              replace CL := hide (CL.out.below hb)
              replace CA := hide (CA.out.below hb)
              replace CB := hide (CB.out.below hb)
              replace CE := hide (CE.out.below hb)
              replace CX := hide (CX.out.below hb)
              replace CY := hide (CY.out.below hb)
              replace CXX := hide (CXX.out.below hb)
              clear hb 
              obtain ⟨f7_0, f7_1, f7_2, -⟩ := cells3 HP.out
              go_wp2_with fail
              refine (erase_v (c := c22) at_ to F G B T3.out CY.out N3.out (by omega)).mono ?_
              rintro e t6 ⟨A26, c26, rfl, hc, hb⟩
              clear f7_0 f7_1 f7_2
              replace HB := hide (HB.out.trans (hb.mono HB.out.size))
              replace HS := hide (HS.out.below hb)
              replace HX := hide (HX.out.later hb)
              replace HY := hide (HY.out.later hb)
              replace HP := hide (HP.out.later hb)
              replace CL := hide (CL.out.below hb)
              replace CA := hide (CA.out.below hb)
              replace CB := hide (CB.out.below hb)
              replace CE := hide (CE.out.below hb)
              replace CX := hide (CX.out.below hb)
              replace CY := hide (CY.out.below hb)
              replace CXX := hide (CXX.out.below hb)
              have CYY := hide hc
              clear hb hc
              go_wp2_with fail
              refine (same6_v (c := c26) (d := c22) CYY.out CY.out N3.out (by omega)).mono ?_
              rintro e t7 ⟨rfl, hb⟩
              replace HB := hide (HB.out.trans (hb.mono HB.out.size))
              replace HS := hide (HS.out.below hb)
              replace HX := hide (HX.out.later hb)
              replace HY := hide (HY.out.later hb)
              replace HP := hide (HP.out.later hb)
              replace CL := hide (CL.out.below hb)
              replace CA := hide (CA.out.below hb)
              replace CB := hide (CB.out.below hb)
              replace CE := hide (CE.out.below hb)
              replace CX := hide (CX.out.below hb)
              replace CY := hide (CY.out.below hb)
              replace CXX := hide (CXX.out.below hb)
              replace CYY := hide (CYY.out.below hb)
              clear hb 
              go_wp2
              go_ret
              exact ⟨rfl, HB.out⟩
    · have e2 : ((d' : Int) == 1) = false := by simp; omega
      clear h
      obtain ⟨f1_0, f1_1, f1_2, f1_3, f1_4, f1_5, f1_6, -⟩ := cells7 HX.out
      obtain ⟨f2_0, f2_1, f2_2, f2_3, f2_4, f2_5, f2_6, -⟩ := cells7 HY.out
      go_wp2_with fail
      refine (fit_v (c := c1) to H4.out HM.out CL.out HN.out).mono ?_
      rintro e t1 ⟨A21, c21, rfl, hc, hb⟩
      clear f1_0 f1_1 f1_2 f1_3 f1_4 f1_5 f1_6 f2_0 f2_1 f2_2 f2_3 f2_4 f2_5 f2_6
      replace HB := hide (HB.out.trans (hb.mono HB.out.size))
      replace HS := hide (HS.out.below hb)
      replace HX := hide (HX.out.later hb)
      replace HY := hide (HY.out.later hb)
      replace HP := hide (HP.out.later hb)
      replace CL := hide (CL.out.below hb)
      have CX := hide hc
      clear hb hc
      obtain ⟨f3_0, f3_1, f3_2, -⟩ := cells3 HP.out
      go_wp2_with fail
      refine (erase_v (c := c1) at_ to F G B H3.out CL.out HN.out (by omega)).mono ?_
      rintro e t2 ⟨A22, c22, rfl, hc, hb⟩
      clear f3_0 f3_1 f3_2
      replace HB := hide (HB.out.trans (hb.mono HB.out.size))
      replace HS := hide (HS.out.below hb)
      replace HX := hide (HX.out.later hb)
      replace HY := hide (HY.out.later hb)
      replace HP := hide (HP.out.later hb)
      replace CL := hide (CL.out.below hb)
      replace CX := hide (CX.out.below hb)
      have CY := hide hc
      clear hb hc
      go_wp2_with fail
      refine (lknown_any _ HS.out).mono ?_
      rintro e t3 ⟨rfl, hb⟩
      replace HB := hide (HB.out.trans (hb.mono HB.out.size))
      replace HS := hide (HS.out.below hb)
      replace HX := hide (HX.out.later hb)
      replace HY := hide (HY.out.later hb)
      replace HP := hide (HP.out.later hb)
      replace CL := hide (CL.out.below hb)
      replace CX := hide (CX.out.below hb)
      replace CY := hide (CY.out.below hb)
      clear hb 
      go_wp2_with fail
      refine (fit_v (c := c21) to T4.out HM.out CX.out N4.out).mono ?_
      rintro e t4 ⟨A24, c24, rfl, hc, hb⟩
      replace HB := hide (HB.out.trans (hb.mono HB.out.size))
      replace HS := hide (HS.out.below hb)
      replace HX := hide (HX.out.later hb)
      replace HY := hide (HY.out.later hb)
      replace HP := hide (HP.out.later hb)
      replace CL := hide (CL.out.below hb)
      replace CX := hide (CX.out.below hb)
      replace CY := hide (CY.out.below hb)
      have CXX := hide hc
      clear hb hc
      go_wp2_with fail
      refine (same6_v (c := c24) (d := c21) CXX.out CX.out N4.out (by omega)).mono ?_
      rintro e t5 ⟨rfl, hb⟩
      replace HB := hide (HB.out.trans (hb.mono HB.out.size))
      replace HS := hide (HS.out.below hb)
      replace HX := hide (HX.out.later hb)
      replace HY := hide (HY.out.later hb)
      replace HP := hide (HP.out.later hb)
      replace CL := hide (CL.out.below hb)
      replace CX := hide (CX.out.below hb)
      replace CY := hide (CY.out.below hb)
      replace CXX := hide (CXX.out.below hb)
      clear hb 
      obtain ⟨f4_0, f4_1, f4_2, -⟩ := cells3 HP.out
      go_wp2_with fail
      refine (erase_v (c := c22) at_ to F G B T3.out CY.out N3.out (by omega)).mono ?_
      rintro e t6 ⟨A26, c26, rfl, hc, hb⟩
      clear f4_0 f4_1 f4_2
      replace HB := hide (HB.out.trans (hb.mono HB.out.size))
      replace HS := hide (HS.out.below hb)
      replace HX := hide (HX.out.later hb)
      replace HY := hide (HY.out.later hb)
      replace HP := hide (HP.out.later hb)
      replace CL := hide (CL.out.below hb)
      replace CX := hide (CX.out.below hb)
      replace CY := hide (CY.out.below hb)
      replace CXX := hide (CXX.out.below hb)
      have CYY := hide hc
      clear hb hc
      go_wp2_with fail
      refine (same6_v (c := c26) (d := c22) CYY.out CY.out N3.out (by omega)).mono ?_
      rintro e t7 ⟨rfl, hb⟩
      replace HB := hide (HB.out.trans (hb.mono HB.out.size))
      replace HS := hide (HS.out.below hb)
      replace HX := hide (HX.out.later hb)
      replace HY := hide (HY.out.later hb)
      replace HP := hide (HP.out.later hb)
      replace CL := hide (CL.out.below hb)
      replace CX := hide (CX.out.below hb)
      replace CY := hide (CY.out.below hb)
      replace CXX := hide (CXX.out.below hb)
      replace CYY := hide (CYY.out.below hb)
      clear hb 
      go_wp2
      go_ret
      exact ⟨rfl, HB.out⟩
  · have e1 : ((d : Int) == 1) = false := by simp; omega
    clear h
    obtain ⟨f1_0, f1_1, f1_2, f1_3, f1_4, f1_5, f1_6, -⟩ := cells7 HX.out
    go_wp2_with fail
    refine (fit_v (c := c1) to H4.out HM.out CL.out HN.out).mono ?_
    rintro e t1 ⟨A21, c21, rfl, hc, hb⟩
    clear f1_0 f1_1 f1_2 f1_3 f1_4 f1_5 f1_6
    replace HB := hide (HB.out.trans (hb.mono HB.out.size))
    replace HS := hide (HS.out.below hb)
    replace HX := hide (HX.out.later hb)
    replace HY := hide (HY.out.later hb)
    replace HP := hide (HP.out.later hb)
    replace CL := hide (CL.out.below hb)
    have CX := hide hc
    clear hb hc
    obtain ⟨f2_0, f2_1, f2_2, -⟩ := cells3 HP.out
    go_wp2_with fail
    refine (erase_v (c := c1) at_ to F G B H3.out CL.out HN.out (by omega)).mono ?_
    rintro e t2 ⟨A22, c22, rfl, hc, hb⟩
    clear f2_0 f2_1 f2_2
    replace HB := hide (HB.out.trans (hb.mono HB.out.size))
    replace HS := hide (HS.out.below hb)
    replace HX := hide (HX.out.later hb)
    replace HY := hide (HY.out.later hb)
    replace HP := hide (HP.out.later hb)
    replace CL := hide (CL.out.below hb)
    replace CX := hide (CX.out.below hb)
    have CY := hide hc
    clear hb hc
    go_wp2_with fail
    refine (lknown_any _ HS.out).mono ?_
    rintro e t3 ⟨rfl, hb⟩
    replace HB := hide (HB.out.trans (hb.mono HB.out.size))
    replace HS := hide (HS.out.below hb)
    replace HX := hide (HX.out.later hb)
    replace HY := hide (HY.out.later hb)
    replace HP := hide (HP.out.later hb)
    replace CL := hide (CL.out.below hb)
    replace CX := hide (CX.out.below hb)
    replace CY := hide (CY.out.below hb)
    clear hb 
    go_wp2_with fail
    refine (fit_v (c := c21) to T4.out HM.out CX.out N4.out).mono ?_
    rintro e t4 ⟨A24, c24, rfl, hc, hb⟩
    replace HB := hide (HB.out.trans (hb.mono HB.out.size))
    replace HS := hide (HS.out.below hb)
    replace HX := hide (HX.out.later hb)
    replace HY := hide (HY.out.later hb)
    replace HP := hide (HP.out.later hb)
    replace CL := hide (CL.out.below hb)
    replace CX := hide (CX.out.below hb)
    replace CY := hide (CY.out.below hb)
    have CXX := hide hc
    clear hb hc
    go_wp2_with fail
    refine (same6_v (c := c24) (d := c21) CXX.out CX.out N4.out (by omega)).mono ?_
    rintro e t5 ⟨rfl, hb⟩
    replace HB := hide (HB.out.trans (hb.mono HB.out.size))
    replace HS := hide (HS.out.below hb)
    replace HX := hide (HX.out.later hb)
    replace HY := hide (HY.out.later hb)
    replace HP := hide (HP.out.later hb)
    replace CL := hide (CL.out.below hb)
    replace CX := hide (CX.out.below hb)
    replace CY := hide (CY.out.below hb)
    replace CXX := hide (CXX.out.below hb)
    clear hb 
    obtain ⟨f3_0, f3_1, f3_2, -⟩ := cells3 HP.out
    go_wp2_with fail
    refine (erase_v (c := c22) at_ to F G B T3.out CY.out N3.out (by omega)).mono ?_
    rintro e t6 ⟨A26, c26, rfl, hc, hb⟩
    clear f3_0 f3_1 f3_2
    replace HB := hide (HB.out.trans (hb.mono HB.out.size))
    replace HS := hide (HS.out.below hb)
    replace HX := hide (HX.out.later hb)
    replace HY := hide (HY.out.later hb)
    replace HP := hide (HP.out.later hb)
    replace CL := hide (CL.out.below hb)
    replace CX := hide (CX.out.below hb)
    replace CY := hide (CY.out.below hb)
    replace CXX := hide (CXX.out.below hb)
    have CYY := hide hc
    clear hb hc
    go_wp2_with fail
    refine (same6_v (c := c26) (d := c22) CYY.out CY.out N3.out (by omega)).mono ?_
    rintro e t7 ⟨rfl, hb⟩
    replace HB := hide (HB.out.trans (hb.mono HB.out.size))
    replace HS := hide (HS.out.below hb)
    replace HX := hide (HX.out.later hb)
    replace HY := hide (HY.out.later hb)
    replace HP := hide (HP.out.later hb)
    replace CL := hide (CL.out.below hb)
    replace CX := hide (CX.out.below hb)
    replace CY := hide (CY.out.below hb)
    replace CXX := hide (CXX.out.below hb)
    replace CYY := hide (CYY.out.below hb)
    clear hb 
    go_wp2
    go_ret
    exact ⟨rfl, HB.out⟩
end Go.Proofs.YtdeoeihbmdgipaaDoor
