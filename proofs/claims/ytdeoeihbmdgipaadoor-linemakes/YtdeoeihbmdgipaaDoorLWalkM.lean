/-
  The walk of the law LineMakes.
-/
import Derived.Test.YtdeoeihbmdgipaaDoorLV
import Derived.Test.YtdeoeihbmdgipaaDoorChainH
namespace Go.Proofs.YtdeoeihbmdgipaaDoor
open Go.ChangeShapes Go.WideShapes Go.ChangeAt Go.RowKit
set_option linter.unusedVariables false

/-- What is known of a line that came in. -/
def LineIn (w : World) (A : Option Addr) (len cap : Nat) (cs : List Cel) : Prop := Cels .i32 w A cs ∧ len ≤ cs.length ∧ len ≤ cap ∧ (A = none → cap = 0) ∧ LB cs
theorem LB_take {cs : List Cel} (h : LB cs) (n : Nat) : LB (cs.take n) := by
  intro i hi
  rw [List.length_take] at hi
  have : cAt (cs.take n) i = cAt cs i := by unfold cAt; simp [show i < n by omega]
  rw [this]
  exact h i (by omega)
set_option maxRecDepth 100000 in
set_option maxHeartbeats 8000000 in
theorem lineMakes_walk (A : Option Addr) (len cap : Nat) (cs : List Cel) (r m x : Int) (d f g b : Nat) (h1 : CelOk r m x d f g b) (at_ to : Int) (F G B : Nat) (h2 : PenOk F G B) (y : Int) (hy0 : R32 y) (w : World) (hI : LineIn w A len cap cs) (hat : (Lit.int .i64 at_).wf = true) (hto : (Lit.int .i64 to).wf = true) (hS : Spans w) :
    Calls Tryd.prog 3 #[.slice A len cap, .agg #[.int .i32 r, .int .i32 m, .int .i32 x, .int .u8 (d : Int), .int .u8 (f : Int), .int .u8 (g : Int), .int .u8 (b : Int)], .int .i64 at_, .int .i64 to, .agg #[.int .u8 (F : Int), .int .u8 (G : Int), .int .u8 (B : Int)], .int .i32 y] w fun e w' => e = .returned (.bool true) ∧ Below w.heap.size w w' := by
  obtain ⟨hr, hm, hx, hd, -⟩ := h1
  obtain ⟨hI1, hI2, hI3, hI4, hI5⟩ := hI
  have HAT := hide (i64_bd hat)
  obtain ⟨W0, hW0⟩ : ∃ W0, (w.alloc (.cells #[.int .i32 r, .int .i32 m, .int .i32 x, .int .u8 (d : Int), .int .u8 (f : Int), .int .u8 (g : Int), .int .u8 (b : Int)] 27)).alloc (.cells #[.int .u8 (F : Int), .int .u8 (G : Int), .int .u8 (B : Int)] 25) = W0 := ⟨_, rfl⟩
  have HB : Hid (Below w.heap.size w W0) := by unfold Hid; rw [← hW0]; exact two_new w _ _ [.int .i32 r, .int .i32 m, .int .i32 x, .int .u8 (d : Int), .int .u8 (f : Int), .int .u8 (g : Int), .int .u8 (b : Int)] [.int .u8 (F : Int), .int .u8 (G : Int), .int .u8 (B : Int)]
  have HS : Hid (Spans W0) := by unfold Hid; rw [← hW0]; exact (hS.alloc _).alloc _
  have HX : Hid (Whole W0 w.heap.size 27 [.int .i32 r, .int .i32 m, .int .i32 x, .int .u8 (d : Int), .int .u8 (f : Int), .int .u8 (g : Int), .int .u8 (b : Int)]) := by unfold Hid; rw [← hW0]; exact (Whole.new w 27 [.int .i32 r, .int .i32 m, .int .i32 x, .int .u8 (d : Int), .int .u8 (f : Int), .int .u8 (g : Int), .int .u8 (b : Int)]).alloc _
  have HP : Hid (Whole W0 (w.heap.size + 1) 25 [.int .u8 (F : Int), .int .u8 (G : Int), .int .u8 (B : Int)]) := by unfold Hid; rw [← hW0]; exact whole_snd w _ 25 [.int .u8 (F : Int), .int .u8 (G : Int), .int .u8 (B : Int)]
  have CI : Hid (Cels .i32 W0 A cs) := by unfold Hid; rw [← hW0]; exact (hI1.alloc _).alloc _
  have HW0 := hide hW0
  have HI2 := hide hI2
  have HI3 := hide hI3
  have HI4 := hide hI4
  obtain ⟨L, hL⟩ : ∃ L, cs.take (min len 30) = L := ⟨_, rfl⟩
  have HL := hide hL
  have HLB : Hid (LB L) := by unfold Hid; rw [← hL]; exact LB_take hI5 _
  have hn : L.length ≤ 30 := by rw [← hL, List.length_take]; omega
  obtain ⟨N, hN⟩ : ∃ N, L.length = N := ⟨_, rfl⟩
  rw [hN] at hn
  have HN := hide hN
  obtain ⟨M, hM⟩ : ∃ M, lenN to = M := ⟨_, rfl⟩
  have hMl : M ≤ 512 := by rw [← hM]; exact lenN_le to
  have HM := hide hM
  obtain ⟨X1, hX1⟩ : ∃ X, putC L at_ ⟨r, m, x, d, ⟨f, g, b⟩⟩ = X := ⟨_, rfl⟩
  obtain ⟨ok1, hok1⟩ : ∃ X, putOk L at_ ⟨r, m, x, d, ⟨f, g, b⟩⟩ = X := ⟨_, rfl⟩
  obtain ⟨⟨X2, ok2⟩, hX2⟩ : ∃ X, lmarkC L at_ y = X := ⟨_, rfl⟩
  obtain ⟨X3, hX3⟩ : ∃ X, eraseC L at_ to ⟨F, G, B⟩ = X := ⟨_, rfl⟩
  obtain ⟨X4, hX4⟩ : ∃ X, fitC L to = X := ⟨_, rfl⟩
  obtain ⟨X5, hX5⟩ : ∃ X, mendC L = X := ⟨_, rfl⟩
  obtain ⟨X6, hX6⟩ : ∃ X, newC to = X := ⟨_, rfl⟩
  have B1 : Hid (LB X1) := by unfold Hid; rw [← hX1]; exact LB_put HLB.out ⟨hr, hm, hx, hd⟩
  have B2 : Hid (LB X2) := by unfold Hid; have q := LB_mark (a := at_) HLB.out hy0; rwa [hX2] at q
  have B3 : Hid (LB X3) := by unfold Hid; rw [← hX3]; exact LB_erase HLB.out
  have B4 : Hid (LB X4) := by unfold Hid; rw [← hX4]; exact LB_fit HLB.out
  have B5 : Hid (LB X5) := by unfold Hid; rw [← hX5]; exact LB_mend HLB.out
  have B6 : Hid (LB X6) := by unfold Hid; rw [← hX6]; exact LB_new to
  have N1 : Hid (X1.length = N) := by unfold Hid; rw [← hX1, put_len, hN]
  have N2 : Hid (X2.length = N) := by unfold Hid; have q := lmark_len L at_ y; rwa [hX2, hN] at q
  have N3 : Hid (X3.length = N) := by unfold Hid; rw [← hX3, erase_len, hN]
  have N4 : Hid (X4.length = M) := by unfold Hid; rw [← hX4, fit_len, hM]
  have N5 : Hid (X5.length = N) := by unfold Hid; rw [← hX5, mend_len, hN]
  have N6 : Hid (X6.length = M) := by unfold Hid; rw [← hX6, new_len, hM]
  have H1 := hide hX1
  have H1' := hide hok1
  have H2 := hide hX2
  have H3 := hide hX3
  have H4 := hide hX4
  have H5 := hide hX5
  have H6 := hide hX6
  have q1 : (ok1 == ok1) = true := by simp
  have q2 : (ok2 == ok2) = true := by simp
  obtain ⟨hy1, hy2⟩ := hy0
  clear hS hW0 h2 hI1 hI2 hI3 hI4 hI5 hL hN hM hX1 hok1 hX2 hX3 hX4 hX5 hX6 hat hto
  go_enter Tryd.func3, Tryd.ntmps3
  go_wp2_with fail
  rw [HW0.out]
  refine (lcut_v CI.out HI2.out HI4.out HI3.out HL.out).mono ?_
  rintro e w1 ⟨A1, c1, rfl, hc, hb⟩
  replace HB := hide (HB.out.trans (hb.mono HB.out.size))
  replace HS := hide (HS.out.below hb)
  replace HX := hide (HX.out.later hb)
  replace HP := hide (HP.out.later hb)
  have CL := hide hc
  clear hb hc
  rw [HN.out]
  go_wp2_with fail
  refine (lineof_v (c := c1) CL.out HN.out (by omega) HLB.out).mono ?_
  rintro e w2 ⟨A2, c2, rfl, hc, hb, hz⟩
  replace HB := hide (HB.out.trans (hb.mono HB.out.size))
  replace HS := hide (HS.out.below hb)
  replace HX := hide (HX.out.later hb)
  replace HP := hide (HP.out.later hb)
  replace CL := hide (CL.out.below hb)
  have CW := hide hc
  have HZ := hide hz
  clear hb hc hz
  obtain ⟨f1_0, f1_1, f1_2, f1_3, f1_4, f1_5, f1_6, -⟩ := cells7 HX.out
  go_wp2_with fail
  refine (put_v (c := c1) at_ r m x d f g b HAT.out H1.out H1'.out CL.out HN.out (by omega) hd HS.out).mono ?_
  rintro e w3 ⟨A3, c3, rfl, hc, hb⟩
  clear f1_0 f1_1 f1_2 f1_3 f1_4 f1_5 f1_6
  replace HB := hide (HB.out.trans (hb.mono HB.out.size))
  replace HS := hide (HS.out.below hb)
  replace HX := hide (HX.out.later hb)
  replace HP := hide (HP.out.later hb)
  replace CL := hide (CL.out.below hb)
  replace CW := hide (CW.out.below hb)
  have CA := hide hc
  clear hb hc
  obtain ⟨f2_0, f2_1, f2_2, f2_3, f2_4, f2_5, f2_6, -⟩ := cells7 HX.out
  go_wp2_with fail
  refine (lof_v r m x d f g b hr hm hx _).mono ?_
  rintro e w4 ⟨rfl, hb⟩
  clear f2_0 f2_1 f2_2 f2_3 f2_4 f2_5 f2_6
  replace HB := hide (HB.out.trans (hb.mono HB.out.size))
  replace HS := hide (HS.out.below hb)
  replace HX := hide (HX.out.later hb)
  replace HP := hide (HP.out.later hb)
  replace CL := hide (CL.out.below hb)
  replace CW := hide (CW.out.below hb)
  replace CA := hide (CA.out.below hb)
  clear hb 
  go_wp2_with fail
  refine (rput_v (c := c2) at_ r m x d f g b HAT.out H1.out H1'.out CW.out HN.out (by omega) hd).mono ?_
  rintro e w5 ⟨A5, c5, rfl, hc, hb⟩
  replace HB := hide (HB.out.trans (hb.mono HB.out.size))
  replace HS := hide (HS.out.below hb)
  replace HX := hide (HX.out.later hb)
  replace HP := hide (HP.out.later hb)
  replace CL := hide (CL.out.below hb)
  replace CW := hide (CW.out.below hb)
  replace CA := hide (CA.out.below hb)
  have CB := hide hc
  clear hb hc
  go_wp2_with fail
  refine (lmark_v (c := c1) at_ y H2.out CL.out HN.out (by omega) HS.out).mono ?_
  rintro e w6 ⟨A6, c6, rfl, hc, hb⟩
  replace HB := hide (HB.out.trans (hb.mono HB.out.size))
  replace HS := hide (HS.out.below hb)
  replace HX := hide (HX.out.later hb)
  replace HP := hide (HP.out.later hb)
  replace CL := hide (CL.out.below hb)
  replace CW := hide (CW.out.below hb)
  replace CA := hide (CA.out.below hb)
  replace CB := hide (CB.out.below hb)
  have CD := hide hc
  clear hb hc
  go_wp2_with fail
  refine (rlmark_v (c := c2) at_ y H2.out CW.out HN.out (by omega) HZ.out).mono ?_
  rintro e W ⟨A7, c7, rfl, hc, hb⟩
  replace HB := hide (HB.out.trans (hb.mono HB.out.size))
  replace HS := hide (HS.out.below hb)
  replace HX := hide (HX.out.later hb)
  replace HP := hide (HP.out.later hb)
  replace CL := hide (CL.out.below hb)
  replace CW := hide (CW.out.below hb)
  replace CA := hide (CA.out.below hb)
  replace CB := hide (CB.out.below hb)
  replace CD := hide (CD.out.below hb)
  have CE := hide hc
  clear hb hc
  go_wp2
  refine wp_region_chainH (fun w' => Below W.heap.size W w') [(false, 0), (false, 1), (true, 2), (false, 3), (false, 4), (false, 5), (false, 6), (true, 7), (false, 8), (false, 9), (false, 10), (false, 11), (true, 12), (false, 13), (false, 14), (false, 15), (false, 16), (true, 17), (false, 18), (false, 19), (false, 20), (false, 21), (true, 22), (true, 23), (true, 24), (true, 27), (true, 28), (true, 29), (true, 25), (true, 30), (false, 26), (false, 31), (false, 32), (false, 33), (false, 34), (true, 35), (true, 36), (true, 38), (true, 39), (false, 37), (false, 40), (false, 41), (false, 42), (false, 43), (true, 44), (true, 46), (false, 45), (false, 47), (false, 48), (false, 49), (false, 50), (true, 51), (true, 53), (false, 52), (false, 54), (false, 55), (false, 56), (false, 57), (true, 58), (false, 59), (false, 60), (false, 61), (false, 62)] (by kernel_rfl) (by kernel_rfl) (by kernel_rfl) (fun _ _ _ _ _ h => h) ?_ ?_
  · exact (Below.refl _ _).drewN 1
  refine chainH_alone (by simp only [List.getElem?_toArray, List.getElem?_cons_zero]; rfl) ?_
  intro K hK
  go_wp2_with fail
  refine (lknown_any _ (HS.out.drewN 1)).mono ?_
  rintro e k0 ⟨rfl, hb⟩
  have Bk0 : Below W.heap.size W k0 := ((Below.refl _ _).drewN 1).trans hb
  clear hb
  go_wp2
  refine hK.out _ _ Bk0 ?_
  clear hK K
  refine chainH_alone (by simp only [List.getElem?_toArray, List.getElem?_cons_zero, List.getElem?_cons_succ]; rfl) ?_
  intro K hK
  go_wp2
  refine hK.out _ _ Bk0 ?_
  clear hK K
  refine chainH_take (v := ?_) (by simp only [List.getElem?_toArray, List.getElem?_cons_zero, List.getElem?_cons_succ]; rfl) (by rfl) (fun w hS => ?_) ?_
  rotate_left
  · go_simp <;> with_reducible rfl
  simp only [Act.put, List.setIfInBounds_toArray, List.set_cons_zero, List.set_cons_succ]
  refine chainH_alone (by simp only [List.getElem?_toArray, List.getElem?_cons_zero, List.getElem?_cons_succ]; rfl) ?_
  intro K hK
  go_wp2
  refine hK.out _ _ Bk0 ?_
  clear hK K
  refine chainH_alone (by simp only [List.getElem?_toArray, List.getElem?_cons_zero, List.getElem?_cons_succ]; rfl) ?_
  intro K hK
  go_wp2_with fail
  refine (lsame_v (CA.out.below Bk0) (CB.out.below Bk0) N1.out (by omega) B1.out).mono ?_
  rintro e k1 ⟨rfl, hb⟩
  have Bk1 : Below W.heap.size W k1 := Bk0.trans (hb.mono Bk0.size)
  clear hb
  go_wp2
  refine hK.out _ _ Bk1 ?_
  clear hK K
  refine chainH_alone (by simp only [List.getElem?_toArray, List.getElem?_cons_zero, List.getElem?_cons_succ]; rfl) ?_
  intro K hK
  go_wp2
  refine hK.out _ _ Bk1 ?_
  clear hK K
  refine chainH_alone (by simp only [List.getElem?_toArray, List.getElem?_cons_zero, List.getElem?_cons_succ]; rfl) ?_
  intro K hK
  go_wp2
  refine hK.out _ _ Bk1 ?_
  clear hK K
  refine chainH_take (v := ?_) (by simp only [List.getElem?_toArray, List.getElem?_cons_zero, List.getElem?_cons_succ]; rfl) (by rfl) (fun w hS => ?_) ?_
  rotate_left
  · go_simp <;> with_reducible rfl
  simp only [Act.put, List.setIfInBounds_toArray, List.set_cons_zero, List.set_cons_succ]
  refine chainH_alone (by simp only [List.getElem?_toArray, List.getElem?_cons_zero, List.getElem?_cons_succ]; rfl) ?_
  intro K hK
  go_wp2
  refine hK.out _ _ Bk1 ?_
  clear hK K
  refine chainH_alone (by simp only [List.getElem?_toArray, List.getElem?_cons_zero, List.getElem?_cons_succ]; rfl) ?_
  intro K hK
  go_wp2
  refine hK.out _ _ Bk1 ?_
  clear hK K
  refine chainH_alone (by simp only [List.getElem?_toArray, List.getElem?_cons_zero, List.getElem?_cons_succ]; rfl) ?_
  intro K hK
  go_wp2
  refine hK.out _ _ Bk1 ?_
  clear hK K
  refine chainH_alone (by simp only [List.getElem?_toArray, List.getElem?_cons_zero, List.getElem?_cons_succ]; rfl) ?_
  intro K hK
  go_wp2
  refine hK.out _ _ Bk1 ?_
  clear hK K
  refine chainH_take (v := ?_) (by simp only [List.getElem?_toArray, List.getElem?_cons_zero, List.getElem?_cons_succ]; rfl) (by rfl) (fun w hS => ?_) ?_
  rotate_left
  · go_simp <;> with_reducible rfl
  simp only [Act.put, List.setIfInBounds_toArray, List.set_cons_zero, List.set_cons_succ]
  refine chainH_alone (by simp only [List.getElem?_toArray, List.getElem?_cons_zero, List.getElem?_cons_succ]; rfl) ?_
  intro K hK
  go_wp2
  refine hK.out _ _ Bk1 ?_
  clear hK K
  refine chainH_alone (by simp only [List.getElem?_toArray, List.getElem?_cons_zero, List.getElem?_cons_succ]; rfl) ?_
  intro K hK
  go_wp2_with fail
  refine (lsame_v (CD.out.below Bk1) (CE.out.below Bk1) N2.out (by omega) B2.out).mono ?_
  rintro e k2 ⟨rfl, hb⟩
  have Bk2 : Below W.heap.size W k2 := Bk1.trans (hb.mono Bk1.size)
  clear hb
  go_wp2
  refine hK.out _ _ Bk2 ?_
  clear hK K
  refine chainH_alone (by simp only [List.getElem?_toArray, List.getElem?_cons_zero, List.getElem?_cons_succ]; rfl) ?_
  intro K hK
  go_wp2
  refine hK.out _ _ Bk2 ?_
  clear hK K
  refine chainH_alone (by simp only [List.getElem?_toArray, List.getElem?_cons_zero, List.getElem?_cons_succ]; rfl) ?_
  intro K hK
  go_wp2
  refine hK.out _ _ Bk2 ?_
  clear hK K
  refine chainH_take (v := ?_) (by simp only [List.getElem?_toArray, List.getElem?_cons_zero, List.getElem?_cons_succ]; rfl) (by rfl) (fun w hS => ?_) ?_
  rotate_left
  · go_simp <;> with_reducible rfl
  simp only [Act.put, List.setIfInBounds_toArray, List.set_cons_zero, List.set_cons_succ]
  refine chainH_alone (by simp only [List.getElem?_toArray, List.getElem?_cons_zero, List.getElem?_cons_succ]; rfl) ?_
  intro K hK
  go_wp2
  refine hK.out _ _ Bk2 ?_
  clear hK K
  refine chainH_alone (by simp only [List.getElem?_toArray, List.getElem?_cons_zero, List.getElem?_cons_succ]; rfl) ?_
  intro K hK
  go_wp2
  refine hK.out _ _ Bk2 ?_
  clear hK K
  refine chainH_alone (by simp only [List.getElem?_toArray, List.getElem?_cons_zero, List.getElem?_cons_succ]; rfl) ?_
  intro K hK
  go_wp2
  refine hK.out _ _ Bk2 ?_
  clear hK K
  refine chainH_alone (by simp only [List.getElem?_toArray, List.getElem?_cons_zero, List.getElem?_cons_succ]; rfl) ?_
  intro K hK
  go_wp2
  refine hK.out _ _ Bk2 ?_
  clear hK K
  refine chainH_take (v := ?_) (by simp only [List.getElem?_toArray, List.getElem?_cons_zero, List.getElem?_cons_succ]; rfl) (by rfl) (fun w hS => ?_) ?_
  rotate_left
  · go_simp <;> with_reducible rfl
  simp only [Act.put, List.setIfInBounds_toArray, List.set_cons_zero, List.set_cons_succ]
  refine chainH_take (v := ?_) (by simp only [List.getElem?_toArray, List.getElem?_cons_zero, List.getElem?_cons_succ]; rfl) (by rfl) (fun w hS => ?_) ?_
  rotate_left
  · go_simp <;> with_reducible rfl
  simp only [Act.put, List.setIfInBounds_toArray, List.set_cons_zero, List.set_cons_succ]
  refine chainH_take (v := ?_) (by simp only [List.getElem?_toArray, List.getElem?_cons_zero, List.getElem?_cons_succ]; rfl) (by rfl) (fun w hS => ?_) ?_
  rotate_left
  · go_simp <;> with_reducible rfl
  simp only [Act.put, List.setIfInBounds_toArray, List.set_cons_zero, List.set_cons_succ]
  refine chainH_take (v := ?_) (by simp only [List.getElem?_toArray, List.getElem?_cons_zero, List.getElem?_cons_succ]; rfl) (by rfl) (fun w hS => ?_) ?_
  rotate_left
  · go_simp <;> with_reducible rfl
  simp only [Act.put, List.setIfInBounds_toArray, List.set_cons_zero, List.set_cons_succ]
  refine chainH_take (v := ?_) (by simp only [List.getElem?_toArray, List.getElem?_cons_zero, List.getElem?_cons_succ]; rfl) (by rfl) (fun w hS => ?_) ?_
  rotate_left
  · go_simp <;> with_reducible rfl
  simp only [Act.put, List.setIfInBounds_toArray, List.set_cons_zero, List.set_cons_succ]
  refine chainH_take (v := ?_) (by simp only [List.getElem?_toArray, List.getElem?_cons_zero, List.getElem?_cons_succ]; rfl) (by rfl) (fun w hS => ?_) ?_
  rotate_left
  · go_simp <;> with_reducible rfl
  simp only [Act.put, List.setIfInBounds_toArray, List.set_cons_zero, List.set_cons_succ]
  refine chainH_take (v := ?_) (by simp only [List.getElem?_toArray, List.getElem?_cons_zero, List.getElem?_cons_succ]; rfl) (by rfl) (fun w hS => ?_) ?_
  rotate_left
  · obtain ⟨a0, a1, a2, -⟩ := cells3 (HP.out.later hS); go_simp <;> with_reducible rfl
  simp only [Act.put, List.setIfInBounds_toArray, List.set_cons_zero, List.set_cons_succ]
  refine chainH_take (v := ?_) (by simp only [List.getElem?_toArray, List.getElem?_cons_zero, List.getElem?_cons_succ]; rfl) (by rfl) (fun w hS => ?_) ?_
  rotate_left
  · obtain ⟨a0, a1, a2, -⟩ := cells3 (HP.out.later hS); go_simp <;> with_reducible rfl
  simp only [Act.put, List.setIfInBounds_toArray, List.set_cons_zero, List.set_cons_succ]
  refine chainH_alone (by simp only [List.getElem?_toArray, List.getElem?_cons_zero, List.getElem?_cons_succ]; rfl) ?_
  intro K hK
  go_wp2_with fail
  refine (erase_v at_ to F G B H3.out (CL.out.below Bk2) HN.out (by omega)).mono ?_
  rintro e k3 ⟨D1, e1, rfl, hc, hb⟩
  have Bk3 : Below W.heap.size W k3 := Bk2.trans (hb.mono Bk2.size)
  have U1 := hide (hc)
  clear hb hc
  go_wp2
  refine hK.out _ _ Bk3 ?_
  clear hK K
  refine chainH_alone (by simp only [List.getElem?_toArray, List.getElem?_cons_zero, List.getElem?_cons_succ]; rfl) ?_
  intro K hK
  go_wp2_with fail
  refine (rerase_v at_ to F G B H3.out (CW.out.below Bk3) HN.out (by omega)).mono ?_
  rintro e k4 ⟨D2, e2, rfl, hc, hb⟩
  have Bk4 : Below W.heap.size W k4 := Bk3.trans (hb.mono Bk3.size)
  have U1' := hide (U1.out.below hb)
  have U2 := hide (hc)
  clear hb hc
  go_wp2
  refine hK.out _ _ Bk4 ?_
  clear hK K
  refine chainH_alone (by simp only [List.getElem?_toArray, List.getElem?_cons_zero, List.getElem?_cons_succ]; rfl) ?_
  intro K hK
  go_wp2_with fail
  refine (lsame_v U1'.out U2.out N3.out (by omega) B3.out).mono ?_
  rintro e k5 ⟨rfl, hb⟩
  have Bk5 : Below W.heap.size W k5 := Bk4.trans (hb.mono Bk4.size)
  clear hb
  go_wp2
  refine hK.out _ _ Bk5 ?_
  clear hK K
  refine chainH_alone (by simp only [List.getElem?_toArray, List.getElem?_cons_zero, List.getElem?_cons_succ]; rfl) ?_
  intro K hK
  go_wp2
  refine hK.out _ _ Bk5 ?_
  clear hK K
  refine chainH_alone (by simp only [List.getElem?_toArray, List.getElem?_cons_zero, List.getElem?_cons_succ]; rfl) ?_
  intro K hK
  go_wp2
  refine hK.out _ _ Bk5 ?_
  clear hK K
  refine chainH_take (v := ?_) (by simp only [List.getElem?_toArray, List.getElem?_cons_zero, List.getElem?_cons_succ]; rfl) (by rfl) (fun w hS => ?_) ?_
  rotate_left
  · go_simp <;> with_reducible rfl
  simp only [Act.put, List.setIfInBounds_toArray, List.set_cons_zero, List.set_cons_succ]
  refine chainH_take (v := ?_) (by simp only [List.getElem?_toArray, List.getElem?_cons_zero, List.getElem?_cons_succ]; rfl) (by rfl) (fun w hS => ?_) ?_
  rotate_left
  · go_simp <;> with_reducible rfl
  simp only [Act.put, List.setIfInBounds_toArray, List.set_cons_zero, List.set_cons_succ]
  refine chainH_take (v := ?_) (by simp only [List.getElem?_toArray, List.getElem?_cons_zero, List.getElem?_cons_succ]; rfl) (by rfl) (fun w hS => ?_) ?_
  rotate_left
  · go_simp <;> with_reducible rfl
  simp only [Act.put, List.setIfInBounds_toArray, List.set_cons_zero, List.set_cons_succ]
  refine chainH_take (v := ?_) (by simp only [List.getElem?_toArray, List.getElem?_cons_zero, List.getElem?_cons_succ]; rfl) (by rfl) (fun w hS => ?_) ?_
  rotate_left
  · go_simp <;> with_reducible rfl
  simp only [Act.put, List.setIfInBounds_toArray, List.set_cons_zero, List.set_cons_succ]
  refine chainH_alone (by simp only [List.getElem?_toArray, List.getElem?_cons_zero, List.getElem?_cons_succ]; rfl) ?_
  intro K hK
  go_wp2_with fail
  refine (fit_v to H4.out HM.out (CL.out.below Bk5) HN.out).mono ?_
  rintro e k6 ⟨D3, e3, rfl, hc, hb⟩
  have Bk6 : Below W.heap.size W k6 := Bk5.trans (hb.mono Bk5.size)
  have U3 := hide (hc)
  clear hb hc
  go_wp2
  refine hK.out _ _ Bk6 ?_
  clear hK K
  refine chainH_alone (by simp only [List.getElem?_toArray, List.getElem?_cons_zero, List.getElem?_cons_succ]; rfl) ?_
  intro K hK
  go_wp2_with fail
  refine (rfit_v to H4.out HM.out (CW.out.below Bk6) HN.out (by omega)).mono ?_
  rintro e k7 ⟨D4, e4, rfl, hc, hb⟩
  have Bk7 : Below W.heap.size W k7 := Bk6.trans (hb.mono Bk6.size)
  have U3' := hide (U3.out.below hb)
  have U4 := hide (hc)
  clear hb hc
  go_wp2
  refine hK.out _ _ Bk7 ?_
  clear hK K
  refine chainH_alone (by simp only [List.getElem?_toArray, List.getElem?_cons_zero, List.getElem?_cons_succ]; rfl) ?_
  intro K hK
  go_wp2_with fail
  refine (lsame_v U3'.out U4.out N4.out (by omega) B4.out).mono ?_
  rintro e k8 ⟨rfl, hb⟩
  have Bk8 : Below W.heap.size W k8 := Bk7.trans (hb.mono Bk7.size)
  clear hb
  go_wp2
  refine hK.out _ _ Bk8 ?_
  clear hK K
  refine chainH_alone (by simp only [List.getElem?_toArray, List.getElem?_cons_zero, List.getElem?_cons_succ]; rfl) ?_
  intro K hK
  go_wp2
  refine hK.out _ _ Bk8 ?_
  clear hK K
  refine chainH_alone (by simp only [List.getElem?_toArray, List.getElem?_cons_zero, List.getElem?_cons_succ]; rfl) ?_
  intro K hK
  go_wp2
  refine hK.out _ _ Bk8 ?_
  clear hK K
  refine chainH_take (v := ?_) (by simp only [List.getElem?_toArray, List.getElem?_cons_zero, List.getElem?_cons_succ]; rfl) (by rfl) (fun w hS => ?_) ?_
  rotate_left
  · go_simp <;> with_reducible rfl
  simp only [Act.put, List.setIfInBounds_toArray, List.set_cons_zero, List.set_cons_succ]
  refine chainH_take (v := ?_) (by simp only [List.getElem?_toArray, List.getElem?_cons_zero, List.getElem?_cons_succ]; rfl) (by rfl) (fun w hS => ?_) ?_
  rotate_left
  · go_simp <;> with_reducible rfl
  simp only [Act.put, List.setIfInBounds_toArray, List.set_cons_zero, List.set_cons_succ]
  refine chainH_alone (by simp only [List.getElem?_toArray, List.getElem?_cons_zero, List.getElem?_cons_succ]; rfl) ?_
  intro K hK
  go_wp2_with fail
  refine (mend_v H5.out (CL.out.below Bk8) HN.out (by omega)).mono ?_
  rintro e k9 ⟨D5, e5, rfl, hc, hb⟩
  have Bk9 : Below W.heap.size W k9 := Bk8.trans (hb.mono Bk8.size)
  have U5 := hide (hc)
  clear hb hc
  go_wp2
  refine hK.out _ _ Bk9 ?_
  clear hK K
  refine chainH_alone (by simp only [List.getElem?_toArray, List.getElem?_cons_zero, List.getElem?_cons_succ]; rfl) ?_
  intro K hK
  go_wp2_with fail
  refine (rmend_v H5.out (CW.out.below Bk9) HN.out (by omega)).mono ?_
  rintro e k10 ⟨D6, e6, rfl, hc, hb⟩
  have Bk10 : Below W.heap.size W k10 := Bk9.trans (hb.mono Bk9.size)
  have U5' := hide (U5.out.below hb)
  have U6 := hide (hc)
  clear hb hc
  go_wp2
  refine hK.out _ _ Bk10 ?_
  clear hK K
  refine chainH_alone (by simp only [List.getElem?_toArray, List.getElem?_cons_zero, List.getElem?_cons_succ]; rfl) ?_
  intro K hK
  go_wp2_with fail
  refine (lsame_v U5'.out U6.out N5.out (by omega) B5.out).mono ?_
  rintro e k11 ⟨rfl, hb⟩
  have Bk11 : Below W.heap.size W k11 := Bk10.trans (hb.mono Bk10.size)
  clear hb
  go_wp2
  refine hK.out _ _ Bk11 ?_
  clear hK K
  refine chainH_alone (by simp only [List.getElem?_toArray, List.getElem?_cons_zero, List.getElem?_cons_succ]; rfl) ?_
  intro K hK
  go_wp2
  refine hK.out _ _ Bk11 ?_
  clear hK K
  refine chainH_alone (by simp only [List.getElem?_toArray, List.getElem?_cons_zero, List.getElem?_cons_succ]; rfl) ?_
  intro K hK
  go_wp2
  refine hK.out _ _ Bk11 ?_
  clear hK K
  refine chainH_take (v := ?_) (by simp only [List.getElem?_toArray, List.getElem?_cons_zero, List.getElem?_cons_succ]; rfl) (by rfl) (fun w hS => ?_) ?_
  rotate_left
  · go_simp <;> with_reducible rfl
  simp only [Act.put, List.setIfInBounds_toArray, List.set_cons_zero, List.set_cons_succ]
  refine chainH_take (v := ?_) (by simp only [List.getElem?_toArray, List.getElem?_cons_zero, List.getElem?_cons_succ]; rfl) (by rfl) (fun w hS => ?_) ?_
  rotate_left
  · go_simp <;> with_reducible rfl
  simp only [Act.put, List.setIfInBounds_toArray, List.set_cons_zero, List.set_cons_succ]
  refine chainH_alone (by simp only [List.getElem?_toArray, List.getElem?_cons_zero, List.getElem?_cons_succ]; rfl) ?_
  intro K hK
  go_wp2_with fail
  refine (new_v to H6.out HM.out _).mono ?_
  rintro e k12 ⟨D7, e7, rfl, hc, hb⟩
  have Bk12 : Below W.heap.size W k12 := Bk11.trans (hb.mono Bk11.size)
  have U7 := hide (hc)
  clear hb hc
  go_wp2
  refine hK.out _ _ Bk12 ?_
  clear hK K
  refine chainH_alone (by simp only [List.getElem?_toArray, List.getElem?_cons_zero, List.getElem?_cons_succ]; rfl) ?_
  intro K hK
  go_wp2_with fail
  refine (rnew_v to H6.out HM.out _).mono ?_
  rintro e k13 ⟨D8, e8, rfl, hc, hb⟩
  have Bk13 : Below W.heap.size W k13 := Bk12.trans (hb.mono Bk12.size)
  have U7' := hide (U7.out.below hb)
  have U8 := hide (hc)
  clear hb hc
  go_wp2
  refine hK.out _ _ Bk13 ?_
  clear hK K
  refine chainH_alone (by simp only [List.getElem?_toArray, List.getElem?_cons_zero, List.getElem?_cons_succ]; rfl) ?_
  intro K hK
  go_wp2_with fail
  refine (lsame_v U7'.out U8.out N6.out (by omega) B6.out).mono ?_
  rintro e k14 ⟨rfl, hb⟩
  have Bk14 : Below W.heap.size W k14 := Bk13.trans (hb.mono Bk13.size)
  clear hb
  go_wp2
  refine hK.out _ _ Bk14 ?_
  clear hK K
  refine chainH_alone (by simp only [List.getElem?_toArray, List.getElem?_cons_zero, List.getElem?_cons_succ]; rfl) ?_
  intro K hK
  go_wp2
  refine hK.out _ _ Bk14 ?_
  clear hK K
  refine chainH_alone (by simp only [List.getElem?_toArray, List.getElem?_cons_zero, List.getElem?_cons_succ]; rfl) ?_
  intro K hK
  go_wp2
  refine hK.out _ _ Bk14 ?_
  clear hK K
  refine chainH_take (v := ?_) (by simp only [List.getElem?_toArray, List.getElem?_cons_zero, List.getElem?_cons_succ]; rfl) (by rfl) (fun w hS => ?_) ?_
  rotate_left
  · go_simp <;> with_reducible rfl
  simp only [Act.put, List.setIfInBounds_toArray, List.set_cons_zero, List.set_cons_succ]
  refine chainH_alone (by simp only [List.getElem?_toArray, List.getElem?_cons_zero, List.getElem?_cons_succ]; rfl) ?_
  intro K hK
  go_wp2
  refine hK.out _ _ Bk14 ?_
  clear hK K
  refine chainH_alone (by simp only [List.getElem?_toArray, List.getElem?_cons_zero, List.getElem?_cons_succ]; rfl) ?_
  intro K hK
  go_wp2_with fail
  refine (lsame_v (CL.out.below Bk14) (CW.out.below Bk14) HN.out (by omega) HLB.out).mono ?_
  rintro e k15 ⟨rfl, hb⟩
  have Bk15 : Below W.heap.size W k15 := Bk14.trans (hb.mono Bk14.size)
  clear hb
  go_wp2
  refine hK.out _ _ Bk15 ?_
  clear hK K
  refine chainH_alone (by simp only [List.getElem?_toArray, List.getElem?_cons_zero, List.getElem?_cons_succ]; rfl) ?_
  intro K hK
  go_wp2
  refine hK.out _ _ Bk15 ?_
  clear hK K
  refine chainH_alone (by simp only [List.getElem?_toArray, List.getElem?_cons_zero, List.getElem?_cons_succ]; rfl) ?_
  intro K hK
  go_wp2
  refine hK.out _ _ Bk15 ?_
  clear hK K
  refine chainH_nil ?_
  go_wp2
  go_ret
  exact ⟨rfl, HB.out.trans (Bk15.mono HB.out.size)⟩
end Go.Proofs.YtdeoeihbmdgipaaDoor
