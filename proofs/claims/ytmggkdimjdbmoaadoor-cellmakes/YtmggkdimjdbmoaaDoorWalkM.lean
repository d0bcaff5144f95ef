/-
  The walk of the law CellMakes.
-/
import Derived.Test.YtmggkdimjdbmoaaDoorWalkR
namespace Go.Proofs.YtmggkdimjdbmoaaDoor
open Go.ChangeShapes Go.WideShapes Go.ChangeAt Go.RowKit
set_option linter.unusedVariables false

set_option maxRecDepth 100000 in
set_option maxHeartbeats 8000000 in
theorem cellMakes_walk (r m n : Int) (d f g b : Nat) (h1 : CelOk r m n d f g b) (x : Int) (hx0 : R32 x) (F G B : Nat) (h2 : PenOk F G B) (w : World) (hS : Spans w) :
    Calls Tryd.prog 3 #[.agg #[.int .i32 r, .int .i32 m, .int .i32 n, .int .u8 (d : Int), .int .u8 (f : Int), .int .u8 (g : Int), .int .u8 (b : Int)], .int .i32 x, .agg #[.int .u8 (F : Int), .int .u8 (G : Int), .int .u8 (B : Int)]] w fun e w' => e = .returned (.bool true) ∧ Below w.heap.size w w' := by
  obtain ⟨hr, hm, hn, hd, -⟩ := h1
  obtain ⟨W0, hW0⟩ : ∃ W0, (w.alloc (.cells #[.int .i32 r, .int .i32 m, .int .i32 n, .int .u8 (d : Int), .int .u8 (f : Int), .int .u8 (g : Int), .int .u8 (b : Int)] 26)).alloc (.cells #[.int .u8 (F : Int), .int .u8 (G : Int), .int .u8 (B : Int)] 24) = W0 := ⟨_, rfl⟩
  have HB : Hid (Below w.heap.size w W0) := by unfold Hid; rw [← hW0]; exact two_new w _ _ [.int .i32 r, .int .i32 m, .int .i32 n, .int .u8 (d : Int), .int .u8 (f : Int), .int .u8 (g : Int), .int .u8 (b : Int)] [.int .u8 (F : Int), .int .u8 (G : Int), .int .u8 (B : Int)]
  have HS : Hid (Spans W0) := by unfold Hid; rw [← hW0]; exact (hS.alloc _).alloc _
  have HA : Hid (Whole W0 w.heap.size 26 [.int .i32 r, .int .i32 m, .int .i32 n, .int .u8 (d : Int), .int .u8 (f : Int), .int .u8 (g : Int), .int .u8 (b : Int)]) := by unfold Hid; rw [← hW0]; exact (Whole.new w 26 [.int .i32 r, .int .i32 m, .int .i32 n, .int .u8 (d : Int), .int .u8 (f : Int), .int .u8 (g : Int), .int .u8 (b : Int)]).alloc _
  have HP : Hid (Whole W0 (w.heap.size + 1) 24 [.int .u8 (F : Int), .int .u8 (G : Int), .int .u8 (B : Int)]) := by unfold Hid; rw [← hW0]; exact whole_snd w _ 24 [.int .u8 (F : Int), .int .u8 (G : Int), .int .u8 (B : Int)]
  have HW0 := hide hW0
  clear hS hW0 h2
  obtain ⟨⟨⟨r1, m1, n1, d1, ⟨f1, g1, b1⟩⟩, ok1⟩, ho⟩ : ∃ y, ofC x ⟨F, G, B⟩ = y := ⟨_, rfl⟩
  obtain ⟨⟨⟨r2, m2, n2, d2, ⟨f2, g2, b2⟩⟩, ok2⟩, hk⟩ : ∃ y, markC ⟨r, m, n, d, ⟨f, g, b⟩⟩ x = y := ⟨_, rfl⟩
  obtain ⟨hr1, hm1, hn1, hd1⟩ := of_r32 hx0 ho
  obtain ⟨hr2, hm2, hn2, hd2⟩ := mark_r32 hx0 hr hm hn hd hk
  have HO := hide ho
  have HK := hide hk
  have HAL := hide (alike_with r m n d f g b F G B)
  obtain ⟨hx1, hx2⟩ := hx0
  have q1 : (ok1 == ok1) = true := by simp
  have q2 : (ok2 == ok2) = true := by simp
  have z1 := eqC_self r1 m1 n1 (d1 : Int) (f1 : Int) (g1 : Int) (b1 : Int)
  have z2 := eqC_self r2 m2 n2 (d2 : Int) (f2 : Int) (g2 : Int) (b2 : Int)
  have z3 := eqC_self 32 0 0 1 (F : Int) (G : Int) (B : Int)
  have z4 := eqC_self 0 0 0 0 (f : Int) (g : Int) (b : Int)
  have z5 := eqP_self (F : Int) (G : Int) (B : Int)
  have eC := eqlC
  have eP := eqlPen
  clear ho hk hd
  go_enter Tryd.func3, Tryd.ntmps3
  go_wp2_with fail
  rw [HW0.out]
  refine (cof_v x F G B r1 m1 n1 d1 f1 g1 b1 ok1 HO.out _ HS.out).mono ?_
  rintro e w1 ⟨rfl, hb⟩
  replace HB := hide (HB.out.trans (hb.mono HB.out.size))
  replace HS := hide (HS.out.below hb)
  replace HA := hide (HA.out.later hb)
  replace HP := hide (HP.out.later hb)
  clear hb
  obtain ⟨f10, f11, f12, -⟩ := cells3 HP.out
  have l1 := HP.out.lt
  replace HB := hide (HB.out.alloc HB.out.size (.cells #[.int .i32 r1, .int .i32 m1, .int .i32 n1, .int .u8 (d1 : Int), .int .u8 (f1 : Int), .int .u8 (g1 : Int), .int .u8 (b1 : Int)] 26))
  replace HS := hide (HS.out.alloc (.cells #[.int .i32 r1, .int .i32 m1, .int .i32 n1, .int .u8 (d1 : Int), .int .u8 (f1 : Int), .int .u8 (g1 : Int), .int .u8 (b1 : Int)] 26))
  replace HA := hide (HA.out.alloc (.cells #[.int .i32 r1, .int .i32 m1, .int .i32 n1, .int .u8 (d1 : Int), .int .u8 (f1 : Int), .int .u8 (g1 : Int), .int .u8 (b1 : Int)] 26))
  replace HP := hide (HP.out.alloc (.cells #[.int .i32 r1, .int .i32 m1, .int .i32 n1, .int .u8 (d1 : Int), .int .u8 (f1 : Int), .int .u8 (g1 : Int), .int .u8 (b1 : Int)] 26))
  have H7 := hide (Whole.new w1 26 [.int .i32 r1, .int .i32 m1, .int .i32 n1, .int .u8 (d1 : Int), .int .u8 (f1 : Int), .int .u8 (g1 : Int), .int .u8 (b1 : Int)])
  go_wp2_with fail
  refine (rcof_v x F G B r1 m1 n1 d1 f1 g1 b1 ok1 HO.out _).mono ?_
  rintro e w2 ⟨rfl, hb⟩
  clear f10 f11 f12 l1
  replace HB := hide (HB.out.trans (hb.mono HB.out.size))
  replace HS := hide (HS.out.below hb)
  replace HA := hide (HA.out.later hb)
  replace HP := hide (HP.out.later hb)
  replace H7 := hide (H7.out.later hb)
  clear hb
  obtain ⟨f20, f21, f22, f23, f24, f25, f26, -⟩ := cells7 HA.out
  have l2 := HA.out.lt
  replace HB := hide (HB.out.alloc HB.out.size (.cells #[.int .i64 r1, .int .i64 m1, .int .i64 n1, .int .u8 (d1 : Int), .int .u8 (f1 : Int), .int .u8 (g1 : Int), .int .u8 (b1 : Int)] 32))
  replace HS := hide (HS.out.alloc (.cells #[.int .i64 r1, .int .i64 m1, .int .i64 n1, .int .u8 (d1 : Int), .int .u8 (f1 : Int), .int .u8 (g1 : Int), .int .u8 (b1 : Int)] 32))
  replace HA := hide (HA.out.alloc (.cells #[.int .i64 r1, .int .i64 m1, .int .i64 n1, .int .u8 (d1 : Int), .int .u8 (f1 : Int), .int .u8 (g1 : Int), .int .u8 (b1 : Int)] 32))
  replace HP := hide (HP.out.alloc (.cells #[.int .i64 r1, .int .i64 m1, .int .i64 n1, .int .u8 (d1 : Int), .int .u8 (f1 : Int), .int .u8 (g1 : Int), .int .u8 (b1 : Int)] 32))
  replace H7 := hide (H7.out.alloc (.cells #[.int .i64 r1, .int .i64 m1, .int .i64 n1, .int .u8 (d1 : Int), .int .u8 (f1 : Int), .int .u8 (g1 : Int), .int .u8 (b1 : Int)] 32))
  have H9 := hide (Whole.new w2 32 [.int .i64 r1, .int .i64 m1, .int .i64 n1, .int .u8 (d1 : Int), .int .u8 (f1 : Int), .int .u8 (g1 : Int), .int .u8 (b1 : Int)])
  go_wp2_with fail
  refine (cmark_v r m n d f g b x r2 m2 n2 d2 f2 g2 b2 ok2 HK.out _ HS.out).mono ?_
  rintro e w3 ⟨rfl, hb⟩
  clear f20 f21 f22 f23 f24 f25 f26 l2
  replace HB := hide (HB.out.trans (hb.mono HB.out.size))
  replace HS := hide (HS.out.below hb)
  replace HA := hide (HA.out.later hb)
  replace HP := hide (HP.out.later hb)
  replace H7 := hide (H7.out.later hb)
  replace H9 := hide (H9.out.later hb)
  clear hb
  obtain ⟨f30, f31, f32, f33, f34, f35, f36, -⟩ := cells7 HA.out
  have l3 := HA.out.lt
  replace HB := hide (HB.out.alloc HB.out.size (.cells #[.int .i32 r2, .int .i32 m2, .int .i32 n2, .int .u8 (d2 : Int), .int .u8 (f2 : Int), .int .u8 (g2 : Int), .int .u8 (b2 : Int)] 26))
  replace HS := hide (HS.out.alloc (.cells #[.int .i32 r2, .int .i32 m2, .int .i32 n2, .int .u8 (d2 : Int), .int .u8 (f2 : Int), .int .u8 (g2 : Int), .int .u8 (b2 : Int)] 26))
  replace HA := hide (HA.out.alloc (.cells #[.int .i32 r2, .int .i32 m2, .int .i32 n2, .int .u8 (d2 : Int), .int .u8 (f2 : Int), .int .u8 (g2 : Int), .int .u8 (b2 : Int)] 26))
  replace HP := hide (HP.out.alloc (.cells #[.int .i32 r2, .int .i32 m2, .int .i32 n2, .int .u8 (d2 : Int), .int .u8 (f2 : Int), .int .u8 (g2 : Int), .int .u8 (b2 : Int)] 26))
  replace H7 := hide (H7.out.alloc (.cells #[.int .i32 r2, .int .i32 m2, .int .i32 n2, .int .u8 (d2 : Int), .int .u8 (f2 : Int), .int .u8 (g2 : Int), .int .u8 (b2 : Int)] 26))
  replace H9 := hide (H9.out.alloc (.cells #[.int .i32 r2, .int .i32 m2, .int .i32 n2, .int .u8 (d2 : Int), .int .u8 (f2 : Int), .int .u8 (g2 : Int), .int .u8 (b2 : Int)] 26))
  have H11 := hide (Whole.new w3 26 [.int .i32 r2, .int .i32 m2, .int .i32 n2, .int .u8 (d2 : Int), .int .u8 (f2 : Int), .int .u8 (g2 : Int), .int .u8 (b2 : Int)])
  go_wp2_with fail
  refine (lof_v r m n d f g b hr hm hn _).mono ?_
  rintro e w4 ⟨rfl, hb⟩
  clear f30 f31 f32 f33 f34 f35 f36 l3
  replace HB := hide (HB.out.trans (hb.mono HB.out.size))
  replace HS := hide (HS.out.below hb)
  replace HA := hide (HA.out.later hb)
  replace HP := hide (HP.out.later hb)
  replace H7 := hide (H7.out.later hb)
  replace H9 := hide (H9.out.later hb)
  replace H11 := hide (H11.out.later hb)
  clear hb
  go_wp2_with fail
  refine (rcmark_v r m n d f g b x r2 m2 n2 d2 f2 g2 b2 ok2 HK.out _).mono ?_
  rintro e w5 ⟨rfl, hb⟩
  replace HB := hide (HB.out.trans (hb.mono HB.out.size))
  replace HS := hide (HS.out.below hb)
  replace HA := hide (HA.out.later hb)
  replace HP := hide (HP.out.later hb)
  replace H7 := hide (H7.out.later hb)
  replace H9 := hide (H9.out.later hb)
  replace H11 := hide (H11.out.later hb)
  clear hb
  obtain ⟨f40, f41, f42, f43, f44, f45, f46, -⟩ := cells7 HA.out
  have l4 := HA.out.lt
  obtain ⟨f50, f51, f52, -⟩ := cells3 HP.out
  have l5 := HP.out.lt
  replace HB := hide (HB.out.alloc HB.out.size (.cells #[.int .i64 r2, .int .i64 m2, .int .i64 n2, .int .u8 (d2 : Int), .int .u8 (f2 : Int), .int .u8 (g2 : Int), .int .u8 (b2 : Int)] 32))
  replace HS := hide (HS.out.alloc (.cells #[.int .i64 r2, .int .i64 m2, .int .i64 n2, .int .u8 (d2 : Int), .int .u8 (f2 : Int), .int .u8 (g2 : Int), .int .u8 (b2 : Int)] 32))
  replace HA := hide (HA.out.alloc (.cells #[.int .i64 r2, .int .i64 m2, .int .i64 n2, .int .u8 (d2 : Int), .int .u8 (f2 : Int), .int .u8 (g2 : Int), .int .u8 (b2 : Int)] 32))
  replace HP := hide (HP.out.alloc (.cells #[.int .i64 r2, .int .i64 m2, .int .i64 n2, .int .u8 (d2 : Int), .int .u8 (f2 : Int), .int .u8 (g2 : Int), .int .u8 (b2 : Int)] 32))
  replace H7 := hide (H7.out.alloc (.cells #[.int .i64 r2, .int .i64 m2, .int .i64 n2, .int .u8 (d2 : Int), .int .u8 (f2 : Int), .int .u8 (g2 : Int), .int .u8 (b2 : Int)] 32))
  replace H9 := hide (H9.out.alloc (.cells #[.int .i64 r2, .int .i64 m2, .int .i64 n2, .int .u8 (d2 : Int), .int .u8 (f2 : Int), .int .u8 (g2 : Int), .int .u8 (b2 : Int)] 32))
  replace H11 := hide (H11.out.alloc (.cells #[.int .i64 r2, .int .i64 m2, .int .i64 n2, .int .u8 (d2 : Int), .int .u8 (f2 : Int), .int .u8 (g2 : Int), .int .u8 (b2 : Int)] 32))
  have H13 := hide (Whole.new w5 32 [.int .i64 r2, .int .i64 m2, .int .i64 n2, .int .u8 (d2 : Int), .int .u8 (f2 : Int), .int .u8 (g2 : Int), .int .u8 (b2 : Int)])
  go_wp2_with fail
  refine (with_v r m n d f g b F G B _).mono ?_
  rintro e w6 ⟨rfl, hb⟩
  clear f40 f41 f42 f43 f44 f45 f46 l4 f50 f51 f52 l5
  replace HB := hide (HB.out.trans (hb.mono HB.out.size))
  replace HS := hide (HS.out.below hb)
  replace HA := hide (HA.out.later hb)
  replace HP := hide (HP.out.later hb)
  replace H7 := hide (H7.out.later hb)
  replace H9 := hide (H9.out.later hb)
  replace H11 := hide (H11.out.later hb)
  replace H13 := hide (H13.out.later hb)
  clear hb
  replace HB := hide (HB.out.alloc HB.out.size (.cells #[.int .i32 r, .int .i32 m, .int .i32 n, .int .u8 (d : Int), .int .u8 (F : Int), .int .u8 (G : Int), .int .u8 (B : Int)] 26))
  replace HS := hide (HS.out.alloc (.cells #[.int .i32 r, .int .i32 m, .int .i32 n, .int .u8 (d : Int), .int .u8 (F : Int), .int .u8 (G : Int), .int .u8 (B : Int)] 26))
  replace HA := hide (HA.out.alloc (.cells #[.int .i32 r, .int .i32 m, .int .i32 n, .int .u8 (d : Int), .int .u8 (F : Int), .int .u8 (G : Int), .int .u8 (B : Int)] 26))
  replace HP := hide (HP.out.alloc (.cells #[.int .i32 r, .int .i32 m, .int .i32 n, .int .u8 (d : Int), .int .u8 (F : Int), .int .u8 (G : Int), .int .u8 (B : Int)] 26))
  replace H7 := hide (H7.out.alloc (.cells #[.int .i32 r, .int .i32 m, .int .i32 n, .int .u8 (d : Int), .int .u8 (F : Int), .int .u8 (G : Int), .int .u8 (B : Int)] 26))
  replace H9 := hide (H9.out.alloc (.cells #[.int .i32 r, .int .i32 m, .int .i32 n, .int .u8 (d : Int), .int .u8 (F : Int), .int .u8 (G : Int), .int .u8 (B : Int)] 26))
  replace H11 := hide (H11.out.alloc (.cells #[.int .i32 r, .int .i32 m, .int .i32 n, .int .u8 (d : Int), .int .u8 (F : Int), .int .u8 (G : Int), .int .u8 (B : Int)] 26))
  replace H13 := hide (H13.out.alloc (.cells #[.int .i32 r, .int .i32 m, .int .i32 n, .int .u8 (d : Int), .int .u8 (F : Int), .int .u8 (G : Int), .int .u8 (B : Int)] 26))
  have H15 := hide (Whole.new w6 26 [.int .i32 r, .int .i32 m, .int .i32 n, .int .u8 (d : Int), .int .u8 (F : Int), .int .u8 (G : Int), .int .u8 (B : Int)])
  go_wp2
  obtain ⟨W, hW⟩ : ∃ W, w6.alloc (.cells #[.int .i32 r, .int .i32 m, .int .i32 n, .int .u8 (d : Int), .int .u8 (F : Int), .int .u8 (G : Int), .int .u8 (B : Int)] 26) = W := ⟨_, rfl⟩
  rw [hW]
  rw [hW] at HB
  rw [hW] at HS
  rw [hW] at HA
  rw [hW] at HP
  rw [hW] at H7
  rw [hW] at H9
  rw [hW] at H11
  rw [hW] at H13
  rw [hW] at H15
  clear hW
  refine wp_region_chainH (fun w' => Below W.heap.size W w') [(false, 0), (false, 1), (true, 2), (true, 4), (false, 3), (false, 5), (false, 6), (false, 7), (true, 8), (false, 9), (false, 10), (false, 11), (false, 12), (true, 13), (true, 15), (false, 14), (false, 16), (false, 17), (false, 18), (true, 19), (false, 20), (false, 21), (false, 22), (false, 23), (true, 24), (true, 27), (false, 25), (false, 26), (false, 28), (false, 29), (false, 30), (false, 31), (true, 32), (true, 35), (false, 33), (false, 34), (false, 36), (false, 37), (false, 38), (false, 39), (false, 40), (true, 41), (true, 42), (false, 43), (false, 44), (false, 45), (false, 46), (true, 47), (false, 48), (false, 49), (false, 50), (false, 51)] (by kernel_rfl) (by kernel_rfl) (by kernel_rfl) (fun _ _ _ _ _ h => h) ?_ ?_
  · exact (Below.refl _ _).drewN 1
  refine chainH_alone (by simp only [List.getElem?_toArray, List.getElem?_cons_zero]; rfl) ?_
  intro K hK
  go_wp2_with fail
  refine (known_any _ (HS.out.drewN 1)).mono ?_
  rintro e k0 ⟨rfl, hb⟩
  have Bk0 : Below W.heap.size W k0 := ((Below.refl _ _).drewN 1).trans hb
  clear hb
  go_wp2
  refine hK.out _ _ Bk0 ?_
  clear hK K
  refine chainH_alone (by simp only [List.getElem?_toArray, List.getElem?_cons_zero, List.getElem?_cons_succ]; rfl) ?_
  intro K hK
  go_wp2
  refine hK.out _ _ Bk0 ?_
  clear hK K
  refine chainH_take (v := ?_) (by simp only [List.getElem?_toArray, List.getElem?_cons_zero, List.getElem?_cons_succ]; rfl) (by rfl) (fun w hS => ?_) ?_
  rotate_left
  · obtain ⟨a0, a1, a2, a3, a4, a5, a6, -⟩ := cells7 (H7.out.later hS); go_simp <;> with_reducible rfl
  simp only [Act.put, List.setIfInBounds_toArray, List.set_cons_zero, List.set_cons_succ]
  refine chainH_take (v := ?_) (by simp only [List.getElem?_toArray, List.getElem?_cons_zero, List.getElem?_cons_succ]; rfl) (by rfl) (fun w hS => ?_) ?_
  rotate_left
  · obtain ⟨a0, a1, a2, a3, a4, a5, a6, -⟩ := cells7 (H9.out.later hS); go_simp <;> with_reducible rfl
  simp only [Act.put, List.setIfInBounds_toArray, List.set_cons_zero, List.set_cons_succ]
  refine chainH_alone (by simp only [List.getElem?_toArray, List.getElem?_cons_zero, List.getElem?_cons_succ]; rfl) ?_
  intro K hK
  go_wp2_with fail
  refine (lof_v r1 m1 n1 d1 f1 g1 b1 hr1 hm1 hn1 _).mono ?_
  rintro e k1 ⟨rfl, hb⟩
  have Bk1 : Below W.heap.size W k1 := Bk0.trans (hb.mono Bk0.size)
  clear hb
  go_wp2
  refine hK.out _ _ Bk1 ?_
  clear hK K
  refine chainH_alone (by simp only [List.getElem?_toArray, List.getElem?_cons_zero, List.getElem?_cons_succ]; rfl) ?_
  intro K hK
  go_wp2
  refine hK.out _ _ Bk1 ?_
  clear hK K
  refine chainH_alone (by simp only [List.getElem?_toArray, List.getElem?_cons_zero, List.getElem?_cons_succ]; rfl) ?_
  intro K hK
  go_wp2
  refine hK.out _ _ Bk1 ?_
  clear hK K
  refine chainH_alone (by simp only [List.getElem?_toArray, List.getElem?_cons_zero, List.getElem?_cons_succ]; rfl) ?_
  intro K hK
  go_wp2
  refine hK.out _ _ Bk1 ?_
  clear hK K
  refine chainH_take (v := ?_) (by simp only [List.getElem?_toArray, List.getElem?_cons_zero, List.getElem?_cons_succ]; rfl) (by rfl) (fun w hS => ?_) ?_
  rotate_left
  · go_simp <;> with_reducible rfl
  simp only [Act.put, List.setIfInBounds_toArray, List.set_cons_zero, List.set_cons_succ]
  refine chainH_alone (by simp only [List.getElem?_toArray, List.getElem?_cons_zero, List.getElem?_cons_succ]; rfl) ?_
  intro K hK
  go_wp2
  refine hK.out _ _ Bk1 ?_
  clear hK K
  refine chainH_alone (by simp only [List.getElem?_toArray, List.getElem?_cons_zero, List.getElem?_cons_succ]; rfl) ?_
  intro K hK
  go_wp2
  refine hK.out _ _ Bk1 ?_
  clear hK K
  refine chainH_alone (by simp only [List.getElem?_toArray, List.getElem?_cons_zero, List.getElem?_cons_succ]; rfl) ?_
  intro K hK
  go_wp2
  refine hK.out _ _ Bk1 ?_
  clear hK K
  refine chainH_alone (by simp only [List.getElem?_toArray, List.getElem?_cons_zero, List.getElem?_cons_succ]; rfl) ?_
  intro K hK
  go_wp2
  refine hK.out _ _ Bk1 ?_
  clear hK K
  refine chainH_take (v := ?_) (by simp only [List.getElem?_toArray, List.getElem?_cons_zero, List.getElem?_cons_succ]; rfl) (by rfl) (fun w hS => ?_) ?_
  rotate_left
  · obtain ⟨a0, a1, a2, a3, a4, a5, a6, -⟩ := cells7 (H11.out.later hS); go_simp <;> with_reducible rfl
  simp only [Act.put, List.setIfInBounds_toArray, List.set_cons_zero, List.set_cons_succ]
  refine chainH_take (v := ?_) (by simp only [List.getElem?_toArray, List.getElem?_cons_zero, List.getElem?_cons_succ]; rfl) (by rfl) (fun w hS => ?_) ?_
  rotate_left
  · obtain ⟨a0, a1, a2, a3, a4, a5, a6, -⟩ := cells7 (H13.out.later hS); go_simp <;> with_reducible rfl
  simp only [Act.put, List.setIfInBounds_toArray, List.set_cons_zero, List.set_cons_succ]
  refine chainH_alone (by simp only [List.getElem?_toArray, List.getElem?_cons_zero, List.getElem?_cons_succ]; rfl) ?_
  intro K hK
  go_wp2_with fail
  refine (lof_v r2 m2 n2 d2 f2 g2 b2 hr2 hm2 hn2 _).mono ?_
  rintro e k2 ⟨rfl, hb⟩
  have Bk2 : Below W.heap.size W k2 := Bk1.trans (hb.mono Bk1.size)
  clear hb
  go_wp2
  refine hK.out _ _ Bk2 ?_
  clear hK K
  refine chainH_alone (by simp only [List.getElem?_toArray, List.getElem?_cons_zero, List.getElem?_cons_succ]; rfl) ?_
  intro K hK
  go_wp2
  refine hK.out _ _ Bk2 ?_
  clear hK K
  refine chainH_alone (by simp only [List.getElem?_toArray, List.getElem?_cons_zero, List.getElem?_cons_succ]; rfl) ?_
  intro K hK
  go_wp2
  refine hK.out _ _ Bk2 ?_
  clear hK K
  refine chainH_alone (by simp only [List.getElem?_toArray, List.getElem?_cons_zero, List.getElem?_cons_succ]; rfl) ?_
  intro K hK
  go_wp2
  refine hK.out _ _ Bk2 ?_
  clear hK K
  refine chainH_take (v := ?_) (by simp only [List.getElem?_toArray, List.getElem?_cons_zero, List.getElem?_cons_succ]; rfl) (by rfl) (fun w hS => ?_) ?_
  rotate_left
  · go_simp <;> with_reducible rfl
  simp only [Act.put, List.setIfInBounds_toArray, List.set_cons_zero, List.set_cons_succ]
  refine chainH_alone (by simp only [List.getElem?_toArray, List.getElem?_cons_zero, List.getElem?_cons_succ]; rfl) ?_
  intro K hK
  go_wp2
  refine hK.out _ _ Bk2 ?_
  clear hK K
  refine chainH_alone (by simp only [List.getElem?_toArray, List.getElem?_cons_zero, List.getElem?_cons_succ]; rfl) ?_
  intro K hK
  go_wp2
  refine hK.out _ _ Bk2 ?_
  clear hK K
  refine chainH_alone (by simp only [List.getElem?_toArray, List.getElem?_cons_zero, List.getElem?_cons_succ]; rfl) ?_
  intro K hK
  go_wp2
  refine hK.out _ _ Bk2 ?_
  clear hK K
  refine chainH_alone (by simp only [List.getElem?_toArray, List.getElem?_cons_zero, List.getElem?_cons_succ]; rfl) ?_
  intro K hK
  go_wp2
  refine hK.out _ _ Bk2 ?_
  clear hK K
  refine chainH_take (v := ?_) (by simp only [List.getElem?_toArray, List.getElem?_cons_zero, List.getElem?_cons_succ]; rfl) (by rfl) (fun w hS => ?_) ?_
  rotate_left
  · obtain ⟨a0, a1, a2, -⟩ := cells3 (HP.out.later hS); go_simp <;> with_reducible rfl
  simp only [Act.put, List.setIfInBounds_toArray, List.set_cons_zero, List.set_cons_succ]
  refine chainH_take (v := ?_) (by simp only [List.getElem?_toArray, List.getElem?_cons_zero, List.getElem?_cons_succ]; rfl) (by rfl) (fun w hS => ?_) ?_
  rotate_left
  · obtain ⟨a0, a1, a2, -⟩ := cells3 (HP.out.later hS); go_simp <;> with_reducible rfl
  simp only [Act.put, List.setIfInBounds_toArray, List.set_cons_zero, List.set_cons_succ]
  refine chainH_alone (by simp only [List.getElem?_toArray, List.getElem?_cons_zero, List.getElem?_cons_succ]; rfl) ?_
  intro K hK
  go_wp2_with fail
  refine (blank_v F G B _).mono ?_
  rintro e k3 ⟨rfl, hb⟩
  have Bk3 : Below W.heap.size W k3 := Bk2.trans (hb.mono Bk2.size)
  clear hb
  go_wp2
  refine hK.out _ _ Bk3 ?_
  clear hK K
  refine chainH_alone (by simp only [List.getElem?_toArray, List.getElem?_cons_zero, List.getElem?_cons_succ]; rfl) ?_
  intro K hK
  go_wp2_with fail
  refine (lof_b F G B _).mono ?_
  rintro e k4 ⟨rfl, hb⟩
  have Bk4 : Below W.heap.size W k4 := Bk3.trans (hb.mono Bk3.size)
  clear hb
  go_wp2
  refine hK.out _ _ Bk4 ?_
  clear hK K
  refine chainH_alone (by simp only [List.getElem?_toArray, List.getElem?_cons_zero, List.getElem?_cons_succ]; rfl) ?_
  intro K hK
  go_wp2_with fail
  refine (rblank_v F G B _).mono ?_
  rintro e k5 ⟨rfl, hb⟩
  have Bk5 : Below W.heap.size W k5 := Bk4.trans (hb.mono Bk4.size)
  clear hb
  go_wp2
  refine hK.out _ _ Bk5 ?_
  clear hK K
  refine chainH_alone (by simp only [List.getElem?_toArray, List.getElem?_cons_zero, List.getElem?_cons_succ]; rfl) ?_
  intro K hK
  go_wp2
  refine hK.out _ _ Bk5 ?_
  clear hK K
  refine chainH_alone (by simp only [List.getElem?_toArray, List.getElem?_cons_zero, List.getElem?_cons_succ]; rfl) ?_
  intro K hK
  go_wp2
  refine hK.out _ _ Bk5 ?_
  clear hK K
  refine chainH_alone (by simp only [List.getElem?_toArray, List.getElem?_cons_zero, List.getElem?_cons_succ]; rfl) ?_
  intro K hK
  go_wp2
  refine hK.out _ _ Bk5 ?_
  clear hK K
  refine chainH_take (v := ?_) (by simp only [List.getElem?_toArray, List.getElem?_cons_zero, List.getElem?_cons_succ]; rfl) (by rfl) (fun w hS => ?_) ?_
  rotate_left
  · obtain ⟨a0, a1, a2, a3, a4, a5, a6, -⟩ := cells7 (HA.out.later hS); go_simp <;> with_reducible rfl
  simp only [Act.put, List.setIfInBounds_toArray, List.set_cons_zero, List.set_cons_succ]
  refine chainH_take (v := ?_) (by simp only [List.getElem?_toArray, List.getElem?_cons_zero, List.getElem?_cons_succ]; rfl) (by rfl) (fun w hS => ?_) ?_
  rotate_left
  · obtain ⟨a0, a1, a2, a3, a4, a5, a6, -⟩ := cells7 (HA.out.later hS); go_simp <;> with_reducible rfl
  simp only [Act.put, List.setIfInBounds_toArray, List.set_cons_zero, List.set_cons_succ]
  refine chainH_alone (by simp only [List.getElem?_toArray, List.getElem?_cons_zero, List.getElem?_cons_succ]; rfl) ?_
  intro K hK
  go_wp2_with fail
  refine (rest_v r m n d f g b _).mono ?_
  rintro e k6 ⟨rfl, hb⟩
  have Bk6 : Below W.heap.size W k6 := Bk5.trans (hb.mono Bk5.size)
  clear hb
  go_wp2
  refine hK.out _ _ Bk6 ?_
  clear hK K
  refine chainH_alone (by simp only [List.getElem?_toArray, List.getElem?_cons_zero, List.getElem?_cons_succ]; rfl) ?_
  intro K hK
  go_wp2_with fail
  refine (lof_0 f g b _).mono ?_
  rintro e k7 ⟨rfl, hb⟩
  have Bk7 : Below W.heap.size W k7 := Bk6.trans (hb.mono Bk6.size)
  clear hb
  go_wp2
  refine hK.out _ _ Bk7 ?_
  clear hK K
  refine chainH_alone (by simp only [List.getElem?_toArray, List.getElem?_cons_zero, List.getElem?_cons_succ]; rfl) ?_
  intro K hK
  go_wp2_with fail
  refine (lof_v r m n d f g b hr hm hn _).mono ?_
  rintro e k8 ⟨rfl, hb⟩
  have Bk8 : Below W.heap.size W k8 := Bk7.trans (hb.mono Bk7.size)
  clear hb
  go_wp2
  refine hK.out _ _ Bk8 ?_
  clear hK K
  refine chainH_alone (by simp only [List.getElem?_toArray, List.getElem?_cons_zero, List.getElem?_cons_succ]; rfl) ?_
  intro K hK
  go_wp2_with fail
  refine (rrest_v r m n d f g b _).mono ?_
  rintro e k9 ⟨rfl, hb⟩
  have Bk9 : Below W.heap.size W k9 := Bk8.trans (hb.mono Bk8.size)
  clear hb
  obtain ⟨i0, i1, i2, -⟩ := cells3 (HP.out.later Bk9)
  obtain ⟨j0, j1, j2, j3, j4, j5, j6, -⟩ := cells7 (HA.out.later Bk9)
  go_wp2
  refine hK.out _ _ Bk9 ?_
  clear hK K
  refine chainH_alone (by simp only [List.getElem?_toArray, List.getElem?_cons_zero, List.getElem?_cons_succ]; rfl) ?_
  intro K hK
  go_wp2
  refine hK.out _ _ Bk9 ?_
  clear hK K
  refine chainH_alone (by simp only [List.getElem?_toArray, List.getElem?_cons_zero, List.getElem?_cons_succ]; rfl) ?_
  intro K hK
  go_wp2
  refine hK.out _ _ Bk9 ?_
  clear hK K
  refine chainH_alone (by simp only [List.getElem?_toArray, List.getElem?_cons_zero, List.getElem?_cons_succ]; rfl) ?_
  intro K hK
  go_wp2
  refine hK.out _ _ Bk9 ?_
  clear hK K
  refine chainH_take (v := ?_) (by simp only [List.getElem?_toArray, List.getElem?_cons_zero, List.getElem?_cons_succ]; rfl) (by rfl) (fun w hS => ?_) ?_
  rotate_left
  · go_simp <;> with_reducible rfl
  simp only [Act.put, List.setIfInBounds_toArray, List.set_cons_zero, List.set_cons_succ]
  refine chainH_take (v := ?_) (by simp only [List.getElem?_toArray, List.getElem?_cons_zero, List.getElem?_cons_succ]; rfl) (by rfl) (fun w hS => ?_) ?_
  rotate_left
  · obtain ⟨a0, a1, a2, a3, a4, a5, a6, -⟩ := cells7 (H15.out.later hS); go_simp <;> with_reducible rfl
  simp only [Act.put, List.setIfInBounds_toArray, List.set_cons_zero, List.set_cons_succ]
  refine chainH_alone (by simp only [List.getElem?_toArray, List.getElem?_cons_zero, List.getElem?_cons_succ]; rfl) ?_
  intro K hK
  go_wp2
  refine hK.out _ _ Bk9 ?_
  clear hK K
  refine chainH_alone (by simp only [List.getElem?_toArray, List.getElem?_cons_zero, List.getElem?_cons_succ]; rfl) ?_
  intro K hK
  go_wp2
  refine hK.out _ _ Bk9 ?_
  clear hK K
  refine chainH_alone (by simp only [List.getElem?_toArray, List.getElem?_cons_zero, List.getElem?_cons_succ]; rfl) ?_
  intro K hK
  go_wp2
  refine hK.out _ _ Bk9 ?_
  clear hK K
  refine chainH_alone (by simp only [List.getElem?_toArray, List.getElem?_cons_zero, List.getElem?_cons_succ]; rfl) ?_
  intro K hK
  go_wp2
  refine hK.out _ _ Bk9 ?_
  clear hK K
  refine chainH_take (v := ?_) (by simp only [List.getElem?_toArray, List.getElem?_cons_zero, List.getElem?_cons_succ]; rfl) (by rfl) (fun w hS => ?_) ?_
  rotate_left
  · obtain ⟨a0, a1, a2, a3, a4, a5, a6, -⟩ := cells7 (H15.out.later hS); go_simp <;> with_reducible rfl
  simp only [Act.put, List.setIfInBounds_toArray, List.set_cons_zero, List.set_cons_succ]
  refine chainH_alone (by simp only [List.getElem?_toArray, List.getElem?_cons_zero, List.getElem?_cons_succ]; rfl) ?_
  intro K hK
  go_wp2
  refine hK.out _ _ Bk9 ?_
  clear hK K
  refine chainH_alone (by simp only [List.getElem?_toArray, List.getElem?_cons_zero, List.getElem?_cons_succ]; rfl) ?_
  intro K hK
  go_wp2_with fail
  refine (alike_any r m n d F G B r m n d f g b _).mono ?_
  rintro e k10 ⟨rfl, hb⟩
  rw [HAL.out]
  have Bk10 : Below W.heap.size W k10 := Bk9.trans (hb.mono Bk9.size)
  clear hb
  go_wp2
  refine hK.out _ _ Bk10 ?_
  clear hK K
  refine chainH_alone (by simp only [List.getElem?_toArray, List.getElem?_cons_zero, List.getElem?_cons_succ]; rfl) ?_
  intro K hK
  go_wp2
  refine hK.out _ _ Bk10 ?_
  clear hK K
  refine chainH_alone (by simp only [List.getElem?_toArray, List.getElem?_cons_zero, List.getElem?_cons_succ]; rfl) ?_
  intro K hK
  go_wp2
  refine hK.out _ _ Bk10 ?_
  clear hK K
  refine chainH_nil ?_
  go_wp2
  go_ret
  exact ⟨rfl, HB.out.trans (Bk10.mono HB.out.size)⟩
end Go.Proofs.YtmggkdimjdbmoaaDoor
