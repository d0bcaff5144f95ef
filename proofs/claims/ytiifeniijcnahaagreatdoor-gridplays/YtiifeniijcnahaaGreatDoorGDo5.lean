/-
  The law's Do: a grid of another size.
-/
import Derived.Test.YtiifeniijcnahaaGreatDoorGDo
namespace Go.Proofs.YtiifeniijcnahaaGreatDoor
set_option maxRecDepth 100000
open Go.ChangeShapes Go.WideShapes Go.ChangeAt Go.RowKit
set_option linter.unusedVariables false

set_option maxHeartbeats 3000000 in
theorem do_fit {w : World} {G L M R C : Nat} {g : Gd} (h : Grd w G L M R C g) (hok : GOk g R C) (A : Option Addr) (cap : Nat) (hl : Lns w A g.ls) (hS : Spans w) (ar ac at_ xr xm xn : Int) (xd xf xg xb : Nat) (am : Int) (pf pg pb : Nat) (Al : Option Addr) (nl cl : Nat)  :
    Calls Tryz.prog 10 #[.pointer (some ⟨G, 0, none⟩), .agg #[.slice A R cap, .int .i64 (g.row : Int), .int .i64 (g.col : Int)], .agg #[.int .i64 6, .int .i64 ar, .int .i64 ac, .int .i64 at_, .int .i32 xr, .int .i32 xm, .int .i32 xn, .int .u8 (xd : Int), .int .u8 (xf : Int), .int .u8 (xg : Int), .int .u8 (xb : Int), .int .i32 am, .int .u8 (pf : Int), .int .u8 (pg : Int), .int .u8 (pb : Int), .slice Al nl cl]] w (Did w G L M) := by
  obtain ⟨W0, hW0⟩ : ∃ W0, (((w.alloc (.cells #[.slice A R cap, .int .i64 (g.row : Int), .int .i64 (g.col : Int)] 32)).alloc (.cells #[.int .i64 6, .int .i64 ar, .int .i64 ac, .int .i64 at_, .int .i32 xr, .int .i32 xm, .int .i32 xn, .int .u8 (xd : Int), .int .u8 (xf : Int), .int .u8 (xg : Int), .int .u8 (xb : Int), .int .i32 am, .int .u8 (pf : Int), .int .u8 (pg : Int), .int .u8 (pb : Int), .slice Al nl cl] 43)).alloc (.cells #[.slice none 0 0, .int .i64 0, .int .i64 0] 32)).alloc (.cells #[.int .u8 (pf : Int), .int .u8 (pg : Int), .int .u8 (pb : Int)] 50) = W0 := ⟨_, rfl⟩
  have HB0 : Hid (Below w.heap.size w W0) := by unfold Hid; rw [← hW0]; exact four_new w _ _ _ _
  have HX0 : Hid (Whole W0 w.heap.size 32 [.slice A R cap, .int .i64 (g.row : Int), .int .i64 (g.col : Int)]) := by unfold Hid; rw [← hW0]; exact (((Whole.new w 32 [.slice A R cap, .int .i64 (g.row : Int), .int .i64 (g.col : Int)]).alloc _).alloc _).alloc _
  have HX1 : Hid (Whole W0 (w.heap.size + 1) 43 [.int .i64 6, .int .i64 ar, .int .i64 ac, .int .i64 at_, .int .i32 xr, .int .i32 xm, .int .i32 xn, .int .u8 (xd : Int), .int .u8 (xf : Int), .int .u8 (xg : Int), .int .u8 (xb : Int), .int .i32 am, .int .u8 (pf : Int), .int .u8 (pg : Int), .int .u8 (pb : Int), .slice Al nl cl]) := by unfold Hid; rw [← hW0]; exact ((whole_snd w _ 43 [.int .i64 6, .int .i64 ar, .int .i64 ac, .int .i64 at_, .int .i32 xr, .int .i32 xm, .int .i32 xn, .int .u8 (xd : Int), .int .u8 (xf : Int), .int .u8 (xg : Int), .int .u8 (xb : Int), .int .i32 am, .int .u8 (pf : Int), .int .u8 (pg : Int), .int .u8 (pb : Int), .slice Al nl cl]).alloc _).alloc _
  have HX2 : Hid (Whole W0 (w.heap.size + 2) 32 [.slice none 0 0, .int .i64 0, .int .i64 0]) := by unfold Hid; rw [← hW0]; exact (whole_thd w _ _ 32 [.slice none 0 0, .int .i64 0, .int .i64 0]).alloc _
  have HX3 : Hid (Whole W0 (w.heap.size + 3) 50 [.int .u8 (pf : Int), .int .u8 (pg : Int), .int .u8 (pb : Int)]) := by unfold Hid; rw [← hW0]; exact whole_fth w _ _ _ 50 [.int .u8 (pf : Int), .int .u8 (pg : Int), .int .u8 (pb : Int)]
  have HG0 := hide (h.later HB0.out)
  have HL0 := hide (hl.below HB0.out)
  have HS0 := hide (hS.below HB0.out)
  have HGO := hide hok
  have hR1 := hok.r1
  have hR2 := hok.r2
  have hC1 := hok.c1
  have hC2 := hok.c2
  have ltG := h.ltG
  have ltL := h.ltL
  have ltM := h.ltM
  have HW0 := hide hW0
  obtain ⟨a0, a1, a2, a3, a4, a5, a6, a7, a8, a9, b0, b1, b2, b3, b4, b5, la⟩ := cells16 HX1.out
  obtain ⟨p0, p1, p2, lp⟩ := cells3 HX0.out
  obtain ⟨y0, y1, y2, ly⟩ := cells3 HX3.out
  clear hW0 h hl hok hS
  obtain ⟨sr, hsr⟩ : ∃ sr, smallI ar = sr := ⟨_, rfl⟩
  obtain ⟨sc, hsc⟩ : ∃ sc, smallI ac = sc := ⟨_, rfl⟩
  by_cases hs : sizeN sr sc
  · obtain ⟨R0, hR0⟩ : ∃ R0 : Nat, sr = (R0 : Int) := ⟨sr.toNat, by unfold sizeN at hs; omega⟩
    obtain ⟨C0, hC0⟩ : ∃ C0 : Nat, sc = (C0 : Int) := ⟨sc.toNat, by unfold sizeN at hs; omega⟩
    subst hR0 hC0
    have q1 : 1 ≤ R0 := by unfold sizeN at hs; omega
    have q2 : R0 ≤ 512 := by unfold sizeN at hs; omega
    have q3 : 1 ≤ C0 := by unfold sizeN at hs; omega
    have q4 : C0 ≤ 512 := by unfold sizeN at hs; omega
    have HSZ : Hid (sizeB (R0 : Int) (C0 : Int) = true) := by unfold Hid sizeB; simpa using hs
    have HSR := hide hsr
    have HSC := hide hsc
    have HOK := hide (HGO.out.fit q1 q2 q3 q4)
    clear hs hsr hsc
    go_enter Tryz.func10, Tryz.ntmps10
    go_wp2
    rw [HW0.out]
    refine wp_region_chainL (fun w' => Below W0.heap.size W0 w') 12 [(2, 0), (2, 1), (2, 4), (0, 2), (0, 5), (1, 3), (1, 6), (1, 7), (1, 8), (2, 9), (2, 11), (1, 10), (3, 12)] (by kernel_rfl) (by kernel_rfl) (by kernel_rfl) (fun _ _ _ _ _ h => h) ?_ ?_
    · exact (Below.refl _ _).drewN 1
    refine chainL_pure (v := ?_) (by simp only [List.getElem?_toArray, List.getElem?_cons_zero]; rfl) (by rfl) (fun w => ?_) ?_
    rotate_left
    · go_simp <;> with_reducible rfl
    simp only [Act.put, List.setIfInBounds_toArray, List.set_cons_zero, List.set_cons_succ]
    refine chainL_pure (v := ?_) (by simp only [List.getElem?_toArray, List.getElem?_cons_zero, List.getElem?_cons_succ]; rfl) (by rfl) (fun w => ?_) ?_
    rotate_left
    · go_simp <;> with_reducible rfl
    simp only [Act.put, List.setIfInBounds_toArray, List.set_cons_zero, List.set_cons_succ]
    refine chainL_pure (v := ?_) (by simp only [List.getElem?_toArray, List.getElem?_cons_zero, List.getElem?_cons_succ]; rfl) (by rfl) (fun w => ?_) ?_
    rotate_left
    · go_simp <;> with_reducible rfl
    simp only [Act.put, List.setIfInBounds_toArray, List.set_cons_zero, List.set_cons_succ]
    refine chainL_take (v := ?_) (by simp only [List.getElem?_toArray, List.getElem?_cons_zero, List.getElem?_cons_succ]; rfl) (by rfl) (fun w hS => ?_) ?_
    rotate_left
    · obtain ⟨f0, f1, f2, f3, f4, f5, f6, f7, f8, f9, g0, g1, g2, g3, g4, g5, -⟩ := cells16 (HX1.out.later hS); go_simp <;> with_reducible rfl
    simp only [Act.put, List.setIfInBounds_toArray, List.set_cons_zero, List.set_cons_succ]
    refine chainL_take (v := ?_) (by simp only [List.getElem?_toArray, List.getElem?_cons_zero, List.getElem?_cons_succ]; rfl) (by rfl) (fun w hS => ?_) ?_
    rotate_left
    · obtain ⟨f0, f1, f2, f3, f4, f5, f6, f7, f8, f9, g0, g1, g2, g3, g4, g5, -⟩ := cells16 (HX1.out.later hS); go_simp <;> with_reducible rfl
    simp only [Act.put, List.setIfInBounds_toArray, List.set_cons_zero, List.set_cons_succ]
    refine chainL_alone (by simp only [List.getElem?_toArray, List.getElem?_cons_zero, List.getElem?_cons_succ]; rfl) ?_
    intro K hK
    go_wp2_with fail
    refine (small_any ar _).mono ?_
    rintro e k0 ⟨rfl, rfl⟩
    rw [HSR.out]
    go_wp2
    refine hK.out _ _ ((Below.refl _ _).drewN 1) ?_
    clear hK K
    refine chainL_alone (by simp only [List.getElem?_toArray, List.getElem?_cons_zero, List.getElem?_cons_succ]; rfl) ?_
    intro K hK
    go_wp2_with fail
    refine (small_any ac _).mono ?_
    rintro e k0 ⟨rfl, rfl⟩
    rw [HSC.out]
    go_wp2
    refine hK.out _ _ ((Below.refl _ _).drewN 1) ?_
    clear hK K
    refine chainL_alone (by simp only [List.getElem?_toArray, List.getElem?_cons_zero, List.getElem?_cons_succ]; rfl) ?_
    intro K hK
    go_wp2_with fail
    refine (fit_yes (HG0.out.later ((Below.refl _ _).drewN 1)) hC2 R0 C0 q1 q2 q3 q4).mono ?_
    rintro e w1 ⟨G2, L2, M2, rfl, hg, hb, n1, n2, n3⟩
    have HG1 := hide hg
    have Bk1 : Below W0.heap.size W0 w1 := ((Below.refl W0.heap.size W0).drewN 1).trans hb
    have HL1 := hide (HL0.out.below Bk1)
    have HGb := hide (HG0.out.later Bk1)
    have HT1 := hide (Trn.of_below (G := G) (L := L) (M := M) (HB0.out.trans (Bk1.mono HB0.out.size)))
    have HX0b := hide (HX0.out.later Bk1)
    have HX1b := hide (HX1.out.later Bk1)
    have HX2b := hide (HX2.out.later Bk1)
    have HX3b := hide (HX3.out.later Bk1)
    have HN : Hid ((w.heap.size ≤ G2 ∧ w.heap.size ≤ L2) ∧ w.heap.size ≤ M2) := ⟨⟨Nat.le_trans HB0.out.size n1, Nat.le_trans HB0.out.size n2⟩, Nat.le_trans HB0.out.size n3⟩
    clear hg hb n1 n2 n3
    go_wp2
    refine hK.out _ _ (Bk1) ?_
    clear hK K
    refine chainL_alone (by simp only [List.getElem?_toArray, List.getElem?_cons_zero, List.getElem?_cons_succ]; rfl) ?_
    intro K hK
    go_wp2
    refine hK.out _ _ (Bk1) ?_
    clear hK K
    refine chainL_pure (v := ?_) (by simp only [List.getElem?_toArray, List.getElem?_cons_zero, List.getElem?_cons_succ]; rfl) (by rfl) (fun w => ?_) ?_
    rotate_left
    · go_simp <;> with_reducible rfl
    simp only [Act.put, List.setIfInBounds_toArray, List.set_cons_zero, List.set_cons_succ]
    refine chainL_pure (v := ?_) (by simp only [List.getElem?_toArray, List.getElem?_cons_zero, List.getElem?_cons_succ]; rfl) (by rfl) (fun w => ?_) ?_
    rotate_left
    · go_simp <;> with_reducible rfl
    simp only [Act.put, List.setIfInBounds_toArray, List.set_cons_zero, List.set_cons_succ]
    refine chainL_alone (by simp only [List.getElem?_toArray, List.getElem?_cons_zero, List.getElem?_cons_succ]; rfl) ?_
    intro K hK
    go_wp2
    refine hK.out _ _ (Bk1) ?_
    clear hK K
    refine chainL_late (by simp only [List.getElem?_toArray, List.getElem?_cons_zero, List.getElem?_cons_succ]; rfl) ?_
    intro K hK
    go_wp2
    refine hK.out _ _ ?_
    clear hK K
    refine chainL_nil ?_
    clear Bk1
    clear a0 a1 a2 a3 a4 a5 a6 a7 a8 a9 b0 b1 b2 b3 b4 b5 la p0 p1 p2 lp y0 y1 y2 ly
    obtain ⟨a0, a1, a2, a3, a4, a5, a6, a7, a8, a9, b0, b1, b2, b3, b4, b5, la⟩ := cells16 HX1b.out
    obtain ⟨p0, p1, p2, lp⟩ := cells3 HX0b.out
    obtain ⟨y0, y1, y2, ly⟩ := cells3 HX3b.out
    go_wp2
    refine wp_region_chainL (fun w' => Below w1.heap.size w1 w') 6 [(2, 0), (2, 3), (0, 1), (0, 4), (1, 2), (1, 5), (3, 6), (3, 7)] (by kernel_rfl) (by kernel_rfl) (by kernel_rfl) (fun _ _ _ _ _ h => h) ?_ ?_
    · exact (Below.refl _ _).drewN 1
    refine chainL_pure (v := ?_) (by simp only [List.getElem?_toArray, List.getElem?_cons_zero]; rfl) (by rfl) (fun w => ?_) ?_
    rotate_left
    · go_simp <;> with_reducible rfl
    simp only [Act.put, List.setIfInBounds_toArray, List.set_cons_zero, List.set_cons_succ]
    refine chainL_pure (v := ?_) (by simp only [List.getElem?_toArray, List.getElem?_cons_zero, List.getElem?_cons_succ]; rfl) (by rfl) (fun w => ?_) ?_
    rotate_left
    · go_simp <;> with_reducible rfl
    simp only [Act.put, List.setIfInBounds_toArray, List.set_cons_zero, List.set_cons_succ]
    refine chainL_take (v := ?_) (by simp only [List.getElem?_toArray, List.getElem?_cons_zero, List.getElem?_cons_succ]; rfl) (by rfl) (fun w hS => ?_) ?_
    rotate_left
    · obtain ⟨f0, f1, f2, f3, f4, f5, f6, f7, f8, f9, g0, g1, g2, g3, g4, g5, -⟩ := cells16 (HX1b.out.later hS); go_simp <;> with_reducible rfl
    simp only [Act.put, List.setIfInBounds_toArray, List.set_cons_zero, List.set_cons_succ]
    refine chainL_take (v := ?_) (by simp only [List.getElem?_toArray, List.getElem?_cons_zero, List.getElem?_cons_succ]; rfl) (by rfl) (fun w hS => ?_) ?_
    rotate_left
    · obtain ⟨f0, f1, f2, f3, f4, f5, f6, f7, f8, f9, g0, g1, g2, g3, g4, g5, -⟩ := cells16 (HX1b.out.later hS); go_simp <;> with_reducible rfl
    simp only [Act.put, List.setIfInBounds_toArray, List.set_cons_zero, List.set_cons_succ]
    refine chainL_alone (by simp only [List.getElem?_toArray, List.getElem?_cons_zero, List.getElem?_cons_succ]; rfl) ?_
    intro K hK
    go_wp2_with fail
    refine (small_any ar _).mono ?_
    rintro e k0 ⟨rfl, rfl⟩
    rw [HSR.out]
    go_wp2
    refine hK.out _ _ ((Below.refl _ _).drewN 1) ?_
    clear hK K
    refine chainL_alone (by simp only [List.getElem?_toArray, List.getElem?_cons_zero, List.getElem?_cons_succ]; rfl) ?_
    intro K hK
    go_wp2_with fail
    refine (small_any ac _).mono ?_
    rintro e k0 ⟨rfl, rfl⟩
    rw [HSC.out]
    go_wp2
    refine hK.out _ _ ((Below.refl _ _).drewN 1) ?_
    clear hK K
    refine chainL_late (by simp only [List.getElem?_toArray, List.getElem?_cons_zero, List.getElem?_cons_succ]; rfl) ?_
    intro K hK
    go_wp2_with fail
    refine (rsize_any (R0 : Int) (C0 : Int) _).mono ?_
    rintro e k0 ⟨rfl, rfl⟩
    rw [HSZ.out]
    go_wp2
    refine hK.out _ _ ?_
    clear hK K
    refine chainL_late (by simp only [List.getElem?_toArray, List.getElem?_cons_zero, List.getElem?_cons_succ]; rfl) ?_
    intro K hK
    go_wp2
    refine hK.out _ _ ?_
    clear hK K
    refine chainL_nil ?_
    obtain ⟨w2, hw2⟩ : ∃ w2, w1.drew = w2 := ⟨_, rfl⟩
    have hb2 : Below w1.heap.size w1 w2 := by rw [← hw2]; exact (Below.refl _ _).drewN 1
    have HL2 := hide (HL1.out.below hb2)
    have HT2 := hide (HT1.out.thenB hb2)
    have HX0c := hide (HX0b.out.later hb2)
    have HX1c := hide (HX1b.out.later hb2)
    have HX2c := hide (HX2b.out.later hb2)
    have HX3c := hide (HX3b.out.later hb2)
    have HG2 := hide (HG1.out.later hb2)
    rw [hw2]
    clear hb2 hw2
    clear a0 a1 a2 a3 a4 a5 a6 a7 a8 a9 b0 b1 b2 b3 b4 b5 la p0 p1 p2 lp y0 y1 y2 ly
    obtain ⟨a0, a1, a2, a3, a4, a5, a6, a7, a8, a9, b0, b1, b2, b3, b4, b5, la⟩ := cells16 HX1c.out
    obtain ⟨p0, p1, p2, lp⟩ := cells3 HX0c.out
    obtain ⟨y0, y1, y2, ly⟩ := cells3 HX3c.out
    go_wp2
    refine wp_region_chainL (fun w' => Below w2.heap.size w2 w') 16 [(2, 0), (2, 9), (2, 10), (2, 2), (2, 5), (0, 1), (0, 3), (0, 6), (1, 4), (1, 7), (1, 8), (1, 11), (2, 12), (2, 15), (2, 13), (2, 14), (3, 16), (3, 17)] (by kernel_rfl) (by kernel_rfl) (by kernel_rfl) (fun _ _ _ _ _ h => h) ?_ ?_
    · exact (Below.refl _ _).drewN 1
    refine chainL_pure (v := ?_) (by simp only [List.getElem?_toArray, List.getElem?_cons_zero]; rfl) (by rfl) (fun w => ?_) ?_
    rotate_left
    · go_simp <;> with_reducible rfl
    simp only [Act.put, List.setIfInBounds_toArray, List.set_cons_zero, List.set_cons_succ]
    refine chainL_pure (v := ?_) (by simp only [List.getElem?_toArray, List.getElem?_cons_zero, List.getElem?_cons_succ]; rfl) (by rfl) (fun w => ?_) ?_
    rotate_left
    · go_simp <;> with_reducible rfl
    simp only [Act.put, List.setIfInBounds_toArray, List.set_cons_zero, List.set_cons_succ]
    refine chainL_pure (v := ?_) (by simp only [List.getElem?_toArray, List.getElem?_cons_zero, List.getElem?_cons_succ]; rfl) (by rfl) (fun w => ?_) ?_
    rotate_left
    · go_simp <;> with_reducible rfl
    simp only [Act.put, List.setIfInBounds_toArray, List.set_cons_zero, List.set_cons_succ]
    refine chainL_pure (v := ?_) (by simp only [List.getElem?_toArray, List.getElem?_cons_zero, List.getElem?_cons_succ]; rfl) (by rfl) (fun w => ?_) ?_
    rotate_left
    · go_simp <;> with_reducible rfl
    simp only [Act.put, List.setIfInBounds_toArray, List.set_cons_zero, List.set_cons_succ]
    refine chainL_pure (v := ?_) (by simp only [List.getElem?_toArray, List.getElem?_cons_zero, List.getElem?_cons_succ]; rfl) (by rfl) (fun w => ?_) ?_
    rotate_left
    · go_simp <;> with_reducible rfl
    simp only [Act.put, List.setIfInBounds_toArray, List.set_cons_zero, List.set_cons_succ]
    refine chainL_take (v := ?_) (by simp only [List.getElem?_toArray, List.getElem?_cons_zero, List.getElem?_cons_succ]; rfl) (by rfl) (fun w hS => ?_) ?_
    rotate_left
    · obtain ⟨f0, f1, f2, -⟩ := cells3 (HX0c.out.later hS); go_simp <;> with_reducible rfl
    simp only [Act.put, List.setIfInBounds_toArray, List.set_cons_zero, List.set_cons_succ]
    refine chainL_take (v := ?_) (by simp only [List.getElem?_toArray, List.getElem?_cons_zero, List.getElem?_cons_succ]; rfl) (by rfl) (fun w hS => ?_) ?_
    rotate_left
    · obtain ⟨f0, f1, f2, f3, f4, f5, f6, f7, f8, f9, g0, g1, g2, g3, g4, g5, -⟩ := cells16 (HX1c.out.later hS); go_simp <;> with_reducible rfl
    simp only [Act.put, List.setIfInBounds_toArray, List.set_cons_zero, List.set_cons_succ]
    refine chainL_take (v := ?_) (by simp only [List.getElem?_toArray, List.getElem?_cons_zero, List.getElem?_cons_succ]; rfl) (by rfl) (fun w hS => ?_) ?_
    rotate_left
    · obtain ⟨f0, f1, f2, f3, f4, f5, f6, f7, f8, f9, g0, g1, g2, g3, g4, g5, -⟩ := cells16 (HX1c.out.later hS); go_simp <;> with_reducible rfl
    simp only [Act.put, List.setIfInBounds_toArray, List.set_cons_zero, List.set_cons_succ]
    refine chainL_alone (by simp only [List.getElem?_toArray, List.getElem?_cons_zero, List.getElem?_cons_succ]; rfl) ?_
    intro K hK
    go_wp2_with fail
    refine (small_any ar _).mono ?_
    rintro e k0 ⟨rfl, rfl⟩
    rw [HSR.out]
    go_wp2
    refine hK.out _ _ ((Below.refl _ _).drewN 1) ?_
    clear hK K
    refine chainL_alone (by simp only [List.getElem?_toArray, List.getElem?_cons_zero, List.getElem?_cons_succ]; rfl) ?_
    intro K hK
    go_wp2_with fail
    refine (small_any ac _).mono ?_
    rintro e k0 ⟨rfl, rfl⟩
    rw [HSC.out]
    go_wp2
    refine hK.out _ _ ((Below.refl _ _).drewN 1) ?_
    clear hK K
    refine chainL_alone (by simp only [List.getElem?_toArray, List.getElem?_cons_zero, List.getElem?_cons_succ]; rfl) ?_
    intro K hK
    go_wp2_with fail
    refine (rgfit_any A R C cap g _ (HL2.out.drewN 1) HGO.out R0 C0 q1 q2 q3 q4).mono ?_
    rintro e k1 ⟨A5, cap5, rfl, hl, hb⟩
    have Bk1 : Below w2.heap.size w2 k1 := ((Below.refl w2.heap.size w2).drewN 1).trans hb
    have HLz := hide hl
    have HGz := hide (HG2.out.later Bk1)
    have HTz := hide (HT2.out.thenB Bk1)
    have HX2z := hide (HX2c.out.later Bk1)
    clear hl hb
    clear a0 a1 a2 a3 a4 a5 a6 a7 a8 a9 b0 b1 b2 b3 b4 b5 la p0 p1 p2 lp y0 y1 y2 ly
    obtain ⟨z0, z1, z2, lz⟩ := cells3 HX2z.out
    have hzf := HX2z.out.frozen
    go_wp2
    refine hK.out _ _ (Bk1) ?_
    clear hK K
    refine chainL_alone (by simp only [List.getElem?_toArray, List.getElem?_cons_zero, List.getElem?_cons_succ]; rfl) ?_
    intro K hK
    go_wp2
    refine hK.out _ _ (Bk1) ?_
    clear hK K
    refine chainL_pure (v := ?_) (by simp only [List.getElem?_toArray, List.getElem?_cons_zero, List.getElem?_cons_succ]; rfl) (by rfl) (fun w => ?_) ?_
    rotate_left
    · go_simp <;> with_reducible rfl
    simp only [Act.put, List.setIfInBounds_toArray, List.set_cons_zero, List.set_cons_succ]
    refine chainL_pure (v := ?_) (by simp only [List.getElem?_toArray, List.getElem?_cons_zero, List.getElem?_cons_succ]; rfl) (by rfl) (fun w => ?_) ?_
    rotate_left
    · go_simp <;> with_reducible rfl
    simp only [Act.put, List.setIfInBounds_toArray, List.set_cons_zero, List.set_cons_succ]
    refine chainL_pure (v := ?_) (by simp only [List.getElem?_toArray, List.getElem?_cons_zero, List.getElem?_cons_succ]; rfl) (by rfl) (fun w => ?_) ?_
    rotate_left
    · go_simp <;> with_reducible rfl
    simp only [Act.put, List.setIfInBounds_toArray, List.set_cons_zero, List.set_cons_succ]
    refine chainL_pure (v := ?_) (by simp only [List.getElem?_toArray, List.getElem?_cons_zero, List.getElem?_cons_succ]; rfl) (by rfl) (fun w => ?_) ?_
    rotate_left
    · go_simp <;> with_reducible rfl
    simp only [Act.put, List.setIfInBounds_toArray, List.set_cons_zero, List.set_cons_succ]
    refine chainL_late (by simp only [List.getElem?_toArray, List.getElem?_cons_zero, List.getElem?_cons_succ]; rfl) ?_
    intro K hK
    go_wp2
    refine hK.out _ _ ?_
    clear hK K
    refine chainL_late (by simp only [List.getElem?_toArray, List.getElem?_cons_zero, List.getElem?_cons_succ]; rfl) ?_
    intro K hK
    go_wp2
    refine hK.out _ _ ?_
    clear hK K
    refine chainL_nil ?_
    clear Bk1
    go_wp2
    refine retG3 Tryz.results10 rfl rfl rfl rfl (put3 HX2z.out _ _ _) ?_
    exact did_end HGz.out HLz.out HOK.out HTz.out (.inr HN.out.1.1) (.inr HN.out.1.2) (.inr HN.out.2) HX2z.out (by omega) _ _ _
  · have HNS := hide hs
    have HSZ : Hid (sizeB sr sc = false) := by unfold Hid sizeB; simpa using hs
    have HSR := hide hsr
    have HSC := hide hsc
    clear hs hsr hsc
    go_enter Tryz.func10, Tryz.ntmps10
    go_wp2
    rw [HW0.out]
    refine wp_region_chainL (fun w' => Below W0.heap.size W0 w') 12 [(2, 0), (2, 1), (2, 4), (0, 2), (0, 5), (1, 3), (1, 6), (1, 7), (1, 8), (2, 9), (2, 11), (1, 10), (3, 12)] (by kernel_rfl) (by kernel_rfl) (by kernel_rfl) (fun _ _ _ _ _ h => h) ?_ ?_
    · exact (Below.refl _ _).drewN 1
    refine chainL_pure (v := ?_) (by simp only [List.getElem?_toArray, List.getElem?_cons_zero]; rfl) (by rfl) (fun w => ?_) ?_
    rotate_left
    · go_simp <;> with_reducible rfl
    simp only [Act.put, List.setIfInBounds_toArray, List.set_cons_zero, List.set_cons_succ]
    refine chainL_pure (v := ?_) (by simp only [List.getElem?_toArray, List.getElem?_cons_zero, List.getElem?_cons_succ]; rfl) (by rfl) (fun w => ?_) ?_
    rotate_left
    · go_simp <;> with_reducible rfl
    simp only [Act.put, List.setIfInBounds_toArray, List.set_cons_zero, List.set_cons_succ]
    refine chainL_pure (v := ?_) (by simp only [List.getElem?_toArray, List.getElem?_cons_zero, List.getElem?_cons_succ]; rfl) (by rfl) (fun w => ?_) ?_
    rotate_left
    · go_simp <;> with_reducible rfl
    simp only [Act.put, List.setIfInBounds_toArray, List.set_cons_zero, List.set_cons_succ]
    refine chainL_take (v := ?_) (by simp only [List.getElem?_toArray, List.getElem?_cons_zero, List.getElem?_cons_succ]; rfl) (by rfl) (fun w hS => ?_) ?_
    rotate_left
    · obtain ⟨f0, f1, f2, f3, f4, f5, f6, f7, f8, f9, g0, g1, g2, g3, g4, g5, -⟩ := cells16 (HX1.out.later hS); go_simp <;> with_reducible rfl
    simp only [Act.put, List.setIfInBounds_toArray, List.set_cons_zero, List.set_cons_succ]
    refine chainL_take (v := ?_) (by simp only [List.getElem?_toArray, List.getElem?_cons_zero, List.getElem?_cons_succ]; rfl) (by rfl) (fun w hS => ?_) ?_
    rotate_left
    · obtain ⟨f0, f1, f2, f3, f4, f5, f6, f7, f8, f9, g0, g1, g2, g3, g4, g5, -⟩ := cells16 (HX1.out.later hS); go_simp <;> with_reducible rfl
    simp only [Act.put, List.setIfInBounds_toArray, List.set_cons_zero, List.set_cons_succ]
    refine chainL_alone (by simp only [List.getElem?_toArray, List.getElem?_cons_zero, List.getElem?_cons_succ]; rfl) ?_
    intro K hK
    go_wp2_with fail
    refine (small_any ar _).mono ?_
    rintro e k0 ⟨rfl, rfl⟩
    rw [HSR.out]
    go_wp2
    refine hK.out _ _ ((Below.refl _ _).drewN 1) ?_
    clear hK K
    refine chainL_alone (by simp only [List.getElem?_toArray, List.getElem?_cons_zero, List.getElem?_cons_succ]; rfl) ?_
    intro K hK
    go_wp2_with fail
    refine (small_any ac _).mono ?_
    rintro e k0 ⟨rfl, rfl⟩
    rw [HSC.out]
    go_wp2
    refine hK.out _ _ ((Below.refl _ _).drewN 1) ?_
    clear hK K
    refine chainL_alone (by simp only [List.getElem?_toArray, List.getElem?_cons_zero, List.getElem?_cons_succ]; rfl) ?_
    intro K hK
    go_wp2_with fail
    refine (fit_no (HG0.out.later ((Below.refl _ _).drewN 1)) sr sc HNS.out).mono ?_
    rintro e w1 ⟨rfl, hb⟩
    have Bk1 : Below W0.heap.size W0 w1 := ((Below.refl W0.heap.size W0).drewN 1).trans hb
    have HL1 := hide (HL0.out.below Bk1)
    have HGb := hide (HG0.out.later Bk1)
    have HT1 := hide (Trn.of_below (G := G) (L := L) (M := M) (HB0.out.trans (Bk1.mono HB0.out.size)))
    have HX0b := hide (HX0.out.later Bk1)
    have HX1b := hide (HX1.out.later Bk1)
    have HX2b := hide (HX2.out.later Bk1)
    have HX3b := hide (HX3.out.later Bk1)
    clear hb
    go_wp2
    refine hK.out _ _ (Bk1) ?_
    clear hK K
    refine chainL_alone (by simp only [List.getElem?_toArray, List.getElem?_cons_zero, List.getElem?_cons_succ]; rfl) ?_
    intro K hK
    go_wp2
    refine hK.out _ _ (Bk1) ?_
    clear hK K
    refine chainL_pure (v := ?_) (by simp only [List.getElem?_toArray, List.getElem?_cons_zero, List.getElem?_cons_succ]; rfl) (by rfl) (fun w => ?_) ?_
    rotate_left
    · go_simp <;> with_reducible rfl
    simp only [Act.put, List.setIfInBounds_toArray, List.set_cons_zero, List.set_cons_succ]
    refine chainL_pure (v := ?_) (by simp only [List.getElem?_toArray, List.getElem?_cons_zero, List.getElem?_cons_succ]; rfl) (by rfl) (fun w => ?_) ?_
    rotate_left
    · go_simp <;> with_reducible rfl
    simp only [Act.put, List.setIfInBounds_toArray, List.set_cons_zero, List.set_cons_succ]
    refine chainL_alone (by simp only [List.getElem?_toArray, List.getElem?_cons_zero, List.getElem?_cons_succ]; rfl) ?_
    intro K hK
    go_wp2
    refine hK.out _ _ (Bk1) ?_
    clear hK K
    refine chainL_late (by simp only [List.getElem?_toArray, List.getElem?_cons_zero, List.getElem?_cons_succ]; rfl) ?_
    intro K hK
    go_wp2
    refine hK.out _ _ ?_
    clear hK K
    refine chainL_nil ?_
    clear Bk1
    clear a0 a1 a2 a3 a4 a5 a6 a7 a8 a9 b0 b1 b2 b3 b4 b5 la p0 p1 p2 lp y0 y1 y2 ly
    obtain ⟨a0, a1, a2, a3, a4, a5, a6, a7, a8, a9, b0, b1, b2, b3, b4, b5, la⟩ := cells16 HX1b.out
    obtain ⟨p0, p1, p2, lp⟩ := cells3 HX0b.out
    obtain ⟨y0, y1, y2, ly⟩ := cells3 HX3b.out
    go_wp2
    refine wp_region_chainL (fun w' => Below w1.heap.size w1 w') 6 [(2, 0), (2, 3), (0, 1), (0, 4), (1, 2), (1, 5), (3, 6), (3, 7)] (by kernel_rfl) (by kernel_rfl) (by kernel_rfl) (fun _ _ _ _ _ h => h) ?_ ?_
    · exact (Below.refl _ _).drewN 1
    refine chainL_pure (v := ?_) (by simp only [List.getElem?_toArray, List.getElem?_cons_zero]; rfl) (by rfl) (fun w => ?_) ?_
    rotate_left
    · go_simp <;> with_reducible rfl
    simp only [Act.put, List.setIfInBounds_toArray, List.set_cons_zero, List.set_cons_succ]
    refine chainL_pure (v := ?_) (by simp only [List.getElem?_toArray, List.getElem?_cons_zero, List.getElem?_cons_succ]; rfl) (by rfl) (fun w => ?_) ?_
    rotate_left
    · go_simp <;> with_reducible rfl
    simp only [Act.put, List.setIfInBounds_toArray, List.set_cons_zero, List.set_cons_succ]
    refine chainL_take (v := ?_) (by simp only [List.getElem?_toArray, List.getElem?_cons_zero, List.getElem?_cons_succ]; rfl) (by rfl) (fun w hS => ?_) ?_
    rotate_left
    · obtain ⟨f0, f1, f2, f3, f4, f5, f6, f7, f8, f9, g0, g1, g2, g3, g4, g5, -⟩ := cells16 (HX1b.out.later hS); go_simp <;> with_reducible rfl
    simp only [Act.put, List.setIfInBounds_toArray, List.set_cons_zero, List.set_cons_succ]
    refine chainL_take (v := ?_) (by simp only [List.getElem?_toArray, List.getElem?_cons_zero, List.getElem?_cons_succ]; rfl) (by rfl) (fun w hS => ?_) ?_
    rotate_left
    · obtain ⟨f0, f1, f2, f3, f4, f5, f6, f7, f8, f9, g0, g1, g2, g3, g4, g5, -⟩ := cells16 (HX1b.out.later hS); go_simp <;> with_reducible rfl
    simp only [Act.put, List.setIfInBounds_toArray, List.set_cons_zero, List.set_cons_succ]
    refine chainL_alone (by simp only [List.getElem?_toArray, List.getElem?_cons_zero, List.getElem?_cons_succ]; rfl) ?_
    intro K hK
    go_wp2_with fail
    refine (small_any ar _).mono ?_
    rintro e k0 ⟨rfl, rfl⟩
    rw [HSR.out]
    go_wp2
    refine hK.out _ _ ((Below.refl _ _).drewN 1) ?_
    clear hK K
    refine chainL_alone (by simp only [List.getElem?_toArray, List.getElem?_cons_zero, List.getElem?_cons_succ]; rfl) ?_
    intro K hK
    go_wp2_with fail
    refine (small_any ac _).mono ?_
    rintro e k0 ⟨rfl, rfl⟩
    rw [HSC.out]
    go_wp2
    refine hK.out _ _ ((Below.refl _ _).drewN 1) ?_
    clear hK K
    refine chainL_late (by simp only [List.getElem?_toArray, List.getElem?_cons_zero, List.getElem?_cons_succ]; rfl) ?_
    intro K hK
    go_wp2_with fail
    refine (rsize_any sr sc _).mono ?_
    rintro e k0 ⟨rfl, rfl⟩
    rw [HSZ.out]
    go_wp2
    refine hK.out _ _ ?_
    clear hK K
    refine chainL_late (by simp only [List.getElem?_toArray, List.getElem?_cons_zero, List.getElem?_cons_succ]; rfl) ?_
    intro K hK
    go_wp2
    refine hK.out _ _ ?_
    clear hK K
    refine chainL_nil ?_
    obtain ⟨w2, hw2⟩ : ∃ w2, w1.drew = w2 := ⟨_, rfl⟩
    have hb2 : Below w1.heap.size w1 w2 := by rw [← hw2]; exact (Below.refl _ _).drewN 1
    have HL2 := hide (HL1.out.below hb2)
    have HT2 := hide (HT1.out.thenB hb2)
    have HX0c := hide (HX0b.out.later hb2)
    have HX1c := hide (HX1b.out.later hb2)
    have HX2c := hide (HX2b.out.later hb2)
    have HX3c := hide (HX3b.out.later hb2)
    have HGz := hide (HGb.out.later hb2)
    rw [hw2]
    clear hb2 hw2
    clear a0 a1 a2 a3 a4 a5 a6 a7 a8 a9 b0 b1 b2 b3 b4 b5 la p0 p1 p2 lp y0 y1 y2 ly
    obtain ⟨a0, a1, a2, a3, a4, a5, a6, a7, a8, a9, b0, b1, b2, b3, b4, b5, la⟩ := cells16 HX1c.out
    obtain ⟨p0, p1, p2, lp⟩ := cells3 HX0c.out
    obtain ⟨y0, y1, y2, ly⟩ := cells3 HX3c.out
    obtain ⟨z0, z1, z2, lz⟩ := cells3 HX2c.out
    have hzf := HX2c.out.frozen
    go_wp2
    refine wp_region_chainL (fun _ => True) 9 [(2, 0), (2, 2), (2, 3), (2, 4), (2, 5), (2, 8), (2, 6), (2, 7), (1, 1), (3, 9), (3, 10)] (by kernel_rfl) (by kernel_rfl) (by kernel_rfl) (fun _ _ _ _ _ h => h) ?_ ?_
    · exact trivial
    refine chainL_pure (v := ?_) (by simp only [List.getElem?_toArray, List.getElem?_cons_zero]; rfl) (by rfl) (fun w => ?_) ?_
    rotate_left
    · go_simp <;> with_reducible rfl
    simp only [Act.put, List.setIfInBounds_toArray, List.set_cons_zero, List.set_cons_succ]
    refine chainL_pure (v := ?_) (by simp only [List.getElem?_toArray, List.getElem?_cons_zero, List.getElem?_cons_succ]; rfl) (by rfl) (fun w => ?_) ?_
    rotate_left
    · go_simp <;> with_reducible rfl
    simp only [Act.put, List.setIfInBounds_toArray, List.set_cons_zero, List.set_cons_succ]
    refine chainL_pure (v := ?_) (by simp only [List.getElem?_toArray, List.getElem?_cons_zero, List.getElem?_cons_succ]; rfl) (by rfl) (fun w => ?_) ?_
    rotate_left
    · go_simp <;> with_reducible rfl
    simp only [Act.put, List.setIfInBounds_toArray, List.set_cons_zero, List.set_cons_succ]
    refine chainL_pure (v := ?_) (by simp only [List.getElem?_toArray, List.getElem?_cons_zero, List.getElem?_cons_succ]; rfl) (by rfl) (fun w => ?_) ?_
    rotate_left
    · go_simp <;> with_reducible rfl
    simp only [Act.put, List.setIfInBounds_toArray, List.set_cons_zero, List.set_cons_succ]
    refine chainL_pure (v := ?_) (by simp only [List.getElem?_toArray, List.getElem?_cons_zero, List.getElem?_cons_succ]; rfl) (by rfl) (fun w => ?_) ?_
    rotate_left
    · go_simp <;> with_reducible rfl
    simp only [Act.put, List.setIfInBounds_toArray, List.set_cons_zero, List.set_cons_succ]
    refine chainL_pure (v := ?_) (by simp only [List.getElem?_toArray, List.getElem?_cons_zero, List.getElem?_cons_succ]; rfl) (by rfl) (fun w => ?_) ?_
    rotate_left
    · go_simp <;> with_reducible rfl
    simp only [Act.put, List.setIfInBounds_toArray, List.set_cons_zero, List.set_cons_succ]
    refine chainL_pure (v := ?_) (by simp only [List.getElem?_toArray, List.getElem?_cons_zero, List.getElem?_cons_succ]; rfl) (by rfl) (fun w => ?_) ?_
    rotate_left
    · go_simp <;> with_reducible rfl
    simp only [Act.put, List.setIfInBounds_toArray, List.set_cons_zero, List.set_cons_succ]
    refine chainL_pure (v := ?_) (by simp only [List.getElem?_toArray, List.getElem?_cons_zero, List.getElem?_cons_succ]; rfl) (by rfl) (fun w => ?_) ?_
    rotate_left
    · go_simp <;> with_reducible rfl
    simp only [Act.put, List.setIfInBounds_toArray, List.set_cons_zero, List.set_cons_succ]
    refine chainL_alone (by simp only [List.getElem?_toArray, List.getElem?_cons_zero, List.getElem?_cons_succ]; rfl) ?_
    intro K hK
    go_wp2
    refine hK.out _ _ (trivial) ?_
    clear hK K
    refine chainL_late (by simp only [List.getElem?_toArray, List.getElem?_cons_zero, List.getElem?_cons_succ]; rfl) ?_
    intro K hK
    go_wp2
    refine hK.out _ _ ?_
    clear hK K
    refine chainL_late (by simp only [List.getElem?_toArray, List.getElem?_cons_zero, List.getElem?_cons_succ]; rfl) ?_
    intro K hK
    go_wp2
    refine hK.out _ _ ?_
    clear hK K
    refine chainL_nil ?_
    go_wp2
    refine retG3 Tryz.results10 rfl rfl rfl rfl (put3 HX2c.out _ _ _).drew ?_
    exact Did.drew (did_end HGz.out HL2.out HGO.out HT2.out (.inl rfl) (.inl rfl) (.inl rfl) HX2c.out (by omega) _ _ _)
end Go.Proofs.YtiifeniijcnahaaGreatDoor
