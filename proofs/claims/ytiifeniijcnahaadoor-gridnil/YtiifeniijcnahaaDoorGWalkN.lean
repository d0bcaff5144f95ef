/-
  The walk of the law GridNil.
-/
import Derived.Test.YtiifeniijcnahaaDoorGKnown
namespace Go.Proofs.YtiifeniijcnahaaDoor
set_option maxRecDepth 100000
open Go.ChangeShapes Go.WideShapes Go.ChangeAt Go.RowKit
set_option linter.unusedVariables false

set_option maxHeartbeats 4000000 in
theorem gridNil_walk (a : Ac) (w : World) (ha : AcOk w a) (hS : Spans w) : Calls Tryd.prog 4 #[.agg #[.int .i64 a.k, .int .i64 a.r, .int .i64 a.c, .int .i64 a.t, .int .i32 a.xr, .int .i32 a.xm, .int .i32 a.xn, .int .u8 (a.xd : Int), .int .u8 (a.xf : Int), .int .u8 (a.xg : Int), .int .u8 (a.xb : Int), .int .i32 a.m, .int .u8 (a.pf : Int), .int .u8 (a.pg : Int), .int .u8 (a.pb : Int), .slice a.Al a.nl a.cl]] w fun e w' => e = .returned (.bool true) ∧ Below w.heap.size w w' := by
  obtain ⟨hac, hx, -, -, -⟩ := ha
  obtain ⟨-, -, -, hxd, -⟩ := hx
  have eC := eqlCell
  have e1 : eqC 0 0 0 0 0 0 0 0 0 0 0 0 0 0 = true := by decide
  obtain ⟨W0, hW0⟩ : ∃ W0, w.alloc (.cells #[.int .i64 a.k, .int .i64 a.r, .int .i64 a.c, .int .i64 a.t, .int .i32 a.xr, .int .i32 a.xm, .int .i32 a.xn, .int .u8 (a.xd : Int), .int .u8 (a.xf : Int), .int .u8 (a.xg : Int), .int .u8 (a.xb : Int), .int .i32 a.m, .int .u8 (a.pf : Int), .int .u8 (a.pg : Int), .int .u8 (a.pb : Int), .slice a.Al a.nl a.cl] 43) = W0 := ⟨_, rfl⟩
  have HX0 : Hid (Whole W0 w.heap.size 43 [.int .i64 a.k, .int .i64 a.r, .int .i64 a.c, .int .i64 a.t, .int .i32 a.xr, .int .i32 a.xm, .int .i32 a.xn, .int .u8 (a.xd : Int), .int .u8 (a.xf : Int), .int .u8 (a.xg : Int), .int .u8 (a.xb : Int), .int .i32 a.m, .int .u8 (a.pf : Int), .int .u8 (a.pg : Int), .int .u8 (a.pb : Int), .slice a.Al a.nl a.cl]) := by unfold Hid; rw [← hW0]; exact Whole.new w 43 [.int .i64 a.k, .int .i64 a.r, .int .i64 a.c, .int .i64 a.t, .int .i32 a.xr, .int .i32 a.xm, .int .i32 a.xn, .int .u8 (a.xd : Int), .int .u8 (a.xf : Int), .int .u8 (a.xg : Int), .int .u8 (a.xb : Int), .int .i32 a.m, .int .u8 (a.pf : Int), .int .u8 (a.pg : Int), .int .u8 (a.pb : Int), .slice a.Al a.nl a.cl]
  have HB0 : Hid (Below w.heap.size w W0) := by unfold Hid; rw [← hW0]; exact new1W _ _
  have HS0 : Hid (Spans W0) := by unfold Hid; rw [← hW0]; exact hS.alloc _
  have HW0 := hide hW0
  clear hW0 hS
  obtain ⟨a0, a1, a2, a3, a4, a5, a6, a7, a8, a9, b0, b1, b2, b3, b4, b5, la⟩ := cells16 HX0.out
  go_enter Tryd.func4, Tryd.ntmps4
  go_wp2_with fail
  rw [HW0.out]
  refine (gerase_nil a.r a.c a.t a.pf a.pg a.pb W0).mono ?_
  rintro e W1 ⟨rfl, hb⟩
  have HX1 := hide (HX0.out.later hb)
  have HS1 := hide (HS0.out.below hb)
  have HB1 := hide (HB0.out.trans (hb.mono HB0.out.size))
  clear hb
  clear a0 a1 a2 a3 a4 a5 a6 a7 a8 a9 b0 b1 b2 b3 b4 b5 la
  obtain ⟨a0, a1, a2, a3, a4, a5, a6, a7, a8, a9, b0, b1, b2, b3, b4, b5, la⟩ := cells16 HX1.out
  go_wp2_with fail
  refine (move_nil a.r a.c W1).mono ?_
  rintro e k ⟨rfl, rfl⟩
  go_wp2_with fail
  refine (scroll_nil a.r a.pf a.pg a.pb W1).mono ?_
  rintro e W2 ⟨rfl, hb⟩
  have HX2 := hide (HX1.out.later hb)
  have HS2 := hide (HS1.out.below hb)
  have HB2 := hide (HB1.out.trans (hb.mono HB1.out.size))
  clear hb
  clear a0 a1 a2 a3 a4 a5 a6 a7 a8 a9 b0 b1 b2 b3 b4 b5 la
  obtain ⟨a0, a1, a2, a3, a4, a5, a6, a7, a8, a9, b0, b1, b2, b3, b4, b5, la⟩ := cells16 HX2.out
  go_wp2_with fail
  refine (gat_nil a.r a.c W2).mono ?_
  rintro e W3 ⟨rfl, hb⟩
  have HX3 := hide (HX2.out.later hb)
  have HS3 := hide (HS2.out.below hb)
  have HB3 := hide (HB2.out.trans (hb.mono HB2.out.size))
  clear hb
  clear a0 a1 a2 a3 a4 a5 a6 a7 a8 a9 b0 b1 b2 b3 b4 b5 la
  obtain ⟨a0, a1, a2, a3, a4, a5, a6, a7, a8, a9, b0, b1, b2, b3, b4, b5, la⟩ := cells16 HX3.out
  obtain ⟨Q4, hQ4⟩ : ∃ Q4, W3.heap.size = Q4 := ⟨_, rfl⟩
  obtain ⟨W4, hW4⟩ : ∃ W, W3.alloc (.cells #[.int .i32 0, .int .i32 0, .int .i32 0, .int .u8 (0 : Int), .int .u8 (0 : Int), .int .u8 (0 : Int), .int .u8 (0 : Int)] 40) = W := ⟨_, rfl⟩
  have hb : Below W3.heap.size W3 W4 := by rw [← hW4]; exact new1W _ _
  have HC4 : Hid (Whole W4 Q4 40 [.int .i32 0, .int .i32 0, .int .i32 0, .int .u8 (0 : Int), .int .u8 (0 : Int), .int .u8 (0 : Int), .int .u8 (0 : Int)]) := by unfold Hid; rw [← hW4, ← hQ4]; exact Whole.new W3 40 [.int .i32 0, .int .i32 0, .int .i32 0, .int .u8 (0 : Int), .int .u8 (0 : Int), .int .u8 (0 : Int), .int .u8 (0 : Int)]
  have HX4 := hide (HX3.out.later hb)
  have HS4 := hide (HS3.out.below hb)
  have HB4 := hide (HB3.out.trans (hb.mono HB3.out.size))
  have HW4 := hide hW4
  have HQ4 := hide hQ4
  clear hb hW4 hQ4
  clear a0 a1 a2 a3 a4 a5 a6 a7 a8 a9 b0 b1 b2 b3 b4 b5 la
  obtain ⟨a0, a1, a2, a3, a4, a5, a6, a7, a8, a9, b0, b1, b2, b3, b4, b5, la⟩ := cells16 HX4.out
  obtain ⟨z0, z1, z2, z3, z4, z5, z6, lz⟩ := cells7 HC4.out
  go_wp2_with fail
  rw [HW4.out, HQ4.out]
  refine (fit_nilG 2 2 W4).mono ?_
  rintro e W5 ⟨rfl, hb⟩
  have HX5 := hide (HX4.out.later hb)
  have HS5 := hide (HS4.out.below hb)
  have HB5 := hide (HB4.out.trans (hb.mono HB4.out.size))
  have HC5 := hide (HC4.out.later hb)
  clear hb
  clear a0 a1 a2 a3 a4 a5 a6 a7 a8 a9 b0 b1 b2 b3 b4 b5 la
  obtain ⟨a0, a1, a2, a3, a4, a5, a6, a7, a8, a9, b0, b1, b2, b3, b4, b5, la⟩ := cells16 HX5.out
  clear z0 z1 z2 z3 z4 z5 z6 lz
  obtain ⟨z0, z1, z2, z3, z4, z5, z6, lz⟩ := cells7 HC5.out
  go_wp2_with fail
  refine (gknown_any W5 HS5.out).mono ?_
  rintro e W6 ⟨rfl, hb⟩
  have HX6 := hide (HX5.out.later hb)
  have HS6 := hide (HS5.out.below hb)
  have HB6 := hide (HB5.out.trans (hb.mono HB5.out.size))
  have HC6 := hide (HC5.out.later hb)
  clear hb
  clear a0 a1 a2 a3 a4 a5 a6 a7 a8 a9 b0 b1 b2 b3 b4 b5 la
  obtain ⟨a0, a1, a2, a3, a4, a5, a6, a7, a8, a9, b0, b1, b2, b3, b4, b5, la⟩ := cells16 HX6.out
  clear z0 z1 z2 z3 z4 z5 z6 lz
  obtain ⟨z0, z1, z2, z3, z4, z5, z6, lz⟩ := cells7 HC6.out
  go_wp2_with fail
  refine (rows_nil W6).mono ?_
  rintro e k ⟨rfl, rfl⟩
  go_wp2_with fail
  refine (cols_nil W6).mono ?_
  rintro e k ⟨rfl, rfl⟩
  go_wp2_with fail
  refine (row_nil W6).mono ?_
  rintro e k ⟨rfl, rfl⟩
  go_wp2_with fail
  refine (col_nil W6).mono ?_
  rintro e k ⟨rfl, rfl⟩
  go_wp2_with fail
  refine (gline_nil a.r W6).mono ?_
  rintro e k ⟨rfl, rfl⟩
  go_wp2_with fail
  refine (gput_nil a.r a.c a.xr a.xm a.xn a.xd a.xf a.xg a.xb hxd hac W6).mono ?_
  rintro e W7 ⟨rfl, hb⟩
  have HX7 := hide (HX6.out.later hb)
  have HS7 := hide (HS6.out.below hb)
  have HB7 := hide (HB6.out.trans (hb.mono HB6.out.size))
  have HC7 := hide (HC6.out.later hb)
  clear hb
  clear a0 a1 a2 a3 a4 a5 a6 a7 a8 a9 b0 b1 b2 b3 b4 b5 la
  obtain ⟨a0, a1, a2, a3, a4, a5, a6, a7, a8, a9, b0, b1, b2, b3, b4, b5, la⟩ := cells16 HX7.out
  clear z0 z1 z2 z3 z4 z5 z6 lz
  obtain ⟨z0, z1, z2, z3, z4, z5, z6, lz⟩ := cells7 HC7.out
  go_wp2_with fail
  refine (gmark_nil a.r a.c a.m W7).mono ?_
  rintro e W8 ⟨rfl, hb⟩
  have HX8 := hide (HX7.out.later hb)
  have HS8 := hide (HS7.out.below hb)
  have HB8 := hide (HB7.out.trans (hb.mono HB7.out.size))
  have HC8 := hide (HC7.out.later hb)
  clear hb
  clear a0 a1 a2 a3 a4 a5 a6 a7 a8 a9 b0 b1 b2 b3 b4 b5 la
  obtain ⟨a0, a1, a2, a3, a4, a5, a6, a7, a8, a9, b0, b1, b2, b3, b4, b5, la⟩ := cells16 HX8.out
  clear z0 z1 z2 z3 z4 z5 z6 lz
  obtain ⟨z0, z1, z2, z3, z4, z5, z6, lz⟩ := cells7 HC8.out
  go_wp2_with fail
  refine (glay_nil a.r a.Al a.nl a.cl W8).mono ?_
  rintro e W9 ⟨rfl, hb⟩
  have HX9 := hide (HX8.out.later hb)
  have HS9 := hide (HS8.out.below hb)
  have HB9 := hide (HB8.out.trans (hb.mono HB8.out.size))
  have HC9 := hide (HC8.out.later hb)
  clear hb
  clear a0 a1 a2 a3 a4 a5 a6 a7 a8 a9 b0 b1 b2 b3 b4 b5 la
  obtain ⟨a0, a1, a2, a3, a4, a5, a6, a7, a8, a9, b0, b1, b2, b3, b4, b5, la⟩ := cells16 HX9.out
  clear z0 z1 z2 z3 z4 z5 z6 lz
  obtain ⟨z0, z1, z2, z3, z4, z5, z6, lz⟩ := cells7 HC9.out
  go_wp2_with fail
  refine (copy_nil W9).mono ?_
  rintro e W10 ⟨rfl, hb⟩
  have HX10 := hide (HX9.out.later hb)
  have HS10 := hide (HS9.out.below hb)
  have HB10 := hide (HB9.out.trans (hb.mono HB9.out.size))
  have HC10 := hide (HC9.out.later hb)
  clear hb
  clear a0 a1 a2 a3 a4 a5 a6 a7 a8 a9 b0 b1 b2 b3 b4 b5 la
  obtain ⟨a0, a1, a2, a3, a4, a5, a6, a7, a8, a9, b0, b1, b2, b3, b4, b5, la⟩ := cells16 HX10.out
  clear z0 z1 z2 z3 z4 z5 z6 lz
  obtain ⟨z0, z1, z2, z3, z4, z5, z6, lz⟩ := cells7 HC10.out
  go_wp2_with fail
  refine (gright_nil W10).mono ?_
  rintro e k ⟨rfl, rfl⟩
  go_wp2
  go_ret
  exact ⟨rfl, HB10.out⟩
end Go.Proofs.YtiifeniijcnahaaDoor
