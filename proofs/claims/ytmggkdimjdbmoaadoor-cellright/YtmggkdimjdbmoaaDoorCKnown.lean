/-
  Contract: the chapter's examples.
-/
import Derived.Test.YtmggkdimjdbmoaaDoorCRRight
import Derived.Test.YtmggkdimjdbmoaaDoorCAlike
namespace Go.Proofs.YtmggkdimjdbmoaaDoor
open Go.ChangeShapes Go.WideShapes Go.ChangeAt Go.RowKit
set_option linter.unusedVariables false

theorem cof_a (w : World) (hS : Spans w) : Calls Tryd.prog 6 #[.int .i32 97, .agg #[.int .u8 0, .int .u8 0, .int .u8 0]] w (fun e w' => e = .returned (.tuple #[.agg #[.int .i32 97, .int .i32 0, .int .i32 0, .int .u8 (1 : Int), .int .u8 (0 : Int), .int .u8 (0 : Int), .int .u8 (0 : Int)], .bool true]) ∧ Below w.heap.size w w') := by
  refine (cof_any 97 0 0 0 w hS).mono ?_
  rintro e w' ⟨rfl, hb⟩
  exact ⟨by rw [ofC_1 97 _ wOf_a]; rfl, hb⟩
theorem cof_h (w : World) (hS : Spans w) : Calls Tryd.prog 6 #[.int .i32 12354, .agg #[.int .u8 0, .int .u8 0, .int .u8 0]] w (fun e w' => e = .returned (.tuple #[.agg #[.int .i32 12354, .int .i32 0, .int .i32 0, .int .u8 (2 : Int), .int .u8 (0 : Int), .int .u8 (0 : Int), .int .u8 (0 : Int)], .bool true]) ∧ Below w.heap.size w w') := by
  refine (cof_any 12354 0 0 0 w hS).mono ?_
  rintro e w' ⟨rfl, hb⟩
  exact ⟨by rw [ofC_2 12354 _ wOf_hira]; rfl, hb⟩
theorem mark_a (w : World) (hS : Spans w) : Calls Tryd.prog 8 #[.agg #[.int .i32 97, .int .i32 0, .int .i32 0, .int .u8 (1 : Int), .int .u8 (0 : Int), .int .u8 (0 : Int), .int .u8 (0 : Int)], .int .i32 769] w (fun e w' => e = .returned (.tuple #[.agg #[.int .i32 97, .int .i32 769, .int .i32 0, .int .u8 (1 : Int), .int .u8 (0 : Int), .int .u8 (0 : Int), .int .u8 (0 : Int)], .bool true]) ∧ Below w.heap.size w w') := by
  refine (cmark_any 97 0 0 1 0 0 0 769 w hS).mono ?_
  rintro e w' ⟨rfl, hb⟩
  exact ⟨by rw [markC_fst ⟨97, 0, 0, 1, ⟨0, 0, 0⟩⟩ 769 wOf_acute rfl rfl]; rfl, hb⟩
theorem rest_h (w : World) : Calls Tryd.prog 15 #[.agg #[.int .i32 12354, .int .i32 0, .int .i32 0, .int .u8 (2 : Int), .int .u8 (0 : Int), .int .u8 (0 : Int), .int .u8 (0 : Int)]] w (fun e w' => e = .returned (.agg #[.int .i32 0, .int .i32 0, .int .i32 0, .int .u8 (0 : Int), .int .u8 (0 : Int), .int .u8 (0 : Int), .int .u8 (0 : Int)]) ∧ Below w.heap.size w w') := by
  refine (rest_any 12354 0 0 2 0 0 0 w).mono ?_
  rintro e w' ⟨rfl, hb⟩
  exact ⟨rfl, hb⟩
theorem right_b (w : World) (hS : Spans w) : Calls Tryd.prog 18 #[.agg #[.int .i32 97, .int .i32 769, .int .i32 0, .int .u8 (1 : Int), .int .u8 (0 : Int), .int .u8 (0 : Int), .int .u8 (0 : Int)]] w (Said true w) := by
  have e : rightC ⟨97, 769, 0, 1, ⟨0, 0, 0⟩⟩ = true := by decide +kernel
  have := cright_any 97 769 0 1 0 0 0 (by omega) w hS
  rw [e] at this
  exact this
set_option maxRecDepth 100000 in
set_option maxHeartbeats 2000000 in
theorem known_any (w : World) (hS : Spans w) : Calls Tryd.prog 12 #[] w (Said true w) := by
  have eC := eqlCell
  have hz : eqC 0 0 0 0 0 0 0 0 0 0 0 0 0 0 = true := rfl
  have HS := hide hS
  clear hS
  go_enter Tryd.func12, Tryd.ntmps12
  go_wp2_with fail
  refine (cof_a _ HS.out).mono ?_
  rintro e w1 ⟨rfl, hb1⟩
  have HB1 := hide (hb1.alloc hb1.size (.cells #[.int .i32 97, .int .i32 0, .int .i32 0, .int .u8 (1 : Int), .int .u8 (0 : Int), .int .u8 (0 : Int), .int .u8 (0 : Int)] 26))
  have HS1 := hide ((HS.out.below hb1).alloc (.cells #[.int .i32 97, .int .i32 0, .int .i32 0, .int .u8 (1 : Int), .int .u8 (0 : Int), .int .u8 (0 : Int), .int .u8 (0 : Int)] 26))
  have HA1 := hide (Whole.new w1 26 [.int .i32 97, .int .i32 0, .int .i32 0, .int .u8 (1 : Int), .int .u8 (0 : Int), .int .u8 (0 : Int), .int .u8 (0 : Int)])
  clear hb1
  go_wp2_with fail
  refine (mark_a _ HS1.out).mono ?_
  rintro e w2 ⟨rfl, hb2⟩
  have HB2 := hide ((HB1.out.trans (hb2.mono HB1.out.size)).alloc (HB1.out.trans (hb2.mono HB1.out.size)).size (.cells #[.int .i32 97, .int .i32 769, .int .i32 0, .int .u8 (1 : Int), .int .u8 (0 : Int), .int .u8 (0 : Int), .int .u8 (0 : Int)] 26))
  have HS2 := hide ((HS1.out.below hb2).alloc (.cells #[.int .i32 97, .int .i32 769, .int .i32 0, .int .u8 (1 : Int), .int .u8 (0 : Int), .int .u8 (0 : Int), .int .u8 (0 : Int)] 26))
  have HA2 := hide ((HA1.out.later hb2).alloc (.cells #[.int .i32 97, .int .i32 769, .int .i32 0, .int .u8 (1 : Int), .int .u8 (0 : Int), .int .u8 (0 : Int), .int .u8 (0 : Int)] 26))
  have HC2 := hide (Whole.new w2 26 [.int .i32 97, .int .i32 769, .int .i32 0, .int .u8 (1 : Int), .int .u8 (0 : Int), .int .u8 (0 : Int), .int .u8 (0 : Int)])
  clear hb2 HA1 HB1 HS1
  go_wp2_with fail
  refine (cof_h _ HS2.out).mono ?_
  rintro e w3 ⟨rfl, hb3⟩
  have HB3 := hide ((HB2.out.trans (hb3.mono HB2.out.size)).alloc (HB2.out.trans (hb3.mono HB2.out.size)).size (.cells #[.int .i32 12354, .int .i32 0, .int .i32 0, .int .u8 (2 : Int), .int .u8 (0 : Int), .int .u8 (0 : Int), .int .u8 (0 : Int)] 26))
  have HS3 := hide ((HS2.out.below hb3).alloc (.cells #[.int .i32 12354, .int .i32 0, .int .i32 0, .int .u8 (2 : Int), .int .u8 (0 : Int), .int .u8 (0 : Int), .int .u8 (0 : Int)] 26))
  have HA3 := hide (HA2.out.later hb3)
  have HC3 := hide (HC2.out.later hb3)
  have HD3 := hide (Whole.new w3 26 [.int .i32 12354, .int .i32 0, .int .i32 0, .int .u8 (2 : Int), .int .u8 (0 : Int), .int .u8 (0 : Int), .int .u8 (0 : Int)])
  have HC4 := hide (HC3.out.alloc (.cells #[.int .i32 12354, .int .i32 0, .int .i32 0, .int .u8 (2 : Int), .int .u8 (0 : Int), .int .u8 (0 : Int), .int .u8 (0 : Int)] 26))
  have l1 : w1.heap.size < w3.heap.size := HA3.out.lt
  have l2 : w2.heap.size < w3.heap.size := HC3.out.lt
  obtain ⟨a0, a1, a2, a3, a4, a5, a6, -⟩ := cells7 HA3.out
  obtain ⟨b0, b1, b2, b3, b4, b5, b6, -⟩ := cells7 HC3.out
  clear hb3 HA2 HB2 HS2 HC2
  go_wp2_with fail
  refine (rest_h _).mono ?_
  rintro e w4 ⟨rfl, hb4⟩
  have HB4 := hide (HB3.out.trans (hb4.mono HB3.out.size))
  have HS4 := hide (HS3.out.below hb4)
  have HC5 := hide (HC4.out.later hb4)
  clear hb4 a0 a1 a2 a3 a4 a5 a6 b0 b1 b2 b3 b4 b5 b6 l1 l2
  obtain ⟨b0, b1, b2, b3, b4, b5, b6, -⟩ := cells7 HC5.out
  go_wp2_with fail
  refine (right_b _ HS4.out).mono ?_
  rintro e w5 ⟨rfl, hb5⟩
  go_wp2
  go_ret
  exact ⟨rfl, HB4.out.trans (hb5.mono HB4.out.size)⟩
end Go.Proofs.YtmggkdimjdbmoaaDoor
