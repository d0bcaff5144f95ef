/-
  Contract: the chapter's examples.
-/
import Derived.Test.YtdeoeihbmdgipaaDoorCRRight
namespace Go.Proofs.YtdeoeihbmdgipaaDoor
open Go.ChangeShapes Go.WideShapes Go.ChangeAt Go.RowKit
set_option linter.unusedVariables false

theorem cof_a (w : World) (hS : Spans w) : Calls Tryd.prog 43 #[.int .i32 97, .agg #[.int .u8 0, .int .u8 0, .int .u8 0]] w (fun e w' => e = .returned (.tuple #[.agg #[.int .i32 97, .int .i32 0, .int .i32 0, .int .u8 (1 : Int), .int .u8 (0 : Int), .int .u8 (0 : Int), .int .u8 (0 : Int)], .bool true]) ∧ Below w.heap.size w w') := by
  refine (cof_any 97 0 0 0 w hS).mono ?_
  rintro e w' ⟨rfl, hb⟩
  exact ⟨by rw [ofC_1 97 _ wOf_a]; rfl, hb⟩
theorem cof_h (w : World) (hS : Spans w) : Calls Tryd.prog 43 #[.int .i32 12354, .agg #[.int .u8 0, .int .u8 0, .int .u8 0]] w (fun e w' => e = .returned (.tuple #[.agg #[.int .i32 12354, .int .i32 0, .int .i32 0, .int .u8 (2 : Int), .int .u8 (0 : Int), .int .u8 (0 : Int), .int .u8 (0 : Int)], .bool true]) ∧ Below w.heap.size w w') := by
  refine (cof_any 12354 0 0 0 w hS).mono ?_
  rintro e w' ⟨rfl, hb⟩
  exact ⟨by rw [ofC_2 12354 _ wOf_hira]; rfl, hb⟩
theorem mark_a (w : World) (hS : Spans w) : Calls Tryd.prog 41 #[.agg #[.int .i32 97, .int .i32 0, .int .i32 0, .int .u8 (1 : Int), .int .u8 (0 : Int), .int .u8 (0 : Int), .int .u8 (0 : Int)], .int .i32 769] w (fun e w' => e = .returned (.tuple #[.agg #[.int .i32 97, .int .i32 769, .int .i32 0, .int .u8 (1 : Int), .int .u8 (0 : Int), .int .u8 (0 : Int), .int .u8 (0 : Int)], .bool true]) ∧ Below w.heap.size w w') := by
  refine (cmark_any 97 0 0 1 0 0 0 769 w hS).mono ?_
  rintro e w' ⟨rfl, hb⟩
  exact ⟨by rw [markC_fst ⟨97, 0, 0, 1, ⟨0, 0, 0⟩⟩ 769 wOf_acute rfl rfl]; rfl, hb⟩
theorem rest_h (w : World) : Calls Tryd.prog 36 #[.agg #[.int .i32 12354, .int .i32 0, .int .i32 0, .int .u8 (2 : Int), .int .u8 (0 : Int), .int .u8 (0 : Int), .int .u8 (0 : Int)]] w (fun e w' => e = .returned (.agg #[.int .i32 0, .int .i32 0, .int .i32 0, .int .u8 (0 : Int), .int .u8 (0 : Int), .int .u8 (0 : Int), .int .u8 (0 : Int)]) ∧ Below w.heap.size w w') := by
  refine (rest_any 12354 0 0 2 0 0 0 w).mono ?_
  rintro e w' ⟨rfl, hb⟩
  exact ⟨rfl, hb⟩
theorem right_b (w : World) (hS : Spans w) : Calls Tryd.prog 34 #[.agg #[.int .i32 97, .int .i32 769, .int .i32 0, .int .u8 (1 : Int), .int .u8 (0 : Int), .int .u8 (0 : Int), .int .u8 (0 : Int)]] w (Said true w) := by
  have e : rightC ⟨97, 769, 0, 1, ⟨0, 0, 0⟩⟩ = true := by decide +kernel
  have := cright_any 97 769 0 1 0 0 0 (by omega) w hS
  rw [e] at this
  exact this
end Go.Proofs.YtdeoeihbmdgipaaDoor
