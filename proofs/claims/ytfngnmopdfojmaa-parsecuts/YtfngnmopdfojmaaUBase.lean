/-
  Contracts of the small functions: which numbers are scalars, a scalar's bytes (the document's), the order of bytes.
-/
import Derived.Test.YtfngnmopdfojmaaRows
import Derived.Test.YtfngnmopdfojmaaRow
import Derived.Test.YtfngnmopdfojmaaWords
import Derived.Test.YtfngnmopdfojmaaUMath2
import Derived.WalkMore
namespace Go.Proofs.Ytfngnmopdfojmaa
set_option maxRecDepth 100000
open Go.ChangeShapes Go.WideShapes Go.ChangeAt Go.RowKit
set_option linter.unusedVariables false

theorem info5 : (Try.prog.info? 5).map (fun i => (i.zero, i.size, i.bytes)) = some (some (.int .u8 0), 1, 1) := by kernel_rfl
theorem info21 : (Try.prog.info? 21).map (fun i => (i.zero, i.size, i.bytes)) = some (some (.int .i32 0), 1, 4) := by kernel_rfl
theorem info3 : (Try.prog.info? 3).map (fun i => (i.zero, i.size, i.bytes)) = some (some (.int .i64 0), 1, 8) := by kernel_rfl
theorem elemBytes : Elem Try.prog 35 5 .u8 1 := ⟨Try.underlying35, info5⟩
theorem elemRunes : Elem Try.prog 82 21 .i32 4 := ⟨Try.underlying82, info21⟩
theorem elemInts : Elem Try.prog 34 3 .i64 8 := ⟨Try.underlying34, info3⟩

set_option maxHeartbeats 400000 in
theorem rscalar_any (r : Int) (w : World) : Calls Try.prog 53 #[.int .i64 r] w fun e w' => e = .returned (.bool (isSc r)) ∧ w = w' := by
  have key : (r < 0 ∧ isSc r = false) ∨ (0 ≤ r ∧ 1114111 < r ∧ isSc r = false) ∨ (0 ≤ r ∧ r ≤ 1114111 ∧ r < 55296 ∧ isSc r = true) ∨ (0 ≤ r ∧ r ≤ 1114111 ∧ 55296 ≤ r ∧ r ≤ 57343 ∧ isSc r = false) ∨ (0 ≤ r ∧ r ≤ 1114111 ∧ 55296 ≤ r ∧ 57343 < r ∧ isSc r = true) := by
    unfold isSc; simp only [decide_eq_true_iff, decide_eq_false_iff_not]; omega
  rcases key with ⟨h1, h⟩ | ⟨h1, h2, h⟩ | ⟨h1, h2, h3, h⟩ | ⟨h1, h2, h3, h4, h⟩ | ⟨h1, h2, h3, h4, h⟩
  all_goals
    have H := hide h
    clear h
    go_enter Try.func53, Try.ntmps53
    go_wp2
    go_ret
    exact ⟨ret_bool (by first | exact H.out.symm | (rw [H.out]; simp; omega)), rfl⟩

set_option maxHeartbeats 1000000 in
theorem rbytes_sc (r : Int) (w : World) (h : isSc r = true) : Calls Try.prog 54 #[.int .i64 r] w (Made 5 .u8 w (encS r)) := by
  have hb := (isSc_iff r).1 h
  obtain ⟨h0, h9, _⟩ := hb
  have hsc : isSc r = true := h
  by_cases h1 : r < 128
  · have E := hide (encS1 h1)
    go_enter Try.func54, Try.ntmps54
    go_wp2_with (go_at_call 53; refine (rscalar_any _ _).mono ?_; rintro e w' ⟨rfl, rfl⟩)
    go_ret
    exact ⟨_, rfl, by rw [E.out]; exact Own.lit w 5 .u8 [r] 1 rfl (by omega)⟩
  by_cases h2 : r < 2048
  · have E := hide (encS2 h1 h2)
    go_enter Try.func54, Try.ntmps54
    go_wp2_with (go_at_call 53; refine (rscalar_any _ _).mono ?_; rintro e w' ⟨rfl, rfl⟩)
    go_ret
    exact ⟨_, rfl, by rw [E.out]; exact Own.lit w 5 .u8 [_, _] 2 rfl (by omega)⟩
  by_cases h3 : r < 65536
  · have E := hide (encS3 h2 h3)
    go_enter Try.func54, Try.ntmps54
    go_wp2_with (go_at_call 53; refine (rscalar_any _ _).mono ?_; rintro e w' ⟨rfl, rfl⟩)
    go_ret
    exact ⟨_, rfl, by rw [E.out]; exact Own.lit w 5 .u8 [_, _, _] 3 rfl (by omega)⟩
  · have E := hide (encS4 h3)
    go_enter Try.func54, Try.ntmps54
    go_wp2_with (go_at_call 53; refine (rscalar_any _ _).mono ?_; rintro e w' ⟨rfl, rfl⟩)
    go_ret
    exact ⟨_, rfl, by rw [E.out]; exact Own.lit w 5 .u8 [_, _, _, _] 4 rfl (by omega)⟩

set_option maxHeartbeats 1000000 in
theorem rbytes_any (r : Int) (w : World) : Calls Try.prog 54 #[.int .i64 r] w (Made 5 .u8 w (encS (fix r))) := by
  by_cases h : isSc r = true
  · rw [fix_of r h]; exact rbytes_sc r w h
  · have h' : isSc r = false := by simpa using h
    have e : encS (fix r) = [239, 191, 189] := by unfold fix; rw [if_neg h]; decide
    have E := hide e
    clear e h
    go_enter Try.func54, Try.ntmps54
    go_wp2_with (go_at_call 53; refine (rscalar_any _ _).mono ?_; rintro e w' ⟨rfl, rfl⟩)
    go_ret
    exact ⟨_, rfl, by rw [E.out]; exact Own.lit w 5 .u8 [_, _, _] 3 rfl (by omega)⟩
end Go.Proofs.Ytfngnmopdfojmaa
