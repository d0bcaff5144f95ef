/-
  Contracts of the small functions: which numbers are scalars; a number in ranges; a rune's width, by the document and by the program's table.
-/
import Derived.Test.YtdeoeihbmdgipaaDoorRows
import Derived.Test.YtdeoeihbmdgipaaDoorRow
import Derived.Test.YtdeoeihbmdgipaaDoorWMath
import Derived.Deep.MidRow
import Derived.Deep.WholeRow
import Derived.Lib.MinMax
namespace Go.Proofs.YtdeoeihbmdgipaaDoor
open Go.ChangeShapes Go.WideShapes Go.ChangeAt Go.RowKit
set_option linter.unusedVariables false

theorem info21 : (Tryd.prog.info? 21).map (fun i => (i.zero, i.size, i.bytes)) = some (some (.int .i32 0), 1, 4) := by kernel_rfl
theorem info3 : (Tryd.prog.info? 3).map (fun i => (i.zero, i.size, i.bytes)) = some (some (.int .i64 0), 1, 8) := by kernel_rfl
theorem info93 : (Tryd.prog.info? 93).map (·.size) = some 54 := by kernel_rfl
theorem info92 : (Tryd.prog.info? 92).map (·.size) = some 3 := by kernel_rfl
theorem elem80 : Elem Tryd.prog 80 21 .i32 4 := ⟨Tryd.underlying80, info21⟩
theorem elem83 : Elem Tryd.prog 83 3 .i64 8 := ⟨Tryd.underlying83, info3⟩

/-- The program's table: from, to, width. -/
def spans : List (Int × Int × Int) := [(0, 31, -1), (127, 159, -1), (768, 879, 0), (8203, 8207, 0), (8400, 8447, 0), (65024, 65039, 0), (65056, 65071, 0), (4352, 4447, 2), (11904, 12350, 2), (12353, 42191, 2), (44032, 55203, 2),
  (63744, 64255, 2), (65072, 65135, 2), (65280, 65376, 2), (65504, 65510, 2), (127744, 128591, 2), (129280, 129535, 2), (131072, 262141, 2)]
def look (r : Int) : List (Int × Int × Int) → Int
  | [] => 1
  | s :: l => if s.1 ≤ r ∧ r ≤ s.2.1 then s.2.2 else look r l
theorem look_drop (r : Int) (k : Nat) (h : k < 18) (f t w : Int) (e : spans[k]? = some (f, t, w)) : look r (spans.drop k) = if f ≤ r ∧ r ≤ t then w else look r (spans.drop (k + 1)) := by
  obtain ⟨hk, e⟩ := List.getElem?_eq_some_iff.1 e
  rw [List.drop_eq_getElem_cons hk, e]; rfl
theorem inB_marks (r : Int) : (inB r marks = true) ↔ ((768 ≤ r ∧ r ≤ 879) ∨ (8203 ≤ r ∧ r ≤ 8207) ∨ (8400 ≤ r ∧ r ≤ 8447) ∨ (65024 ≤ r ∧ r ≤ 65039) ∨ (65056 ≤ r ∧ r ≤ 65071)) := by
  simp only [inB, marks, Bool.or_eq_true, Bool.and_eq_true, decide_eq_true_iff, Bool.false_eq_true, or_false]
theorem inB_wides (r : Int) : (inB r wides = true) ↔ ((4352 ≤ r ∧ r ≤ 4447) ∨ (11904 ≤ r ∧ r ≤ 12350) ∨ (12353 ≤ r ∧ r ≤ 42191) ∨ (44032 ≤ r ∧ r ≤ 55203) ∨ (63744 ≤ r ∧ r ≤ 64255) ∨ (65072 ≤ r ∧ r ≤ 65135) ∨ (65280 ≤ r ∧ r ≤ 65376) ∨ (65504 ≤ r ∧ r ≤ 65510) ∨ (127744 ≤ r ∧ r ≤ 128591) ∨ (129280 ≤ r ∧ r ≤ 129535) ∨ (131072 ≤ r ∧ r ≤ 262141)) := by
  simp only [inB, wides, Bool.or_eq_true, Bool.and_eq_true, decide_eq_true_iff, Bool.false_eq_true, or_false]
theorem inB_ctl (r : Int) : (inB r [127, 159] = true) ↔ (127 ≤ r ∧ r ≤ 159) := by
  simp only [inB, Bool.or_eq_true, Bool.and_eq_true, decide_eq_true_iff, Bool.false_eq_true, or_false]
theorem wOf_no (r : Int) (h : r < 32 ∨ (127 ≤ r ∧ r ≤ 159)) : wOf r = -1 := by
  unfold wOf
  rw [if_pos]
  rcases h with h | h
  · exact .inl h
  · exact .inr (.inl ((inB_ctl r).2 h))
theorem not_no (r : Int) (h : isSc r = true) (h1 : 32 ≤ r) (h2 : ¬ (127 ≤ r ∧ r ≤ 159)) : ¬ (r < 32 ∨ inB r [127, 159] = true ∨ isSc r = false) := by
  rintro (q | q | q)
  · omega
  · exact h2 ((inB_ctl r).1 q)
  · rw [h] at q; cases q
theorem wOf_mark (r : Int) (h : isSc r = true) (h1 : 32 ≤ r) (h2 : ¬ (127 ≤ r ∧ r ≤ 159)) (h3 : (768 ≤ r ∧ r ≤ 879) ∨ (8203 ≤ r ∧ r ≤ 8207) ∨ (8400 ≤ r ∧ r ≤ 8447) ∨ (65024 ≤ r ∧ r ≤ 65039) ∨ (65056 ≤ r ∧ r ≤ 65071)) : wOf r = 0 := by
  unfold wOf
  rw [if_neg (not_no r h h1 h2), if_pos ((inB_marks r).2 h3)]
theorem wOf_wide (r : Int) (h : isSc r = true) (h1 : 32 ≤ r) (h2 : ¬ (127 ≤ r ∧ r ≤ 159)) (h3 : ¬ ((768 ≤ r ∧ r ≤ 879) ∨ (8203 ≤ r ∧ r ≤ 8207) ∨ (8400 ≤ r ∧ r ≤ 8447) ∨ (65024 ≤ r ∧ r ≤ 65039) ∨ (65056 ≤ r ∧ r ≤ 65071))) (h4 : (4352 ≤ r ∧ r ≤ 4447) ∨ (11904 ≤ r ∧ r ≤ 12350) ∨ (12353 ≤ r ∧ r ≤ 42191) ∨ (44032 ≤ r ∧ r ≤ 55203) ∨ (63744 ≤ r ∧ r ≤ 64255) ∨ (65072 ≤ r ∧ r ≤ 65135) ∨ (65280 ≤ r ∧ r ≤ 65376) ∨ (65504 ≤ r ∧ r ≤ 65510) ∨ (127744 ≤ r ∧ r ≤ 128591) ∨ (129280 ≤ r ∧ r ≤ 129535) ∨ (131072 ≤ r ∧ r ≤ 262141)) : wOf r = 2 := by
  unfold wOf
  rw [if_neg (not_no r h h1 h2), if_neg (mt (inB_marks r).1 h3), if_pos ((inB_wides r).2 h4)]
theorem wOf_one (r : Int) (h : isSc r = true) (h1 : 32 ≤ r) (h2 : ¬ (127 ≤ r ∧ r ≤ 159)) (h3 : ¬ ((768 ≤ r ∧ r ≤ 879) ∨ (8203 ≤ r ∧ r ≤ 8207) ∨ (8400 ≤ r ∧ r ≤ 8447) ∨ (65024 ≤ r ∧ r ≤ 65039) ∨ (65056 ≤ r ∧ r ≤ 65071))) (h4 : ¬ ((4352 ≤ r ∧ r ≤ 4447) ∨ (11904 ≤ r ∧ r ≤ 12350) ∨ (12353 ≤ r ∧ r ≤ 42191) ∨ (44032 ≤ r ∧ r ≤ 55203) ∨ (63744 ≤ r ∧ r ≤ 64255) ∨ (65072 ≤ r ∧ r ≤ 65135) ∨ (65280 ≤ r ∧ r ≤ 65376) ∨ (65504 ≤ r ∧ r ≤ 65510) ∨ (127744 ≤ r ∧ r ≤ 128591) ∨ (129280 ≤ r ∧ r ≤ 129535) ∨ (131072 ≤ r ∧ r ≤ 262141))) : wOf r = 1 := by
  unfold wOf
  rw [if_neg (not_no r h h1 h2), if_neg (mt (inB_marks r).1 h3), if_neg (mt (inB_wides r).1 h4)]
theorem look_in (r f t w : Int) (l : List (Int × Int × Int)) (h : f ≤ r ∧ r ≤ t) : look r ((f, t, w) :: l) = w := if_pos h
theorem look_out (r f t w : Int) (l : List (Int × Int × Int)) (h : ¬ (f ≤ r ∧ r ≤ t)) : look r ((f, t, w) :: l) = look r l := if_neg h
set_option maxHeartbeats 4000000 in
theorem look_wOf (r : Int) (h : isSc r = true) : look r spans = wOf r := by
  have hs : 0 ≤ r ∧ r ≤ 1114111 ∧ (r < 55296 ∨ 57343 < r) := by simpa [isSc] using h
  unfold spans
  by_cases c0 : 0 ≤ r ∧ r ≤ 31
  · rw [look_in r _ _ _ _ c0]; exact (wOf_no r (by omega)).symm
  rw [look_out r _ _ _ _ c0]
  by_cases c1 : 127 ≤ r ∧ r ≤ 159
  · rw [look_in r _ _ _ _ c1]; exact (wOf_no r (by omega)).symm
  rw [look_out r _ _ _ _ c1]
  by_cases c2 : 768 ≤ r ∧ r ≤ 879
  · rw [look_in r _ _ _ _ c2]; exact (wOf_mark r h (by omega) (by omega) (by omega)).symm
  rw [look_out r _ _ _ _ c2]
  by_cases c3 : 8203 ≤ r ∧ r ≤ 8207
  · rw [look_in r _ _ _ _ c3]; exact (wOf_mark r h (by omega) (by omega) (by omega)).symm
  rw [look_out r _ _ _ _ c3]
  by_cases c4 : 8400 ≤ r ∧ r ≤ 8447
  · rw [look_in r _ _ _ _ c4]; exact (wOf_mark r h (by omega) (by omega) (by omega)).symm
  rw [look_out r _ _ _ _ c4]
  by_cases c5 : 65024 ≤ r ∧ r ≤ 65039
  · rw [look_in r _ _ _ _ c5]; exact (wOf_mark r h (by omega) (by omega) (by omega)).symm
  rw [look_out r _ _ _ _ c5]
  by_cases c6 : 65056 ≤ r ∧ r ≤ 65071
  · rw [look_in r _ _ _ _ c6]; exact (wOf_mark r h (by omega) (by omega) (by omega)).symm
  rw [look_out r _ _ _ _ c6]
  by_cases c7 : 4352 ≤ r ∧ r ≤ 4447
  · rw [look_in r _ _ _ _ c7]; exact (wOf_wide r h (by omega) (by omega) (by omega) (by omega)).symm
  rw [look_out r _ _ _ _ c7]
  by_cases c8 : 11904 ≤ r ∧ r ≤ 12350
  · rw [look_in r _ _ _ _ c8]; exact (wOf_wide r h (by omega) (by omega) (by omega) (by omega)).symm
  rw [look_out r _ _ _ _ c8]
  by_cases c9 : 12353 ≤ r ∧ r ≤ 42191
  · rw [look_in r _ _ _ _ c9]; exact (wOf_wide r h (by omega) (by omega) (by omega) (by omega)).symm
  rw [look_out r _ _ _ _ c9]
  by_cases c10 : 44032 ≤ r ∧ r ≤ 55203
  · rw [look_in r _ _ _ _ c10]; exact (wOf_wide r h (by omega) (by omega) (by omega) (by omega)).symm
  rw [look_out r _ _ _ _ c10]
  by_cases c11 : 63744 ≤ r ∧ r ≤ 64255
  · rw [look_in r _ _ _ _ c11]; exact (wOf_wide r h (by omega) (by omega) (by omega) (by omega)).symm
  rw [look_out r _ _ _ _ c11]
  by_cases c12 : 65072 ≤ r ∧ r ≤ 65135
  · rw [look_in r _ _ _ _ c12]; exact (wOf_wide r h (by omega) (by omega) (by omega) (by omega)).symm
  rw [look_out r _ _ _ _ c12]
  by_cases c13 : 65280 ≤ r ∧ r ≤ 65376
  · rw [look_in r _ _ _ _ c13]; exact (wOf_wide r h (by omega) (by omega) (by omega) (by omega)).symm
  rw [look_out r _ _ _ _ c13]
  by_cases c14 : 65504 ≤ r ∧ r ≤ 65510
  · rw [look_in r _ _ _ _ c14]; exact (wOf_wide r h (by omega) (by omega) (by omega) (by omega)).symm
  rw [look_out r _ _ _ _ c14]
  by_cases c15 : 127744 ≤ r ∧ r ≤ 128591
  · rw [look_in r _ _ _ _ c15]; exact (wOf_wide r h (by omega) (by omega) (by omega) (by omega)).symm
  rw [look_out r _ _ _ _ c15]
  by_cases c16 : 129280 ≤ r ∧ r ≤ 129535
  · rw [look_in r _ _ _ _ c16]; exact (wOf_wide r h (by omega) (by omega) (by omega) (by omega)).symm
  rw [look_out r _ _ _ _ c16]
  by_cases c17 : 131072 ≤ r ∧ r ≤ 262141
  · rw [look_in r _ _ _ _ c17]; exact (wOf_wide r h (by omega) (by omega) (by omega) (by omega)).symm
  rw [look_out r _ _ _ _ c17]
  exact (wOf_one r h (by omega) (by omega) (by omega) (by omega)).symm

/-- A span as cells. -/
def cellsOf3 (s : Int × Int × Int) : List Value := [.int .i32 s.1, .int .i32 s.2.1, .int .i64 s.2.2]
def spanCells : List Value := spans.flatMap cellsOf3
theorem spanCells_len : spanCells.length = 54 := by decide +kernel
/-- The program's table lies where it lies. -/
def Spans (w : World) : Prop := w.rangeAt 0 0 spanCells
theorem Spans.size {w : World} (h : Spans w) : 0 < w.heap.size := block_lt_of_cell (h 0 (.int .i32 0) rfl)
theorem Spans.keep {w w' : World} (h : Spans w) (hk : ∀ p : Addr, p.block < w.heap.size → w'.cell? p = w.cell? p) : Spans w' := fun j v hv => (hk _ (block_lt_of_cell (h j v hv))).trans (h j v hv)
theorem Spans.below {w w' : World} (h : Spans w) (hb : Below w.heap.size w w') : Spans w' := h.keep fun _ hp => hb.cell hp
theorem Spans.alloc {w : World} (h : Spans w) (o : Obj) : Spans (w.alloc o) := h.keep fun p hp => World.cell?_alloc_lt w o p hp
theorem Spans.drewN {w : World} (h : Spans w) (n : Nat) : Spans (w.drewN n) := h
theorem Spans.drew {w : World} (h : Spans w) : Spans w.drew := h

def tabArr : Array Value := spanCells.toArray
set_option maxRecDepth 100000 in
theorem tab_index (w : World) (k : Nat) (hk : k < 18) : ∃ f t d : Int, spans[k]? = some (f, t, d) ∧ (Instr.index 93 (.agg tabArr) (.int .i64 (k : Int))).run Tryd.prog w = .ok (.agg #[.int .i32 f, .int .i32 t, .int .i64 d]) w := by
  have : k = 0 ∨ k = 1 ∨ k = 2 ∨ k = 3 ∨ k = 4 ∨ k = 5 ∨ k = 6 ∨ k = 7 ∨ k = 8 ∨ k = 9 ∨ k = 10 ∨ k = 11 ∨ k = 12 ∨ k = 13 ∨ k = 14 ∨ k = 15 ∨ k = 16 ∨ k = 17 := by omega
  rcases this with rfl | rfl | rfl | rfl | rfl | rfl | rfl | rfl | rfl | rfl | rfl | rfl | rfl | rfl | rfl | rfl | rfl | rfl
  all_goals exact ⟨_, _, _, rfl, by kernel_rfl⟩

set_option maxHeartbeats 400000 in
theorem rscalar_any (r : Int) (w : World) : Calls Tryd.prog 67 #[.int .i64 r] w fun e w' => e = .returned (.bool (isSc r)) ∧ w = w' := by
  have key : (r < 0 ∧ isSc r = false) ∨ (0 ≤ r ∧ 1114111 < r ∧ isSc r = false) ∨ (0 ≤ r ∧ r ≤ 1114111 ∧ r < 55296 ∧ isSc r = true) ∨ (0 ≤ r ∧ r ≤ 1114111 ∧ 55296 ≤ r ∧ r ≤ 57343 ∧ isSc r = false) ∨ (0 ≤ r ∧ r ≤ 1114111 ∧ 55296 ≤ r ∧ 57343 < r ∧ isSc r = true) := by
    unfold isSc; simp only [decide_eq_true_iff, decide_eq_false_iff_not]; omega
  rcases key with ⟨h1, h⟩ | ⟨h1, h2, h⟩ | ⟨h1, h2, h3, h⟩ | ⟨h1, h2, h3, h4, h⟩ | ⟨h1, h2, h3, h4, h⟩
  all_goals
    have H := hide h
    clear h
    go_enter Tryd.func67, Tryd.ntmps67
    go_wp2
    go_ret
    exact ⟨ret_bool (by first | exact H.out.symm | (rw [H.out]; simp; omega)), rfl⟩

set_option maxHeartbeats 400000 in
theorem scalar_any (r : Int) (w : World) : Calls Tryd.prog 61 #[.int .i32 r] w fun e w' => e = .returned (.bool (isSc r)) ∧ w = w' := by
  have key : (r < 0 ∧ r < 55296 ∧ isSc r = false) ∨ (0 ≤ r ∧ 1114111 < r ∧ 55296 ≤ r ∧ 57343 < r ∧ isSc r = false) ∨ (0 ≤ r ∧ r ≤ 1114111 ∧ r < 55296 ∧ isSc r = true) ∨ (0 ≤ r ∧ r ≤ 1114111 ∧ 55296 ≤ r ∧ r ≤ 57343 ∧ isSc r = false) ∨ (0 ≤ r ∧ r ≤ 1114111 ∧ 55296 ≤ r ∧ 57343 < r ∧ isSc r = true) := by
    unfold isSc; simp only [decide_eq_true_iff, decide_eq_false_iff_not]; omega
  rcases key with ⟨h1, h2, h⟩ | ⟨h1, h2, h3, h4, h⟩ | ⟨h1, h2, h3, h⟩ | ⟨h1, h2, h3, h4, h⟩ | ⟨h1, h2, h3, h4, h⟩
  all_goals
    have H := hide h
    clear h
    go_enter Tryd.func61, Tryd.ntmps61
    go_wp2
    go_ret
    exact ⟨ret_bool (by first | exact H.out.symm | (rw [H.out]; simp; omega)), rfl⟩
end Go.Proofs.YtdeoeihbmdgipaaDoor
