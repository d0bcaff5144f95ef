/-
  Contracts of the small functions: which numbers are scalars; a number in ranges; a rune's width, by the document and by the program's table.
  Contracts: a rune's width by the program's table.
  Contracts of the document's own answers: a number in ranges, a rune's width.
  Contracts: the cell of a rune (both), a cell with a mark more (both).
  Contracts: a cell with a mark more (both).
  Contracts: are marks as they may be: the closure, the library's search with it, and the program's.
  A region that leaves its order open, walked in one order: some operations are taken early (each yields its value in whatever world), the others come up alone, one after the other. Of no program.
-/
import Derived.Test.YtkijclgbpbhglaaGreatDoorRows
import Derived.Test.YtkijclgbpbhglaaGreatDoorQa1
import Derived.Deep.MidRow
import Derived.Deep.WholeRow
import Derived.Lib.MinMax
import Derived.Test.YtkijclgbpbhglaaGreatDoorQa2
import Derived.Orders
namespace Go.Proofs.YtkijclgbpbhglaaGreatDoor
set_option maxRecDepth 100000
open Go.ChangeShapes Go.WideShapes Go.ChangeAt Go.RowKit
set_option linter.unusedVariables false

theorem info21 : (Tryz.prog.info? 21).map (fun i => (i.zero, i.size, i.bytes)) = some (some (.int .i32 0), 1, 4) := by kernel_rfl
theorem info3 : (Tryz.prog.info? 3).map (fun i => (i.zero, i.size, i.bytes)) = some (some (.int .i64 0), 1, 8) := by kernel_rfl
theorem info220 : (Tryz.prog.info? 220).map (·.size) = some 54 := by kernel_rfl
theorem elem129 : Elem Tryz.prog 129 21 .i32 4 := ⟨Tryz.underlying129, info21⟩
/-- The program's table: from, to, width. -/
def spans : List (Int × Int × Int) := [(0, 31, -1), (127, 159, -1), (768, 879, 0), (8203, 8207, 0), (8400, 8447, 0), (65024, 65039, 0), (65056, 65071, 0), (4352, 4447, 2), (11904, 12350, 2), (12353, 42191, 2), (44032, 55203, 2),
  (63744, 64255, 2), (65072, 65135, 2), (65280, 65376, 2), (65504, 65510, 2), (127744, 128591, 2), (129280, 129535, 2), (131072, 262141, 2)]
def look (r : Int) : List (Int × Int × Int) → Int
  | [] => 1
  | s :: l => if s.1 ≤ r ∧ r ≤ s.2.1 then s.2.2 else look r l
theorem look_drop (r : Int) (k : Nat) (h : k < 18) (f t w : Int) (e : spans[k]? = some (f, t, w)) : look r (spans.drop k) = if f ≤ r ∧ r ≤ t then w else look r (spans.drop (k + 1)) := by
  obtain ⟨hk, e⟩ := List.getElem?_eq_some_iff.1 e
  rw [List.drop_eq_getElem_cons hk, e]; rfl
theorem inB_marks (r : Int) : (inB r marks = true) ↔ ((768 ≤ r ∧ r ≤ 879) ∨ (8203 ≤ r ∧ r ≤ 8207) ∨ (8400 ≤ r ∧ r ≤ 8447) ∨ (65024 ≤ r ∧ r ≤ 65039) ∨ (65056 ≤ r ∧ r ≤ 65071)) := by
  simp only [inB, marks, Bool.or_eq_true, Bool.and_eq_true, decide_eq_true_iff, Bool.false_eq_true, or_false]
theorem inB_wides (r : Int) : (inB r wides = true) ↔ ((4352 ≤ r ∧ r ≤ 4447) ∨ (11904 ≤ r ∧ r ≤ 12350) ∨ (12353 ≤ r ∧ r ≤ 42191) ∨ (44032 ≤ r ∧ r ≤ 55203) ∨ (63744 ≤ r ∧ r ≤ 64255) ∨ (65072 ≤ r ∧ r ≤ 65135) ∨ (65280 ≤ r ∧ r ≤ 65376) ∨ (65504 ≤ r ∧ r ≤ 65510) ∨ (127744 ≤ r ∧ r ≤ 128591) ∨ (129280 ≤ r ∧ r ≤ 129535) ∨ (131072 ≤ r ∧ r ≤ 262141)) := by
  simp only [inB, wides, Bool.or_eq_true, Bool.and_eq_true, decide_eq_true_iff, Bool.false_eq_true, or_false]
theorem inB_ctl (r : Int) : (inB r [127, 159] = true) ↔ (127 ≤ r ∧ r ≤ 159) := by
  simp only [inB, Bool.or_eq_true, Bool.and_eq_true, decide_eq_true_iff, Bool.false_eq_true, or_false]
theorem wOf_no (r : Int) (h : r < 32 ∨ (127 ≤ r ∧ r ≤ 159)) : wOf r = -1 := by
  unfold wOf
  rw [if_pos]
  rcases h with h | h
  · exact .inl h
  · exact .inr (.inl ((inB_ctl r).2 h))
theorem not_no (r : Int) (h : isSc r = true) (h1 : 32 ≤ r) (h2 : ¬ (127 ≤ r ∧ r ≤ 159)) : ¬ (r < 32 ∨ inB r [127, 159] = true ∨ isSc r = false) := by
  rintro (q | q | q)
  · omega
  · exact h2 ((inB_ctl r).1 q)
  · rw [h] at q; cases q
theorem wOf_mark (r : Int) (h : isSc r = true) (h1 : 32 ≤ r) (h2 : ¬ (127 ≤ r ∧ r ≤ 159)) (h3 : (768 ≤ r ∧ r ≤ 879) ∨ (8203 ≤ r ∧ r ≤ 8207) ∨ (8400 ≤ r ∧ r ≤ 8447) ∨ (65024 ≤ r ∧ r ≤ 65039) ∨ (65056 ≤ r ∧ r ≤ 65071)) : wOf r = 0 := by
  unfold wOf
  rw [if_neg (not_no r h h1 h2), if_pos ((inB_marks r).2 h3)]
theorem wOf_wide (r : Int) (h : isSc r = true) (h1 : 32 ≤ r) (h2 : ¬ (127 ≤ r ∧ r ≤ 159)) (h3 : ¬ ((768 ≤ r ∧ r ≤ 879) ∨ (8203 ≤ r ∧ r ≤ 8207) ∨ (8400 ≤ r ∧ r ≤ 8447) ∨ (65024 ≤ r ∧ r ≤ 65039) ∨ (65056 ≤ r ∧ r ≤ 65071))) (h4 : (4352 ≤ r ∧ r ≤ 4447) ∨ (11904 ≤ r ∧ r ≤ 12350) ∨ (12353 ≤ r ∧ r ≤ 42191) ∨ (44032 ≤ r ∧ r ≤ 55203) ∨ (63744 ≤ r ∧ r ≤ 64255) ∨ (65072 ≤ r ∧ r ≤ 65135) ∨ (65280 ≤ r ∧ r ≤ 65376) ∨ (65504 ≤ r ∧ r ≤ 65510) ∨ (127744 ≤ r ∧ r ≤ 128591) ∨ (129280 ≤ r ∧ r ≤ 129535) ∨ (131072 ≤ r ∧ r ≤ 262141)) : wOf r = 2 := by
  unfold wOf
  rw [if_neg (not_no r h h1 h2), if_neg (mt (inB_marks r).1 h3), if_pos ((inB_wides r).2 h4)]
theorem wOf_one (r : Int) (h : isSc r = true) (h1 : 32 ≤ r) (h2 : ¬ (127 ≤ r ∧ r ≤ 159)) (h3 : ¬ ((768 ≤ r ∧ r ≤ 879) ∨ (8203 ≤ r ∧ r ≤ 8207) ∨ (8400 ≤ r ∧ r ≤ 8447) ∨ (65024 ≤ r ∧ r ≤ 65039) ∨ (65056 ≤ r ∧ r ≤ 65071))) (h4 : ¬ ((4352 ≤ r ∧ r ≤ 4447) ∨ (11904 ≤ r ∧ r ≤ 12350) ∨ (12353 ≤ r ∧ r ≤ 42191) ∨ (44032 ≤ r ∧ r ≤ 55203) ∨ (63744 ≤ r ∧ r ≤ 64255) ∨ (65072 ≤ r ∧ r ≤ 65135) ∨ (65280 ≤ r ∧ r ≤ 65376) ∨ (65504 ≤ r ∧ r ≤ 65510) ∨ (127744 ≤ r ∧ r ≤ 128591) ∨ (129280 ≤ r ∧ r ≤ 129535) ∨ (131072 ≤ r ∧ r ≤ 262141))) : wOf r = 1 := by
  unfold wOf
  rw [if_neg (not_no r h h1 h2), if_neg (mt (inB_marks r).1 h3), if_neg (mt (inB_wides r).1 h4)]
theorem look_in (r f t w : Int) (l : List (Int × Int × Int)) (h : f ≤ r ∧ r ≤ t) : look r ((f, t, w) :: l) = w := if_pos h
theorem look_out (r f t w : Int) (l : List (Int × Int × Int)) (h : ¬ (f ≤ r ∧ r ≤ t)) : look r ((f, t, w) :: l) = look r l := if_neg h
set_option maxHeartbeats 4000000 in
theorem look_wOf (r : Int) (h : isSc r = true) : look r spans = wOf r := by
  have hs : 0 ≤ r ∧ r ≤ 1114111 ∧ (r < 55296 ∨ 57343 < r) := by simpa [isSc] using h
  unfold spans
  by_cases c0 : 0 ≤ r ∧ r ≤ 31
  · rw [look_in r _ _ _ _ c0]; exact (wOf_no r (by omega)).symm
  rw [look_out r _ _ _ _ c0]
  by_cases c1 : 127 ≤ r ∧ r ≤ 159
  · rw [look_in r _ _ _ _ c1]; exact (wOf_no r (by omega)).symm
  rw [look_out r _ _ _ _ c1]
  by_cases c2 : 768 ≤ r ∧ r ≤ 879
  · rw [look_in r _ _ _ _ c2]; exact (wOf_mark r h (by omega) (by omega) (by omega)).symm
  rw [look_out r _ _ _ _ c2]
  by_cases c3 : 8203 ≤ r ∧ r ≤ 8207
  · rw [look_in r _ _ _ _ c3]; exact (wOf_mark r h (by omega) (by omega) (by omega)).symm
  rw [look_out r _ _ _ _ c3]
  by_cases c4 : 8400 ≤ r ∧ r ≤ 8447
  · rw [look_in r _ _ _ _ c4]; exact (wOf_mark r h (by omega) (by omega) (by omega)).symm
  rw [look_out r _ _ _ _ c4]
  by_cases c5 : 65024 ≤ r ∧ r ≤ 65039
  · rw [look_in r _ _ _ _ c5]; exact (wOf_mark r h (by omega) (by omega) (by omega)).symm
  rw [look_out r _ _ _ _ c5]
  by_cases c6 : 65056 ≤ r ∧ r ≤ 65071
  · rw [look_in r _ _ _ _ c6]; exact (wOf_mark r h (by omega) (by omega) (by omega)).symm
  rw [look_out r _ _ _ _ c6]
  by_cases c7 : 4352 ≤ r ∧ r ≤ 4447
  · rw [look_in r _ _ _ _ c7]; exact (wOf_wide r h (by omega) (by omega) (by omega) (by omega)).symm
  rw [look_out r _ _ _ _ c7]
  by_cases c8 : 11904 ≤ r ∧ r ≤ 12350
  · rw [look_in r _ _ _ _ c8]; exact (wOf_wide r h (by omega) (by omega) (by omega) (by omega)).symm
  rw [look_out r _ _ _ _ c8]
  by_cases c9 : 12353 ≤ r ∧ r ≤ 42191
  · rw [look_in r _ _ _ _ c9]; exact (wOf_wide r h (by omega) (by omega) (by omega) (by omega)).symm
  rw [look_out r _ _ _ _ c9]
  by_cases c10 : 44032 ≤ r ∧ r ≤ 55203
  · rw [look_in r _ _ _ _ c10]; exact (wOf_wide r h (by omega) (by omega) (by omega) (by omega)).symm
  rw [look_out r _ _ _ _ c10]
  by_cases c11 : 63744 ≤ r ∧ r ≤ 64255
  · rw [look_in r _ _ _ _ c11]; exact (wOf_wide r h (by omega) (by omega) (by omega) (by omega)).symm
  rw [look_out r _ _ _ _ c11]
  by_cases c12 : 65072 ≤ r ∧ r ≤ 65135
  · rw [look_in r _ _ _ _ c12]; exact (wOf_wide r h (by omega) (by omega) (by omega) (by omega)).symm
  rw [look_out r _ _ _ _ c12]
  by_cases c13 : 65280 ≤ r ∧ r ≤ 65376
  · rw [look_in r _ _ _ _ c13]; exact (wOf_wide r h (by omega) (by omega) (by omega) (by omega)).symm
  rw [look_out r _ _ _ _ c13]
  by_cases c14 : 65504 ≤ r ∧ r ≤ 65510
  · rw [look_in r _ _ _ _ c14]; exact (wOf_wide r h (by omega) (by omega) (by omega) (by omega)).symm
  rw [look_out r _ _ _ _ c14]
  by_cases c15 : 127744 ≤ r ∧ r ≤ 128591
  · rw [look_in r _ _ _ _ c15]; exact (wOf_wide r h (by omega) (by omega) (by omega) (by omega)).symm
  rw [look_out r _ _ _ _ c15]
  by_cases c16 : 129280 ≤ r ∧ r ≤ 129535
  · rw [look_in r _ _ _ _ c16]; exact (wOf_wide r h (by omega) (by omega) (by omega) (by omega)).symm
  rw [look_out r _ _ _ _ c16]
  by_cases c17 : 131072 ≤ r ∧ r ≤ 262141
  · rw [look_in r _ _ _ _ c17]; exact (wOf_wide r h (by omega) (by omega) (by omega) (by omega)).symm
  rw [look_out r _ _ _ _ c17]
  exact (wOf_one r h (by omega) (by omega) (by omega) (by omega)).symm

/-- A span as cells. -/
def cellsOf3 (s : Int × Int × Int) : List Value := [.int .i32 s.1, .int .i32 s.2.1, .int .i64 s.2.2]
def spanCells : List Value := spans.flatMap cellsOf3
theorem spanCells_len : spanCells.length = 54 := by decide +kernel
/-- The program's table lies where it lies. -/
def Spans (w : World) : Prop := w.rangeAt 0 0 spanCells
theorem Spans.size {w : World} (h : Spans w) : 0 < w.heap.size := block_lt_of_cell (h 0 (.int .i32 0) rfl)
theorem Spans.keep {w w' : World} (h : Spans w) (hk : ∀ p : Addr, p.block < w.heap.size → w'.cell? p = w.cell? p) : Spans w' := fun j v hv => (hk _ (block_lt_of_cell (h j v hv))).trans (h j v hv)
theorem Spans.below {w w' : World} (h : Spans w) (hb : Below w.heap.size w w') : Spans w' := h.keep fun _ hp => hb.cell hp
theorem Spans.alloc {w : World} (h : Spans w) (o : Obj) : Spans (w.alloc o) := h.keep fun p hp => World.cell?_alloc_lt w o p hp
theorem Spans.drewN {w : World} (h : Spans w) (n : Nat) : Spans (w.drewN n) := h
theorem Spans.drew {w : World} (h : Spans w) : Spans w.drew := h

def tabArr : Array Value := spanCells.toArray
set_option maxRecDepth 100000 in
theorem tab_index (w : World) (k : Nat) (hk : k < 18) : ∃ f t d : Int, spans[k]? = some (f, t, d) ∧ (Instr.index 220 (.agg tabArr) (.int .i64 (k : Int))).run Tryz.prog w = .ok (.agg #[.int .i32 f, .int .i32 t, .int .i64 d]) w := by
  have : k = 0 ∨ k = 1 ∨ k = 2 ∨ k = 3 ∨ k = 4 ∨ k = 5 ∨ k = 6 ∨ k = 7 ∨ k = 8 ∨ k = 9 ∨ k = 10 ∨ k = 11 ∨ k = 12 ∨ k = 13 ∨ k = 14 ∨ k = 15 ∨ k = 16 ∨ k = 17 := by omega
  rcases this with rfl | rfl | rfl | rfl | rfl | rfl | rfl | rfl | rfl | rfl | rfl | rfl | rfl | rfl | rfl | rfl | rfl | rfl
  all_goals exact ⟨_, _, _, rfl, by kernel_rfl⟩

set_option maxHeartbeats 400000 in
theorem scalar_any (r : Int) (w : World) : Calls Tryz.prog 121 #[.int .i32 r] w fun e w' => e = .returned (.bool (isSc r)) ∧ w = w' := by
  have key : (r < 0 ∧ r < 55296 ∧ isSc r = false) ∨ (0 ≤ r ∧ 1114111 < r ∧ 55296 ≤ r ∧ 57343 < r ∧ isSc r = false) ∨ (0 ≤ r ∧ r ≤ 1114111 ∧ r < 55296 ∧ isSc r = true) ∨ (0 ≤ r ∧ r ≤ 1114111 ∧ 55296 ≤ r ∧ r ≤ 57343 ∧ isSc r = false) ∨ (0 ≤ r ∧ r ≤ 1114111 ∧ 55296 ≤ r ∧ 57343 < r ∧ isSc r = true) := by
    unfold isSc; simp only [decide_eq_true_iff, decide_eq_false_iff_not]; omega
  rcases key with ⟨h1, h2, h⟩ | ⟨h1, h2, h3, h4, h⟩ | ⟨h1, h2, h3, h⟩ | ⟨h1, h2, h3, h4, h⟩ | ⟨h1, h2, h3, h4, h⟩
  all_goals
    have H := hide h
    clear h
    go_enter Tryz.func121, Tryz.ntmps121
    go_wp2
    go_ret
    exact ⟨ret_bool (by first | exact H.out.symm | (rw [H.out]; simp; omega)), rfl⟩
end Go.Proofs.YtkijclgbpbhglaaGreatDoor

namespace Go.Proofs.YtkijclgbpbhglaaGreatDoor
set_option maxRecDepth 100000
open Go.ChangeShapes Go.WideShapes Go.ChangeAt Go.RowKit
set_option linter.unusedVariables false

theorem tab_at (k : Nat) (hk : k < 18) : ∃ f t d : Int, spans[k]? = some (f, t, d) ∧ ∀ w, (Instr.index 220 (.agg spanCells.toArray) (.int .i64 (k : Int))).run Tryz.prog w = .ok (.agg #[.int .i32 f, .int .i32 t, .int .i64 d]) w := by
  have e : k < spans.length := hk
  refine ⟨spans[k].1, spans[k].2.1, spans[k].2.2, List.getElem?_eq_getElem e, fun w => ?_⟩
  obtain ⟨f, t, d, h1, h2⟩ := tab_index w k hk
  rw [List.getElem?_eq_getElem e] at h1
  rw [Option.some.inj h1]
  exact h2
theorem wOf_nsc (r : Int) (h : isSc r = false) : wOf r = -1 := by
  unfold wOf; rw [if_pos]; exact .inr (.inr h)

theorem exec_tab (w : World) (hS : Spans w) (ρ : Operand → Value) (o : Oper) (ho : o.op = .load 220 (.global 0)) (hρ : ρ (.global 0) = .pointer (some ⟨0, 0, none⟩)) :
    (execOp ρ o).run Tryz.prog w = .ok (.value (.agg spanCells.toArray)) w := by
  unfold execOp
  simp only [ho, hρ, Instr.loadAt, Instr.sureAddr, Sem.run_bind, Sem.run_pure, Result.andThen_ok, run_loadVar_mid w 0 0 220 spanCells _ hS Tryz.underlying220 rfl (by rw [spanCells_len]; exact info220)]

set_option maxHeartbeats 1000000 in
theorem of_any (r : Int) (w : World) (hS : Spans w) : Calls Tryz.prog 143 #[.int .i32 r] w (Num .i64 (wOf r) w) := by
  by_cases hsc : isSc r = true
  · have HL := hide (look_wOf r hsc)
    go_enter Tryz.func143, Tryz.ntmps143
    go_wp2_with (first | (go_at_call 121; refine (scalar_any _ _).mono ?_; rintro e w' ⟨rfl, rfl⟩) | (with_reducible refine wpList_val (o := ⟨some 8, _, _, _, _, _⟩) rfl (v := .agg spanCells.toArray) ?_ ?_))
    · exact exec_tab w hS _ _ rfl rfl
    go_wp2
    clear hsc
    go_loopw [4, 9] (fun s i wr => ∃ k : Nat, k ≤ 18 ∧ i = .int .i64 k ∧ look r (spans.drop k) = wOf r ∧ Below w.heap.size w wr) (fun _ i _ => 18 - (intOf i).toNat)
    case atStart => exact ⟨0, Nat.zero_le _, rfl, HL.out, Below.refl _ _⟩
    case round =>
      obtain ⟨k, hk, rfl, hl, hbel⟩ := hrel
      have HK := hide hl
      clear hl
      by_cases hlt : k < 18
      · obtain ⟨f, t, d, he, hrun⟩ := tab_at k hlt
        have HD := hide (look_drop r k hlt f t d he)
        clear he
        by_cases c1 : f ≤ r
        · by_cases c2 : r ≤ t
          · have e : d = wOf r := by rw [← HK.out, HD.out, if_pos ⟨c1, c2⟩]
            have E := hide e
            clear e
            go_wp2
            go_ret
            exact ⟨ret_int E.out, hbel.alloc hbel.size _⟩
          · have HN : Hid (look r (spans.drop (k + 1)) = wOf r) := by unfold Hid; rw [← HK.out, HD.out, if_neg (fun h => c2 h.2)]
            go_wp2
            go_roundw
            case rel => exact ⟨k + 1, by omega, by go_num, HN.out, hbel.alloc hbel.size _⟩
            case measure => simp [intOf]; omega
        · have HN : Hid (look r (spans.drop (k + 1)) = wOf r) := by unfold Hid; rw [← HK.out, HD.out, if_neg (fun h => c1 h.1)]
          go_wp2
          go_roundw
          case rel => exact ⟨k + 1, by omega, by go_num, HN.out, hbel.alloc hbel.size _⟩
          case measure => simp [intOf]; omega
      · have e : wOf r = 1 := by rw [← HK.out, List.drop_eq_nil_of_le (by show spans.length ≤ k; have : spans.length = 18 := rfl; omega)]; rfl
        have E := hide e
        clear e
        go_wp2
        go_ret
        exact ⟨ret_int E.out.symm, hbel⟩
  · have hf : isSc r = false := by simpa using hsc
    have HW := hide (wOf_nsc r hf)
    clear hsc
    go_enter Tryz.func143, Tryz.ntmps143
    go_wp2_with (go_at_call 121; refine (scalar_any _ _).mono ?_; rintro e w' ⟨rfl, rfl⟩)
    go_ret
    exact ⟨ret_int HW.out.symm, Below.refl _ _⟩

/-! ### whether it is 2, 0, 1; without those that take no part -/
set_option maxHeartbeats 400000 in
set_option maxHeartbeats 400000 in
theorem mark_any (r : Int) (w : World) (hS : Spans w) : Calls Tryz.prog 94 #[.int .i32 r] w (Said (wOf r == 0) w) := by
  go_enter Tryz.func94, Tryz.ntmps94
  go_wp2_with fail
  refine (of_any r w hS).mono ?_
  rintro e w1 ⟨rfl, hb⟩
  go_wp2
  go_ret
  exact ⟨rfl, hb⟩
end Go.Proofs.YtkijclgbpbhglaaGreatDoor

namespace Go.Proofs.YtkijclgbpbhglaaGreatDoor
set_option maxRecDepth 100000
open Go.ChangeShapes Go.WideShapes Go.ChangeAt Go.RowKit
set_option linter.unusedVariables false

theorem ofC_1 (r : Int) (p : Pn) (h : wOf r = 1) : ofC r p = (⟨r, 0, 0, 1, p⟩, true) := by unfold ofC; rw [if_pos h]
theorem ofC_2 (r : Int) (p : Pn) (h : wOf r = 2) : ofC r p = (⟨r, 0, 0, 2, p⟩, true) := by unfold ofC; rw [if_neg (by omega), if_pos h]
theorem ofC_no (r : Int) (p : Pn) (h : wOf r < 1) : ofC r p = (zeroC, false) := by unfold ofC; rw [if_neg (by omega), if_neg (by omega)]
set_option maxHeartbeats 1000000 in
theorem cof_any (r : Int) (f g b : Nat) (w : World) (hS : Spans w) : Calls Tryz.prog 96 #[.int .i32 r, .agg #[.int .u8 (f : Int), .int .u8 (g : Int), .int .u8 (b : Int)]] w (Celled2 .i32 (ofC r ⟨f, g, b⟩) w) := by
  have hS2 := (hS.alloc (.cells #[.int .u8 (f : Int), .int .u8 (g : Int), .int .u8 (b : Int)] 65)).alloc (.cells #[.int .i32 0, .int .i32 0, .int .i32 0, .int .u8 (0 : Int), .int .u8 (0 : Int), .int .u8 (0 : Int), .int .u8 (0 : Int)] 73)
  have HS := hide hS2
  clear hS2 hS
  rcases wOf_range r with h | h | h | h
  · have E := hide (ofC_no r ⟨f, g, b⟩ (by omega))
    have HW := hide h
    clear h
    go_enter Tryz.func96, Tryz.ntmps96
    go_wp2_with fail
    refine (of_any r _ HS.out).mono ?_
    rintro e w1 ⟨rfl, hb1⟩
    rw [HW.out]
    obtain ⟨hc, hz⟩ := bcell hb1
    have hb := (two_new w 65 73 [.int .u8 (f : Int), .int .u8 (g : Int), .int .u8 (b : Int)] [.int .i32 0, .int .i32 0, .int .i32 0, .int .u8 (0 : Int), .int .u8 (0 : Int), .int .u8 (0 : Int), .int .u8 (0 : Int)]).trans (hb1.mono (by simp; omega))
    have HV := hide ((whole_snd w (.cells #[.int .u8 (f : Int), .int .u8 (g : Int), .int .u8 (b : Int)] 65) 73 [.int .i32 0, .int .i32 0, .int .i32 0, .int .u8 (0 : Int), .int .u8 (0 : Int), .int .u8 (0 : Int), .int .u8 (0 : Int)]).later hb1)
    go_wp2
    exact ret72 Tryz.results96 (.inl rfl) rfl rfl rfl (put7 HV.out _ _ _ _ _ _ _) ⟨by rw [E.out]; rfl, below_put7 hb (Nat.le_succ _) _ _ _ _ _ _ _⟩
  · have E := hide (ofC_no r ⟨f, g, b⟩ (by omega))
    have HW := hide h
    clear h
    go_enter Tryz.func96, Tryz.ntmps96
    go_wp2_with fail
    refine (of_any r _ HS.out).mono ?_
    rintro e w1 ⟨rfl, hb1⟩
    rw [HW.out]
    obtain ⟨hc, hz⟩ := bcell hb1
    have hb := (two_new w 65 73 [.int .u8 (f : Int), .int .u8 (g : Int), .int .u8 (b : Int)] [.int .i32 0, .int .i32 0, .int .i32 0, .int .u8 (0 : Int), .int .u8 (0 : Int), .int .u8 (0 : Int), .int .u8 (0 : Int)]).trans (hb1.mono (by simp; omega))
    have HV := hide ((whole_snd w (.cells #[.int .u8 (f : Int), .int .u8 (g : Int), .int .u8 (b : Int)] 65) 73 [.int .i32 0, .int .i32 0, .int .i32 0, .int .u8 (0 : Int), .int .u8 (0 : Int), .int .u8 (0 : Int), .int .u8 (0 : Int)]).later hb1)
    go_wp2
    exact ret72 Tryz.results96 (.inl rfl) rfl rfl rfl (put7 HV.out _ _ _ _ _ _ _) ⟨by rw [E.out]; rfl, below_put7 hb (Nat.le_succ _) _ _ _ _ _ _ _⟩
  · have E := hide (ofC_1 r ⟨f, g, b⟩ h)
    have HW := hide h
    clear h
    go_enter Tryz.func96, Tryz.ntmps96
    go_wp2_with fail
    refine (of_any r _ HS.out).mono ?_
    rintro e w1 ⟨rfl, hb1⟩
    rw [HW.out]
    obtain ⟨hc, hz⟩ := bcell hb1
    have hb := (two_new w 65 73 [.int .u8 (f : Int), .int .u8 (g : Int), .int .u8 (b : Int)] [.int .i32 0, .int .i32 0, .int .i32 0, .int .u8 (0 : Int), .int .u8 (0 : Int), .int .u8 (0 : Int), .int .u8 (0 : Int)]).trans (hb1.mono (by simp; omega))
    have HV := hide ((whole_snd w (.cells #[.int .u8 (f : Int), .int .u8 (g : Int), .int .u8 (b : Int)] 65) 73 [.int .i32 0, .int .i32 0, .int .i32 0, .int .u8 (0 : Int), .int .u8 (0 : Int), .int .u8 (0 : Int), .int .u8 (0 : Int)]).later hb1)
    go_wp2
    exact ret72 Tryz.results96 (.inl rfl) rfl rfl rfl (put7 HV.out _ _ _ _ _ _ _) ⟨by rw [E.out]; rfl, below_put7 hb (Nat.le_succ _) _ _ _ _ _ _ _⟩
  · have E := hide (ofC_2 r ⟨f, g, b⟩ h)
    have HW := hide h
    clear h
    go_enter Tryz.func96, Tryz.ntmps96
    go_wp2_with fail
    refine (of_any r _ HS.out).mono ?_
    rintro e w1 ⟨rfl, hb1⟩
    rw [HW.out]
    obtain ⟨hc, hz⟩ := bcell hb1
    have hb := (two_new w 65 73 [.int .u8 (f : Int), .int .u8 (g : Int), .int .u8 (b : Int)] [.int .i32 0, .int .i32 0, .int .i32 0, .int .u8 (0 : Int), .int .u8 (0 : Int), .int .u8 (0 : Int), .int .u8 (0 : Int)]).trans (hb1.mono (by simp; omega))
    have HV := hide ((whole_snd w (.cells #[.int .u8 (f : Int), .int .u8 (g : Int), .int .u8 (b : Int)] 65) 73 [.int .i32 0, .int .i32 0, .int .i32 0, .int .u8 (0 : Int), .int .u8 (0 : Int), .int .u8 (0 : Int), .int .u8 (0 : Int)]).later hb1)
    go_wp2
    exact ret72 Tryz.results96 (.inl rfl) rfl rfl rfl (put7 HV.out _ _ _ _ _ _ _) ⟨by rw [E.out]; rfl, below_put7 hb (Nat.le_succ _) _ _ _ _ _ _ _⟩
end Go.Proofs.YtkijclgbpbhglaaGreatDoor

namespace Go.Proofs.YtkijclgbpbhglaaGreatDoor
set_option maxRecDepth 100000
open Go.ChangeShapes Go.WideShapes Go.ChangeAt Go.RowKit
set_option linter.unusedVariables false

/-! ### a mark more -/
theorem cells7 {w : World} {q : Nat} {t : TypeId} {x0 x1 x2 x3 x4 x5 x6 : Value} (h : Whole w q t [x0, x1, x2, x3, x4, x5, x6]) :
    w.cell? ⟨q, 0, none⟩ = some x0 ∧ w.cell? ⟨q, 1, none⟩ = some x1 ∧ w.cell? ⟨q, 2, none⟩ = some x2 ∧ w.cell? ⟨q, 3, none⟩ = some x3 ∧ w.cell? ⟨q, 4, none⟩ = some x4 ∧ w.cell? ⟨q, 5, none⟩ = some x5 ∧ w.cell? ⟨q, 6, none⟩ = some x6 ∧ ∀ i, w.frozen? ⟨q, i, none⟩ = false :=
  ⟨h.cell 0, h.cell 1, h.cell 2, h.cell 3, h.cell 4, h.cell 5, h.cell 6, h.frozen⟩
theorem whole_put {w : World} {q o : Nat} {t : TypeId} {l : List Value} {r : Nat} (h : Whole w r t l) (hq : r ≠ q) (x : Value) : Whole (w.setCell ⟨q, o, none⟩ x) r t l := by
  unfold Whole
  rw [Below.heap_setCell _ _ _ _ hq]
  exact h
theorem idx0 (m n : Value) (w : World) : (Instr.index 71 (.agg #[m, n]) (.int .i64 0)).run Tryz.prog w = .ok m w := by kernel_rfl
theorem idx1 (m n : Value) (w : World) : (Instr.index 71 (.agg #[m, n]) (.int .i64 1)).run Tryz.prog w = .ok n w := by kernel_rfl
theorem markC_rune (c : Cel) (r : Int) (h : ¬ wOf r = 0) : markC c r = (c, false) := by unfold markC; rw [if_neg (fun q => h q.1)]
theorem markC_half (c : Cel) (r : Int) (h : bearsC c = false) : markC c r = (c, false) := by unfold markC; rw [if_neg (fun q => by rw [h] at q; cases q.2)]
theorem markC_fst (c : Cel) (r : Int) (h : wOf r = 0) (hb : bearsC c = true) (hm : c.m = 0) : markC c r = ({ c with m := r }, true) := by unfold markC; rw [if_pos ⟨h, hb⟩, if_pos hm]
theorem markC_snd (c : Cel) (r : Int) (h : wOf r = 0) (hb : bearsC c = true) (hm : ¬ c.m = 0) (hn : c.n = 0) : markC c r = ({ c with n := r }, true) := by unfold markC; rw [if_pos ⟨h, hb⟩, if_neg hm, if_pos hn]
theorem markC_full (c : Cel) (r : Int) (h : wOf r = 0) (hb : bearsC c = true) (hm : ¬ c.m = 0) (hn : ¬ c.n = 0) : markC c r = (c, false) := by unfold markC; rw [if_pos ⟨h, hb⟩, if_neg hm, if_neg hn]
set_option maxHeartbeats 2000000 in
theorem cmark_any (r m n : Int) (d f g b : Nat) (x : Int) (w : World) (hS : Spans w) : Calls Tryz.prog 209 #[.agg #[.int .i32 r, .int .i32 m, .int .i32 n, .int .u8 (d : Int), .int .u8 (f : Int), .int .u8 (g : Int), .int .u8 (b : Int)], .int .i32 x] w (Celled2 .i32 (markC ⟨r, m, n, d, ⟨f, g, b⟩⟩ x) w) := by
  obtain ⟨W0, hW0⟩ : ∃ W0, (w.alloc (.cells #[.int .i32 r, .int .i32 m, .int .i32 n, .int .u8 (d : Int), .int .u8 (f : Int), .int .u8 (g : Int), .int .u8 (b : Int)] 73)).alloc (.cells #[.int .i32 0, .int .i32 0, .int .i32 0, .int .u8 (0 : Int), .int .u8 (0 : Int), .int .u8 (0 : Int), .int .u8 (0 : Int)] 73) = W0 := ⟨_, rfl⟩
  have HS : Hid (Spans W0) := by unfold Hid; rw [← hW0]; exact (hS.alloc _).alloc _
  have HB : Hid (Below w.heap.size w W0) := by unfold Hid; rw [← hW0]; exact two_new w _ _ [.int .i32 r, .int .i32 m, .int .i32 n, .int .u8 (d : Int), .int .u8 (f : Int), .int .u8 (g : Int), .int .u8 (b : Int)] [.int .i32 0, .int .i32 0, .int .i32 0, .int .u8 (0 : Int), .int .u8 (0 : Int), .int .u8 (0 : Int), .int .u8 (0 : Int)]
  have HC : Hid (Whole W0 w.heap.size 73 [.int .i32 r, .int .i32 m, .int .i32 n, .int .u8 (d : Int), .int .u8 (f : Int), .int .u8 (g : Int), .int .u8 (b : Int)]) := by unfold Hid; rw [← hW0]; exact (Whole.new w 73 [.int .i32 r, .int .i32 m, .int .i32 n, .int .u8 (d : Int), .int .u8 (f : Int), .int .u8 (g : Int), .int .u8 (b : Int)]).alloc _
  have HR : Hid (Whole W0 (w.heap.size + 1) 73 [.int .i32 0, .int .i32 0, .int .i32 0, .int .u8 (0 : Int), .int .u8 (0 : Int), .int .u8 (0 : Int), .int .u8 (0 : Int)]) := by unfold Hid; rw [← hW0]; exact whole_snd w _ 73 [.int .i32 0, .int .i32 0, .int .i32 0, .int .u8 (0 : Int), .int .u8 (0 : Int), .int .u8 (0 : Int), .int .u8 (0 : Int)]
  have HW0 := hide hW0
  clear hS hW0
  by_cases h0 : wOf x = 0
  case neg =>
    have HX : Hid ((wOf x == 0) = false) := by unfold Hid; simpa using h0
    have E := hide (markC_rune ⟨r, m, n, d, ⟨f, g, b⟩⟩ x h0)
    clear h0
    go_enter Tryz.func209, Tryz.ntmps209
    go_wp2_with fail
    rw [HW0.out]
    refine (mark_any x _ HS.out).mono ?_
    rintro e w1 ⟨rfl, hb1⟩
    rw [HX.out]
    have HC1 := hide (HC.out.later hb1)
    have HR1 := hide (HR.out.later hb1)
    have HB1 := hide (HB.out.trans (hb1.mono HB.out.size))
    obtain ⟨c0, c1, c2, c3, c4, c5, c6, cz⟩ := cells7 HC1.out
    obtain ⟨d0, d1, d2, d3, d4, d5, d6, dz⟩ := cells7 HR1.out
    go_wp2
    exact ret72 Tryz.results209 (.inl rfl) rfl rfl rfl (put7 HR1.out _ _ _ _ _ _ _) ⟨by rw [E.out]; rfl, below_put7 HB1.out (Nat.le_succ _) _ _ _ _ _ _ _⟩
  case pos =>
    have HX : Hid ((wOf x == 0) = true) := by unfold Hid; simpa using h0
    cases hb0 : bearsC ⟨r, m, n, d, ⟨f, g, b⟩⟩
    case false =>
      have E := hide (markC_half ⟨r, m, n, d, ⟨f, g, b⟩⟩ x hb0)
      have HBR := hide hb0
      clear hb0 h0
      go_enter Tryz.func209, Tryz.ntmps209
      go_wp2_with fail
      rw [HW0.out]
      refine (mark_any x _ HS.out).mono ?_
      rintro e w1 ⟨rfl, hb1⟩
      rw [HX.out]
      have HC1 := hide (HC.out.later hb1)
      have HR1 := hide (HR.out.later hb1)
      have HB1 := hide (HB.out.trans (hb1.mono HB.out.size))
      obtain ⟨c0, c1, c2, c3, c4, c5, c6, cz⟩ := cells7 HC1.out
      go_wp2_with fail
      refine (bears_any r m n d f g b _).mono ?_
      rintro e w2 ⟨rfl, hb2⟩
      rw [HBR.out]
      have HC2 := hide (HC1.out.later hb2)
      have HR2 := hide (HR1.out.later hb2)
      have HB2 := hide (HB1.out.trans (hb2.mono HB1.out.size))
      clear c0 c1 c2 c3 c4 c5 c6 cz
      obtain ⟨c0, c1, c2, c3, c4, c5, c6, cz⟩ := cells7 HC2.out
      obtain ⟨d0, d1, d2, d3, d4, d5, d6, dz⟩ := cells7 HR2.out
      go_wp2
      exact ret72 Tryz.results209 (.inl rfl) rfl rfl rfl (put7 HR2.out _ _ _ _ _ _ _) ⟨by rw [E.out]; rfl, below_put7 HB2.out (Nat.le_succ _) _ _ _ _ _ _ _⟩
    case true =>
      have HX0 := hide h0
      have HBR := hide hb0
      clear hb0 h0
      go_enter Tryz.func209, Tryz.ntmps209
      go_wp2_with fail
      rw [HW0.out]
      refine (mark_any x _ HS.out).mono ?_
      rintro e w1 ⟨rfl, hb1⟩
      rw [HX.out]
      have HC1 := hide (HC.out.later hb1)
      have HR1 := hide (HR.out.later hb1)
      have HB1 := hide (HB.out.trans (hb1.mono HB.out.size))
      obtain ⟨c0, c1, c2, c3, c4, c5, c6, cz⟩ := cells7 HC1.out
      go_wp2_with fail
      refine (bears_any r m n d f g b _).mono ?_
      rintro e w2 ⟨rfl, hb2⟩
      rw [HBR.out]
      have HC2 := hide (HC1.out.later hb2)
      have HR2 := hide (HR1.out.later hb2)
      have HB2 := hide (HB1.out.trans (hb2.mono HB1.out.size))
      clear c0 c1 c2 c3 c4 c5 c6 cz
      obtain ⟨c0, c1, c2, c3, c4, c5, c6, cz⟩ := cells7 HC2.out
      obtain ⟨d0, d1, d2, d3, d4, d5, d6, dz⟩ := cells7 HR2.out
      go_wp2
      go_loopw [6, 7, 19] (fun _ _ i wr => (i = .int .i64 0 ∨ (i = .int .i64 1 ∧ Hid (¬ m = 0)) ∨ (i = .int .i64 2 ∧ Hid (¬ m = 0) ∧ Hid (¬ n = 0))) ∧ w2 = wr) (fun _ _ i _ => 2 - (intOf i).toNat)
      case atStart => exact ⟨.inl rfl, rfl⟩
      case round =>
        have i0 := idx0 (.int .i32 m) (.int .i32 n)
        have i1 := idx1 (.int .i32 m) (.int .i32 n)
        obtain ⟨hcase, rfl⟩ := hrel
        rcases hcase with rfl | ⟨rfl, H1⟩ | ⟨rfl, H1, H2⟩
        · by_cases hm : m = 0
          · have E := hide (markC_fst ⟨r, m, n, d, ⟨f, g, b⟩⟩ x HX0.out HBR.out hm)
            have hq : (m == 0) = true := by simpa using hm
            clear hm
            go_wp2
            exact ret72 Tryz.results209 (.inl rfl) rfl rfl rfl (put7 (whole_put HR2.out (Nat.succ_ne_self _) _) _ _ _ _ _ _ _) ⟨by rw [E.out]; rfl, below_put7 (HB2.out.setCell (p := ⟨w.heap.size, 1, none⟩) (Nat.le_refl _) _) (Nat.le_succ _) _ _ _ _ _ _ _⟩
          · have hq : (m == 0) = false := by simpa using hm
            have HM := hide hm
            clear hm
            go_wp2
            go_roundw
            case rel => exact ⟨.inr (.inl ⟨by go_num, HM⟩), by trivial⟩
            case measure => simp [intOf]
        · by_cases hn : n = 0
          · have E := hide (markC_snd ⟨r, m, n, d, ⟨f, g, b⟩⟩ x HX0.out HBR.out H1.out hn)
            have hq : (n == 0) = true := by simpa using hn
            clear hn
            go_wp2
            exact ret72 Tryz.results209 (.inl rfl) rfl rfl rfl (put7 (whole_put HR2.out (Nat.succ_ne_self _) _) _ _ _ _ _ _ _) ⟨by rw [E.out]; rfl, below_put7 (HB2.out.setCell (p := ⟨w.heap.size, 2, none⟩) (Nat.le_refl _) _) (Nat.le_succ _) _ _ _ _ _ _ _⟩
          · have hq : (n == 0) = false := by simpa using hn
            have HN := hide hn
            clear hn
            go_wp2
            go_roundw
            case rel => exact ⟨.inr (.inr ⟨by go_num, H1, HN⟩), by trivial⟩
            case measure => simp [intOf]
        · have E := hide (markC_full ⟨r, m, n, d, ⟨f, g, b⟩⟩ x HX0.out HBR.out H1.out H2.out)
          go_wp2
          exact ret72 Tryz.results209 (.inl rfl) rfl rfl rfl (put7 HR2.out _ _ _ _ _ _ _) ⟨by rw [E.out]; rfl, below_put7 HB2.out (Nat.le_succ _) _ _ _ _ _ _ _⟩
end Go.Proofs.YtkijclgbpbhglaaGreatDoor

namespace Go.Proofs.YtkijclgbpbhglaaGreatDoor
set_option maxRecDepth 100000
open Go.ChangeShapes Go.WideShapes Go.ChangeAt Go.RowKit
set_option linter.unusedVariables false

/-- Is a mark wrong, behind a place where one isn't (z)? -/
def wrongC (z : Bool) (x : Int) : Bool := if x = 0 then false else z || !(wOf x == 0)
theorem wrong_0 (z : Bool) (x : Int) (h : x = 0) : wrongC z x = false := by unfold wrongC; rw [if_pos h]
theorem wrong_n (z : Bool) (x : Int) (h : ¬ x = 0) : wrongC z x = (z || !(wOf x == 0)) := by unfold wrongC; rw [if_neg h]
theorem marks_wrong (m n : Int) : marksC m n = !(wrongC false m || wrongC (m == 0) n) := by
  unfold marksC wrongC
  by_cases h : m = 0
  · subst h
    by_cases h2 : n = 0
    · simp [h2]
    · simp [h2]
  · have e : (m == 0) = false := by simpa using h
    rw [if_neg h, if_neg h, e]
    by_cases h2 : n = 0
    · simp [h2]; rfl
    · simp [h2]; rfl
/-- What the closure leaves. -/
def WrongMark (q : Nat) (z : Bool) (x : Int) (w : World) (e : Ending) (w' : World) : Prop :=
  e = .returned (.bool (wrongC z x)) ∧ Whole w' q 4 [.bool (z || (x == 0))] ∧ Fr w.heap.size q w w'
set_option maxHeartbeats 1000000 in
theorem wrong_any (q : Nat) (z : Bool) (x : Int) (w : World) (hq : Whole w q 4 [.bool z]) (hS : Spans w) : Calls Tryz.prog 173 #[.int .i32 x, .pointer (some ⟨q, 0, none⟩)] w (WrongMark q z x w) := by
  have c0 : w.cell? ⟨q, 0, none⟩ = some (.bool z) := hq.cell 0
  have z0 := hq.frozen 0
  have HQ := hide hq
  have HS := hide hS
  clear hq hS
  by_cases h : x = 0
  · have E := hide (wrong_0 z x h)
    have e0 : (x == 0) = true := by simpa using h
    have E0 := hide e0
    clear h
    go_enter Tryz.func173, Tryz.ntmps173
    go_wp2
    go_ret
    exact ⟨ret_bool E.out.symm, by rw [E0.out, Bool.or_true]; exact HQ.out.put 0 _, Fr.put 0 _⟩
  · have E := hide (wrong_n z x h)
    have e0 : (x == 0) = false := by simpa using h
    have E0 := hide e0
    clear h
    cases z
    · go_enter Tryz.func173, Tryz.ntmps173
      go_wp2_with fail
      refine (mark_any x _ HS.out).mono ?_
      rintro e w1 ⟨rfl, hb⟩
      go_wp2
      go_ret
      exact ⟨ret_bool (by rw [E.out]; rfl), by rw [E0.out]; exact HQ.out.later hb, Fr.of_below hb⟩
    · go_enter Tryz.func173, Tryz.ntmps173
      go_wp2
      go_ret
      exact ⟨ret_bool (by rw [E.out]; rfl), by rw [E0.out]; exact HQ.out, Fr.refl⟩
theorem spans_ne {w : World} {g t : Nat} {x : Value} (hS : Spans w) (h : Whole w g t [x]) : 0 ≠ g := by
  rintro rfl
  have h1 := hS 1 (.int .i32 31) rfl
  rw [Nat.zero_add, h.cell 1] at h1
  cases h1
theorem Fr.spans {g : Nat} {w w' : World} (h : Fr w.heap.size g w w') (hS : Spans w) (hg : 0 ≠ g) : Spans w' := fun j v hv => by
  have := hS j v hv
  rw [← this]
  exact World.cell?_of_block (w := w) (h.block 0 hS.size hg)
theorem Fr.whole {g g2 : Nat} {w w' : World} {t : TypeId} {l : List Value} (h : Fr w.heap.size g w w') (hw : Whole w g2 t l) (hne : g2 ≠ g) : Whole w' g2 t l := (h.block g2 hw.lt hne).trans hw
/-- What the search leaves. -/
def FoundMark (q : Nat) (m n : Int) (w : World) (e : Ending) (w' : World) : Prop :=
  e = .returned (.int .i64 (if wrongC false m = true then 0 else if wrongC (m == 0) n = true then 1 else -1)) ∧ Fr w.heap.size q w w'
set_option maxHeartbeats 1000000 in
theorem indexf_any (q a : Nat) (m n : Int) (w : World) (hq : Whole w q 4 [.bool false]) (ha : Whole w a 71 [.int .i32 m, .int .i32 n]) (hne : a ≠ q) (hS : Spans w) :
    Calls Tryz.prog 192 #[.slice (some ⟨a, 0, none⟩) 2 2, .func (.func 173) #[] #[.pointer (some ⟨q, 0, none⟩)]] w (FoundMark q m n w) := by
  have hg0 := spans_ne hS hq
  have HQ := hide hq
  have HA := hide ha
  have HS := hide hS
  clear hq ha hS
  go_enter Tryz.func192, Tryz.ntmps192
  go_wp2
  go_loopw [5, 8] (fun _ i wr => ((i = .int .i64 0 ∧ Whole wr q 4 [.bool false]) ∨ (i = .int .i64 1 ∧ Hid (wrongC false m = false) ∧ Whole wr q 4 [.bool (m == 0)]) ∨ (i = .int .i64 2 ∧ Hid (wrongC false m = false) ∧ Hid (wrongC (m == 0) n = false))) ∧ Fr w.heap.size q w wr) (fun _ i _ => 2 - (intOf i).toNat)
  case atStart => exact ⟨.inl ⟨rfl, HQ.out⟩, Fr.refl⟩
  case round =>
    obtain ⟨hcase, hfr⟩ := hrel
    have HFR := hide hfr
    have HA2 := hide (hfr.whole HA.out hne)
    have HS2 := hide (hfr.spans HS.out hg0)
    clear hfr
    have a0 : wr.cell? ⟨a, 0, none⟩ = some (.int .i32 m) := HA2.out.cell 0
    have a1 : wr.cell? ⟨a, 1, none⟩ = some (.int .i32 n) := HA2.out.cell 1
    rcases hcase with ⟨rfl, hq⟩ | ⟨rfl, H1, hq⟩ | ⟨rfl, H1, H2⟩
    · have HC := hide (wrong_any q false m wr hq HS2.out)
      clear hq
      cases hw : wrongC false m
      · have HW := hide hw
        clear hw
        go_wp2_with fail
        refine HC.out.mono ?_
        rintro e w1 ⟨rfl, h2, h3⟩
        rw [HW.out]
        have H2 := hide h2
        have H3 : Hid (Fr w.heap.size q w w1) := HFR.out.trans (h3.less HFR.out.size)
        clear h2 h3
        go_wp2
        go_roundw
        case rel => exact ⟨.inr (.inl ⟨by go_num, by first | exact HW | exact hide trivial, by simpa using H2.out⟩), H3.out⟩
        case measure => simp [intOf]
      · have HW := hide hw
        clear hw
        go_wp2_with fail
        refine HC.out.mono ?_
        rintro e w1 ⟨rfl, h2, h3⟩
        rw [HW.out]
        go_wp2
        go_ret
        exact ⟨ret_int (by rw [HW.out]; rfl), HFR.out.trans (h3.less HFR.out.size)⟩
    · obtain ⟨z, hz⟩ : ∃ z, (m == 0) = z := ⟨_, rfl⟩
      have HZ := hide hz
      rw [hz] at hq
      have HC := hide (wrong_any q z n wr hq HS2.out)
      clear hq hz
      cases hw : wrongC z n
      · have HW := hide hw
        clear hw
        go_wp2_with fail
        refine HC.out.mono ?_
        rintro e w1 ⟨rfl, h2, h3⟩
        rw [HW.out]
        have H3 : Hid (Fr w.heap.size q w w1) := HFR.out.trans (h3.less HFR.out.size)
        clear h2 h3
        go_wp2
        go_roundw
        case rel => exact ⟨.inr (.inr ⟨by go_num, H1, by unfold Hid; rw [HZ.out]; exact HW.out⟩), H3.out⟩
        case measure => simp [intOf]
      · have HW := hide hw
        clear hw
        go_wp2_with fail
        refine HC.out.mono ?_
        rintro e w1 ⟨rfl, h2, h3⟩
        rw [HW.out]
        go_wp2
        go_ret
        exact ⟨ret_int (by rw [H1.out, HZ.out, HW.out]; rfl), HFR.out.trans (h3.less HFR.out.size)⟩
    · go_wp2
      go_ret
      exact ⟨ret_int (by rw [H1.out, H2.out]; rfl), HFR.out⟩
/-- .. -/
def HasWrong (q : Nat) (m n : Int) (w : World) (e : Ending) (w' : World) : Prop := e = .returned (.bool (!marksC m n)) ∧ Fr w.heap.size q w w'
set_option maxHeartbeats 1000000 in
theorem contains_any (q a : Nat) (m n : Int) (w : World) (hq : Whole w q 4 [.bool false]) (ha : Whole w a 71 [.int .i32 m, .int .i32 n]) (hne : a ≠ q) (hS : Spans w) :
    Calls Tryz.prog 174 #[.slice (some ⟨a, 0, none⟩) 2 2, .func (.func 173) #[] #[.pointer (some ⟨q, 0, none⟩)]] w (HasWrong q m n w) := by
  have HC := hide (indexf_any q a m n w hq ha hne hS)
  have HM := hide (marks_wrong m n)
  clear hq ha hS
  obtain ⟨x, hx⟩ : ∃ x, wrongC false m = x := ⟨_, rfl⟩
  obtain ⟨y, hy⟩ : ∃ y, wrongC (m == 0) n = y := ⟨_, rfl⟩
  have HX := hide hx
  have HY := hide hy
  clear hx hy
  cases x <;> cases y
  all_goals
    go_enter Tryz.func174, Tryz.ntmps174
    go_wp2_with fail
    refine HC.out.mono ?_
    rintro e w1 ⟨rfl, h3⟩
    rw [HX.out, HY.out]
    go_wp2
    go_ret
    exact ⟨ret_bool (by rw [HM.out, HX.out, HY.out]; rfl), h3⟩
set_option maxHeartbeats 1000000 in
theorem rmarks_any (m n : Int) (w : World) (hS : Spans w) : Calls Tryz.prog 144 #[.agg #[.int .i32 m, .int .i32 n]] w (Said (marksC m n) w) := by
  obtain ⟨W0, hW0⟩ : ∃ W0, (w.alloc (.cells #[.int .i32 m, .int .i32 n] 71)).alloc (.cells #[.bool false] 4) = W0 := ⟨_, rfl⟩
  have HS : Hid (Spans W0) := by unfold Hid; rw [← hW0]; exact (hS.alloc _).alloc _
  have HB : Hid (Below w.heap.size w W0) := by unfold Hid; rw [← hW0]; exact two_new w _ _ [.int .i32 m, .int .i32 n] [.bool false]
  have HA : Hid (Whole W0 w.heap.size 71 [.int .i32 m, .int .i32 n]) := by unfold Hid; rw [← hW0]; exact (Whole.new w 71 [.int .i32 m, .int .i32 n]).alloc _
  have HQ : Hid (Whole W0 (w.heap.size + 1) 4 [.bool false]) := by unfold Hid; rw [← hW0]; exact whole_snd w _ 4 [.bool false]
  have HZ : Hid (w.heap.size + 1 ≤ W0.heap.size) := by unfold Hid; rw [← hW0]; simp
  have HW0 := hide hW0
  clear hS hW0
  go_enter Tryz.func144, Tryz.ntmps144
  go_wp2_with fail
  rw [HW0.out]
  refine (contains_any (w.heap.size + 1) w.heap.size m n W0 HQ.out HA.out (by omega) HS.out).mono ?_
  rintro e w1 ⟨rfl, h3⟩
  go_wp2
  go_ret
  exact ⟨ret_bool (by simp), HB.out.trans (h3.below (by have := HZ.out; omega) (by omega))⟩
end Go.Proofs.YtkijclgbpbhglaaGreatDoor

namespace Go.Proofs.YtkijclgbpbhglaaGreatDoor
set_option maxRecDepth 100000
open Go.RowKit

/-- The operations by their numbers. -/
def pickOps (ops : Array Oper) : List Nat → List Oper
  | [] => []
  | i :: r => match ops[i]? with
    | some o => o :: pickOps ops r
    | none => []

/-- '(true, [i])': number i is taken early. '(false, l)': those of l come up alone, in this order. -/
def wpChain (P : Program) (ops : Array Oper) (Q : Exit → Act → World → Prop) : List (Bool × List Nat) → Act → World → Prop
  | [], a, w => Q .normal a w
  | (true, l) :: r, a, w => match pickOps ops l with
    | [o] => ∃ v, Yields P ops o v a ∧ wpChain P ops Q r (a.put o.dst v) w
    | _ => False
  | (false, l) :: r, a, w => ∀ K : Act → World → Prop, (∀ a w, wpChain P ops Q r a w → K a w) → wpList P ops (Exit.then K Q) (pickOps ops l) a w

def aloneOk (ops : Array Oper) : List Nat → Array Bool → Bool
  | [], _ => true
  | i :: r, listed => (Region.ready .any ops listed == [i]) && aloneOk ops r (listed.setIfInBounds i true)
def listAll : List Nat → Array Bool → Array Bool
  | [], listed => listed
  | i :: r, listed => listAll r (listed.setIfInBounds i true)
def chainOk (ops : Array Oper) : List (Bool × List Nat) → Array Bool → Bool
  | [], listed => (Region.ready .any ops listed).isEmpty
  | (true, l) :: r, listed => match l with
    | [i] => Region.free .any ops listed i && (Region.ready .any ops listed).contains i && chainOk ops r (listed.setIfInBounds i true)
    | _ => false
  | (false, l) :: r, listed => aloneOk ops l listed && chainOk ops r (listAll l listed)
def chainLen : List (Bool × List Nat) → Nat
  | [] => 0
  | (_, l) :: r => l.length + chainLen r

section
variable {P : Program} {ops : Array Oper} {Q : Exit → Act → World → Prop}

theorem upon_list {o : Oper} {a : Act} {K M N : Act → World → Prop} (hM : ∀ a w, M a w → K a w) (r : Result Next) (h : o.upon P a M (Exit.then N Q) r) : o.upon P a K Q r := by
  cases r with
  | ok n w' =>
    cases n <;> simp only [Oper.upon] at h ⊢
    case value => exact hM _ _ h
    case skip => exact hM _ _ h
    case defer => exact hM _ _ h
    case enter =>
      refine Calls.mono h fun e w'' he => ?_
      cases e with
      | returned => exact hM _ _ he
      | panicked => exact he
      | outgrown => exact he
    case row => exact Rows.mono h fun _ _ he => hM _ _ he
  | halt x w' => cases x <;> simp only [Oper.upon] at h ⊢ <;> exact h

/-- Those that come up alone. -/
theorem any_of_list (N : Act → World → Prop) (fuel : Nat) : ∀ (l : List Nat) (listed : Array Bool) (a : Act) (w : World), aloneOk ops l listed = true →
    (∀ a w, N a w → wpAny P .any ops Q fuel (listAll l listed) a w) → wpList P ops (Exit.then N Q) (pickOps ops l) a w → wpAny P .any ops Q (l.length + fuel) listed a w := by
  intro l
  induction l with
  | nil => intro listed a w _ hN h; simpa [listAll] using hN a w h
  | cons i r ih =>
    intro listed a w hok hN h
    simp only [aloneOk, Bool.and_eq_true, beq_iff_eq] at hok
    obtain ⟨hr, hok⟩ := hok
    have hlen : (i :: r).length + fuel = (r.length + fuel) + 1 := by simp; omega
    rw [hlen]
    refine wpAny_all hr (by simp) fun j hj => ?_
    obtain rfl : j = i := by simpa using hj
    have hmem : j ∈ Region.ready .any ops listed := by rw [hr]; simp
    obtain ⟨_, o, ho, _⟩ := mem_ready.1 hmem
    simp only [pickOps, ho] at h
    unfold wpOp
    simp only [ho]
    unfold wpList at h
    split at h
    · rename_i hw
      rw [if_pos hw]
      rcases h with h | ⟨h1, h2⟩
      · exact .inl (upon_list (fun a' w' h' => ih _ a' w' hok hN h') _ h)
      · exact .inr ⟨h1, h2⟩
    · rename_i hw
      rw [if_neg hw]
      exact ih _ _ _ hok hN h

theorem any_of_chain (hs : Region.noSelect ops = true) (hQ : ∀ c (d : Tmp) v a w, Q (.panic c) (Act.put a (some d) v) w → Q (.panic c) a w) :
    ∀ (l : List (Bool × List Nat)) (listed : Array Bool) (a : Act) (w : World), chainOk ops l listed = true → wpChain P ops Q l a w → wpAny P .any ops Q (chainLen l) listed a w := by
  intro l
  induction l with
  | nil =>
    intro listed a w hok h
    exact wpAny_done (by simpa [chainOk] using hok) h 0
  | cons x r ih =>
    obtain ⟨b, l⟩ := x
    intro listed a w hok h
    cases b with
    | true =>
      match l, hok, h with
      | [i], hok, h =>
        simp only [chainOk, Bool.and_eq_true] at hok
        obtain ⟨⟨hf, hr⟩, hok⟩ := hok
        have hmem : i ∈ Region.ready .any ops listed := by simpa using hr
        obtain ⟨_, o, ho, _⟩ := mem_ready.1 hmem
        simp only [wpChain, pickOps, ho] at h
        obtain ⟨v, hy, h⟩ := h
        have hlen : chainLen ((true, [i]) :: r) = chainLen r + 1 := by simp [chainLen]; omega
        rw [hlen]
        refine wpAny_take ho hs hf hr (fun c a w hh => ?_) hy (ih _ _ _ hok h)
        cases hd : o.dst with
        | none => rw [hd] at hh; exact hh
        | some d => rw [hd] at hh; exact hQ c d v a w hh
      | [], hok, _ => simp [chainOk] at hok
      | _ :: _ :: _, hok, _ => simp [chainOk] at hok
    | false =>
      simp only [chainOk, Bool.and_eq_true] at hok
      obtain ⟨h1, h2⟩ := hok
      exact any_of_list (wpChain P ops Q r) (chainLen r) l listed a w h1 (fun a w h' => ih _ a w h2 h') (h _ fun _ _ h' => h')

/-- A REGION THAT DRAWS ITS ORDER, in the order of the chain. -/
theorem wp_region_chain {id : Nat} {a : Act} {w : World} (l : List (Bool × List Nat)) (hm : P.follows .mixedOrders = true) (hs : Region.noSelect ops = true)
    (hok : (chainOk ops l (Array.replicate ops.size false) && (chainLen l == ops.size)) = true) (hQ : ∀ c (d : Tmp) v a w, Q (.panic c) (Act.put a (some d) v) w → Q (.panic c) a w)
    (h : wpChain P ops Q l a w.drew) : (Code.region id ops true).wp P Q a w := by
  simp only [Bool.and_eq_true, beq_iff_eq] at hok
  refine wp_region_any hm ?_
  rw [← hok.2]
  exact any_of_chain hs hQ l _ a _ (by rw [hok.2]; exact hok.1) h

theorem chain_alone {l : List Nat} {r : List (Bool × List Nat)} {os : List Oper} {a : Act} {w : World} (hos : pickOps ops l = os)
    (h : ∀ K : Act → World → Prop, Hid (∀ a w, wpChain P ops Q r a w → K a w) → wpList P ops (Exit.then K Q) os a w) : wpChain P ops Q ((false, l) :: r) a w := by
  subst hos
  exact fun K hK => h K hK
theorem chain_nil {a : Act} {w : World} (h : Q .normal a w) : wpChain P ops Q [] a w := h
theorem chain_take {l : List Nat} {r : List (Bool × List Nat)} {o : Oper} {v : Value} {a : Act} {w : World} (ho : pickOps ops l = [o]) (hy : Yields P ops o v a)
    (h : wpChain P ops Q r (a.put o.dst v) w) : wpChain P ops Q ((true, l) :: r) a w := by
  simp only [wpChain, ho]
  exact ⟨v, hy, h⟩
end
end Go.Proofs.YtkijclgbpbhglaaGreatDoor
