/-
  Contracts: what a grid is asked (the program's): a row that there is, how many, the cursor, a cell, a line.
-/
import Derived.Test.YtiifeniijcnahaaGreatDoorGMem
namespace Go.Proofs.YtiifeniijcnahaaGreatDoor
set_option maxRecDepth 100000
open Go.ChangeShapes Go.WideShapes Go.ChangeAt Go.RowKit
set_option linter.unusedVariables false

theorem GridAt.three {w : World} {G L M R C : Nat} {g : Gd} {cap : Nat} {ps : Nat → Nat} {room : List Cel} {more : List Value} (h : GridAt w G L M R C g cap ps room more) :
    w.cell? ⟨G, 0, none⟩ = some (.int .i64 (g.row : Int)) ∧ w.cell? ⟨G, 1, none⟩ = some (.int .i64 (g.col : Int)) ∧ w.cell? ⟨G, 2, none⟩ = some (.slice (some ⟨L, 0, none⟩) R cap) ∧ G < w.heap.size ∧ L < w.heap.size ∧ M < w.heap.size := ⟨h.top.cell 0, h.top.cell 1, h.top.cell 2, h.top.lt, h.lines.lt, h.piece.lt⟩
section
variable {w : World} {G L M R C : Nat} {g : Gd}
set_option maxHeartbeats 1000000 in
theorem has_any (h : Grd w G L M R C g) (r : Int) : Calls Tryz.prog 54 #[.pointer (some ⟨G, 0, none⟩), .int .i64 r] w fun e w' => e = .returned (.bool (decide (hasG R r))) ∧ w = w' := by
  obtain ⟨cap, ps, room, more, h⟩ := h
  obtain ⟨c0, c1, c2, lG, -, -⟩ := h.three
  clear h
  by_cases h0 : 0 ≤ r
  · by_cases h1 : r < (R : Int)
    · have HD : Hid (decide (hasG R r) = true) := by unfold Hid hasG; simp [h0, h1]
      go_enter Tryz.func54, Tryz.ntmps54
      go_wp2
      go_ret
      exact ⟨ret_bool HD.out.symm, rfl⟩
    · have HD : Hid (decide (hasG R r) = false) := by unfold Hid hasG; simp [h1]
      go_enter Tryz.func54, Tryz.ntmps54
      go_wp2
      go_ret
      exact ⟨ret_bool HD.out.symm, rfl⟩
  · have HD : Hid (decide (hasG R r) = false) := by unfold Hid hasG; simp [h0]
    go_enter Tryz.func54, Tryz.ntmps54
    go_wp2
    go_ret
    exact ⟨ret_bool HD.out.symm, rfl⟩
theorem has_nil (r : Int) (w : World) : Calls Tryz.prog 54 #[.pointer none, .int .i64 r] w fun e w' => e = .returned (.bool false) ∧ w = w' := by
  go_enter Tryz.func54, Tryz.ntmps54
  go_wp2
  go_ret
  exact ⟨rfl, rfl⟩
/-- May a grid have so many? -/
def sideB (n : Int) : Bool := decide (1 ≤ n ∧ n ≤ 512)
theorem side_any (n : Int) (w : World) : Calls Tryz.prog 28 #[.int .i64 n] w fun e w' => e = .returned (.bool (sideB n)) ∧ w = w' := by
  by_cases h0 : 1 ≤ n
  · by_cases h1 : n ≤ 512
    · have HD : Hid (sideB n = true) := by unfold Hid sideB; simp [h0, h1]
      go_enter Tryz.func28, Tryz.ntmps28
      go_wp2
      go_ret
      exact ⟨ret_bool HD.out.symm, rfl⟩
    · have HD : Hid (sideB n = false) := by unfold Hid sideB; simp [h1]
      go_enter Tryz.func28, Tryz.ntmps28
      go_wp2
      go_ret
      exact ⟨ret_bool HD.out.symm, rfl⟩
  · have HD : Hid (sideB n = false) := by unfold Hid sideB; simp [h0]
    go_enter Tryz.func28, Tryz.ntmps28
    go_wp2
    go_ret
    exact ⟨ret_bool HD.out.symm, rfl⟩
theorem rows_any (h : Grd w G L M R C g) : Calls Tryz.prog 24 #[.pointer (some ⟨G, 0, none⟩)] w fun e w' => e = .returned (.int .i64 (R : Int)) ∧ w = w' := by
  obtain ⟨cap, ps, room, more, h⟩ := h
  obtain ⟨c0, c1, c2, lG, -, -⟩ := h.three
  clear h
  go_enter Tryz.func24, Tryz.ntmps24
  go_wp2
  go_ret
  exact ⟨rfl, rfl⟩
theorem rows_nil (w : World) : Calls Tryz.prog 24 #[.pointer none] w fun e w' => e = .returned (.int .i64 0) ∧ w = w' := by
  go_enter Tryz.func24, Tryz.ntmps24
  go_wp2
  go_ret
  exact ⟨rfl, rfl⟩
theorem row_any (h : Grd w G L M R C g) : Calls Tryz.prog 57 #[.pointer (some ⟨G, 0, none⟩)] w fun e w' => e = .returned (.int .i64 (g.row : Int)) ∧ w = w' := by
  obtain ⟨c0, c1, lG⟩ := h.cursor
  clear h
  go_enter Tryz.func57, Tryz.ntmps57
  go_wp2
  go_ret
  exact ⟨rfl, rfl⟩
theorem row_nil (w : World) : Calls Tryz.prog 57 #[.pointer none] w fun e w' => e = .returned (.int .i64 0) ∧ w = w' := by
  go_enter Tryz.func57, Tryz.ntmps57
  go_wp2
  go_ret
  exact ⟨rfl, rfl⟩
theorem col_any (h : Grd w G L M R C g) : Calls Tryz.prog 58 #[.pointer (some ⟨G, 0, none⟩)] w fun e w' => e = .returned (.int .i64 (g.col : Int)) ∧ w = w' := by
  obtain ⟨c0, c1, lG⟩ := h.cursor
  clear h
  go_enter Tryz.func58, Tryz.ntmps58
  go_wp2
  go_ret
  exact ⟨rfl, rfl⟩
theorem col_nil (w : World) : Calls Tryz.prog 58 #[.pointer none] w fun e w' => e = .returned (.int .i64 0) ∧ w = w' := by
  go_enter Tryz.func58, Tryz.ntmps58
  go_wp2
  go_ret
  exact ⟨rfl, rfl⟩
theorem hasG_in {R : Nat} {r : Nat} (h : r < R) : decide (hasG R (r : Int)) = true := by unfold hasG; simp; omega
theorem hasG_0 {R : Nat} (h : 1 ≤ R) : decide (hasG R 0) = true := by unfold hasG; simp; omega
set_option maxHeartbeats 1000000 in
theorem cols_any (h : Grd w G L M R C g) (hR : 1 ≤ R) : Calls Tryz.prog 25 #[.pointer (some ⟨G, 0, none⟩)] w fun e w' => e = .returned (.int .i64 (C : Int)) ∧ w = w' := by
  have HG := hide h
  obtain ⟨cap, ps, room, more, h⟩ := h
  obtain ⟨c0, c1, c2, lG, lL, lM⟩ := h.three
  have c3 := h.row (i := 0) (by omega)
  clear h
  go_enter Tryz.func25, Tryz.ntmps25
  go_wp2_with fail
  refine (has_any HG.out 0).mono ?_
  rintro e w1 ⟨rfl, rfl⟩
  rw [hasG_0 hR]
  go_wp2
  go_ret
  exact ⟨rfl, rfl⟩
theorem cols_nil (w : World) : Calls Tryz.prog 25 #[.pointer none] w fun e w' => e = .returned (.int .i64 0) ∧ w = w' := by
  go_enter Tryz.func25, Tryz.ntmps25
  go_wp2_with fail
  refine (has_nil 0 w).mono ?_
  rintro e w1 ⟨rfl, rfl⟩
  go_wp2
  go_ret
  exact ⟨rfl, rfl⟩
theorem within_any (x : Int) (n : Nat) (hn : 1 ≤ n) (hl : n ≤ 512) (w : World) : Calls Tryz.prog 83 #[.int .i64 x, .int .i64 (n : Int)] w fun e w' => e = .returned (.int .i64 (nearN x n : Int)) ∧ w = w' := by
  obtain ⟨m, hm⟩ : ∃ m, nearN x n = m := ⟨_, rfl⟩
  have hm1 : min (max x 0) ((n : Int) - 1) = (m : Int) := by rw [← hm]; unfold nearN; omega
  have HM := hide hm
  clear hm
  go_enter Tryz.func83, Tryz.ntmps83
  go_wp2
  go_ret
  exact ⟨by rw [HM.out]; rfl, rfl⟩
/-- A copy of a line. -/
theorem clone_any (A : Option Addr) (n c : Nat) (cs : List Cel) (w : World) (h : Cels .i32 w A cs) (hn : cs.length = n) (hA : ∃ a, A = some a) (hl : n ≤ 1000000) : Calls Tryz.prog 55 #[.slice A n c] w (MadeC 40 .i32 w cs) := by
  have HC := hide (h.alloc (.cells #[] 40))
  have HN := hide hn
  obtain ⟨a, rfl⟩ := hA
  clear h hn
  have hq : ∀ w, (binOp .eql 41 (.slice (some a) n c) (.slice none 0 0)).run Tryz.prog w = .ok (.bool false) w := fun w => Lib.run_eql_slice_nil w 41 40 (some a) n c 0 0 Tryz.underlying41
  go_enter Tryz.func55, Tryz.ntmps55
  go_wp2_with (at_builtin; refine stopw ?_)
  unfold Hid
  refine wpList_catC elemL rfl _ _ rfl rfl rfl (OwnC.empty w 40 .i32) HC.out HN.out (fun q => by cases q) (by simp; omega) (by omega) ?_
  intro v' w1 hown
  simp only [List.nil_append] at hown
  have HV := hide hown
  clear hown
  go_wp2
  go_ret
  exact ⟨_, rfl, HV.out⟩
set_option maxHeartbeats 1000000 in
theorem gline_any (h : Grd w G L M R C g) (r : Int) (hr : hasG R r) (hC : C ≤ 1000000) : Calls Tryz.prog 17 #[.pointer (some ⟨G, 0, none⟩), .int .i64 r] w (MadeC 40 .i32 w (lAt g.ls r.toNat)) := by
  have HG := hide h
  obtain ⟨cap, ps, room, more, h⟩ := h
  obtain ⟨c0, c1, c2, lG, lL, lM⟩ := h.three
  obtain ⟨q, hq⟩ : ∃ q : Nat, r = (q : Int) := ⟨r.toNat, by unfold hasG at hr; omega⟩
  subst hq
  have hqR : q < R := by unfold hasG at hr; omega
  rw [Int.toNat_natCast]
  have c3 := h.row hqR
  have HC := hide (h.cels hqR)
  have HN := hide (h.lenAt hqR)
  clear h hr
  go_enter Tryz.func17, Tryz.ntmps17
  go_wp2_with fail
  refine (has_any HG.out q).mono ?_
  rintro e w1 ⟨rfl, rfl⟩
  rw [hasG_in hqR]
  go_wp2_with fail
  refine (clone_any _ C C _ w HC.out HN.out ⟨_, rfl⟩ hC).mono ?_
  rintro e w1 ⟨v, rfl, hown⟩
  have HV := hide hown
  clear hown c0 c1 c2 c3
  go_wp2
  go_ret
  exact ⟨_, rfl, HV.out⟩
theorem gline_no (h : Grd w G L M R C g) (r : Int) (hr : ¬ hasG R r) : Calls Tryz.prog 17 #[.pointer (some ⟨G, 0, none⟩), .int .i64 r] w fun e w' => e = .returned (.slice none 0 0) ∧ w = w' := by
  have HG := hide h
  have HD : Hid (decide (hasG R r) = false) := by unfold Hid; simp [hr]
  clear h hr
  go_enter Tryz.func17, Tryz.ntmps17
  go_wp2_with fail
  refine (has_any HG.out r).mono ?_
  rintro e w1 ⟨rfl, rfl⟩
  rw [HD.out]
  go_wp2
  go_ret
  exact ⟨rfl, rfl⟩
theorem gline_nil (r : Int) (w : World) : Calls Tryz.prog 17 #[.pointer none, .int .i64 r] w fun e w' => e = .returned (.slice none 0 0) ∧ w = w' := by
  go_enter Tryz.func17, Tryz.ntmps17
  go_wp2_with fail
  refine (has_nil r w).mono ?_
  rintro e w1 ⟨rfl, rfl⟩
  go_wp2
  go_ret
  exact ⟨rfl, rfl⟩
end
end Go.Proofs.YtiifeniijcnahaaGreatDoor
