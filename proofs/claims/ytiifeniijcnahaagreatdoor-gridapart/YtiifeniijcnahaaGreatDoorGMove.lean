/-
  Contract: the cursor is brought to a place (the program's).
-/
import Derived.Test.YtiifeniijcnahaaGreatDoorGBase
namespace Go.Proofs.YtiifeniijcnahaaGreatDoor
set_option maxRecDepth 100000
open Go.ChangeShapes Go.WideShapes Go.ChangeAt Go.RowKit
set_option linter.unusedVariables false

section
variable {w w' : World} {G L M R C : Nat} {g : Gd} {cap : Nat} {ps : Nat → Nat} {room : List Cel} {more : List Value}
theorem only2 {a b : Value} : Only G w ((w.setCell ⟨G, 0, none⟩ a).setCell ⟨G, 1, none⟩ b) := (Only.put _ _).trans (Only.put _ _)
theorem GridAt.cursor (h : GridAt w G L M R C g cap ps room more) (a b : Nat) : GridAt ((w.setCell ⟨G, 0, none⟩ (.int .i64 (a : Int))).setCell ⟨G, 1, none⟩ (.int .i64 (b : Int))) G L M R C { g with row := a, col := b } cap ps room more :=
  ⟨(h.top.put 0 _).put 1 _, h.lines.far only2 (Ne.symm h.neGL), h.piece.far only2 (Ne.symm h.neGM), h.len, h.cap1, h.cap2, h.perm, h.inj, h.ls⟩
set_option maxHeartbeats 1000000 in
theorem move_any (h : Grd w G L M R C g) (hR : 1 ≤ R) (hR2 : R ≤ 512) (hC : 1 ≤ C) (hC2 : C ≤ 512) (r c : Int) :
    Calls Tryz.prog 45 #[.pointer (some ⟨G, 0, none⟩), .int .i64 r, .int .i64 c] w fun e w' => e = .returned (.tuple #[]) ∧ Grd w' G L M R C (moveG g r c C) ∧ Only G w w' := by
  have HG := hide h
  obtain ⟨cap, ps, room, more, h⟩ := h
  obtain ⟨c0, c1, c2, lG, lL, lM⟩ := h.three
  have hz := h.top.frozen
  have HA := hide h
  have HLen := hide h.glen
  clear h
  obtain ⟨r', hr'⟩ : ∃ r', nearN r R = r' := ⟨_, rfl⟩
  obtain ⟨c', hc'⟩ : ∃ c', nearN c C = c' := ⟨_, rfl⟩
  have HR := hide hr'
  have HC := hide hc'
  clear hr' hc'
  go_enter Tryz.func45, Tryz.ntmps45
  go_wp2_with fail
  refine (rows_any HG.out).mono ?_
  rintro e w1 ⟨rfl, rfl⟩
  go_wp2_with fail
  refine (within_any r R hR hR2 w).mono ?_
  rintro e w1 ⟨rfl, rfl⟩
  rw [HR.out]
  go_wp2_with fail
  refine (cols_any HG.out hR).mono ?_
  rintro e w1 ⟨rfl, rfl⟩
  go_wp2_with fail
  refine (within_any c C hC hC2 w).mono ?_
  rintro e w1 ⟨rfl, rfl⟩
  rw [HC.out]
  go_wp2
  refine bodyPost_end (v := .tuple #[]) (by simp [results, Tryz.results45]) rfl ⟨rfl, ?_, only2⟩
  have e : moveG g r c C = { g with row := r', col := c' } := by unfold moveG; rw [HLen.out, HR.out, HC.out]
  rw [e]
  exact .of (HA.out.cursor r' c')
theorem move_nil (r c : Int) (w : World) : Calls Tryz.prog 45 #[.pointer none, .int .i64 r, .int .i64 c] w fun e w' => e = .returned (.tuple #[]) ∧ w = w' := by
  go_enter Tryz.func45, Tryz.ntmps45
  go_wp2
  exact bodyPost_ret (v := .tuple #[]) (by simp [results, Tryz.results45]) rfl ⟨rfl, rfl⟩
end
end Go.Proofs.YtiifeniijcnahaaGreatDoor
