/-
  Contracts: a pen's number (both); the chapter's example.
-/
import Derived.Test.YthedfbkkeolkmaaDoorTurn
namespace Go.Proofs.YthedfbkkeolkmaaDoor
open Go.ChangeShapes Go.WideShapes Go.ChangeAt Go.RowKit
set_option linter.unusedVariables false

theorem num_right (f g b : Nat) (h : rightN ⟨f, g, b⟩ = true) : numN ⟨f, g, b⟩ = (f : Int) + 32 * (g : Int) + 1024 * (b : Int) := by unfold numN; rw [if_pos h]
theorem num_not (f g b : Nat) (h : rightN ⟨f, g, b⟩ = false) : numN ⟨f, g, b⟩ = -1 := by unfold numN; rw [h]; rfl
theorem right_bd (f g b : Nat) (h : rightN ⟨f, g, b⟩ = true) : f ≤ 31 ∧ g ≤ 16 ∧ b ≤ 16 := by
  unfold rightN at h
  simp only [Bool.and_eq_true, decide_eq_true_eq] at h
  exact ⟨h.1.1, h.1.2, h.2⟩

set_option maxHeartbeats 400000 in
theorem number_any (f g b : Nat) (w : World) : Calls Tryd.prog 14 #[.agg #[.int .u8 (f : Int), .int .u8 (g : Int), .int .u8 (b : Int)]] w (Num .i64 (numN ⟨f, g, b⟩) w) := by
  cases hr : rightN ⟨f, g, b⟩
  · have HR := hide hr
    have HN := hide (num_not f g b hr)
    clear hr
    go_enter Tryd.func14, Tryd.ntmps14
    go_wp2_with fail
    refine (right_any f g b _).mono ?_
    rintro e w1 ⟨rfl, hb1⟩
    rw [HR.out]
    go_wp2
    go_ret
    exact ⟨ret_int HN.out.symm, ((Below.refl _ _).alloc (Nat.le_refl _) _).trans (hb1.mono (by simp))⟩
  · have HR := hide hr
    have HN := hide (num_right f g b hr)
    obtain ⟨h1, h2, h3⟩ := right_bd f g b hr
    clear hr
    go_enter Tryd.func14, Tryd.ntmps14
    go_wp2_with fail
    refine (right_any f g b _).mono ?_
    rintro e w1 ⟨rfl, hb1⟩
    rw [HR.out]
    obtain ⟨hc, hz⟩ := bcell hb1
    go_wp2
    go_ret
    exact ⟨ret_int (HN.out.symm), ((Below.refl _ _).alloc (Nat.le_refl _) _).trans (hb1.mono (by simp))⟩

theorem kn1 : turnN ⟨0, 0, 0⟩ [1, 31] = ⟨1, 2, 0⟩ := by kernel_rfl
theorem kn2 : turnN ⟨1, 2, 0⟩ [0] = ⟨0, 0, 0⟩ := by kernel_rfl
theorem kn3 : numN ⟨1, 2, 0⟩ = 65 := by decide

set_option maxHeartbeats 1000000 in
theorem known_any (w : World) : Calls Tryd.prog 6 #[] w (Said true w) := by
  have e23 := eql23
  have es := eqP_self
  have HI : Hid (Ints .i64 (w.alloc (.cells #[.int .i64 1, .int .i64 31] 3)) (some ⟨w.heap.size, 0, none⟩) [1, 31]) := Ints.new .i64 w 3 [1, 31]
  go_enter Tryd.func6, Tryd.ntmps6
  go_wp2_with fail
  refine (turn_any 0 0 0 ⟨by decide, by decide, by decide⟩ _ 2 2 [1, 31] _ HI.out rfl (by omega)).mono ?_
  rintro e w1 ⟨rfl, hb1⟩
  rw [kn1]
  have b1 : Hid (Below w.heap.size w (w1.alloc (.cells #[.int .u8 1, .int .u8 2, .int .u8 0] 23))) := ((((Below.refl _ _).alloc (Nat.le_refl _) _).trans (hb1.mono (by simp)))).alloc (by have := hb1.size; simp at this; omega) _
  clear hb1 HI
  go_wp2_with fail
  refine (number_any 1 2 0 _).mono ?_
  rintro e w2 ⟨rfl, hb2⟩
  rw [kn3]
  obtain ⟨hc, hz⟩ := bcell hb2
  have HI : Hid (Ints .i64 (w2.alloc (.cells #[.int .i64 0] 3)) (some ⟨w2.heap.size, 0, none⟩) [0]) := Ints.new .i64 w2 3 [0]
  have b2 : Hid (Below w.heap.size w w2) := b1.out.trans (hb2.mono b1.out.size)
  go_wp2_with fail
  refine (turn_any 1 2 0 ⟨by decide, by decide, by decide⟩ _ 1 1 [0] _ HI.out rfl (by omega)).mono ?_
  rintro e w3 ⟨rfl, hb3⟩
  rw [kn2]
  have b3 : Hid (Below w.heap.size w w3) := (b2.out.alloc b2.out.size _).trans (hb3.mono (by have := b2.out.size; simp; omega))
  clear hb2 hc hz hb3
  go_wp2
  go_ret
  exact ⟨rfl, b3.out⟩
end Go.Proofs.YthedfbkkeolkmaaDoor
