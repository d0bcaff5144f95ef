/-
  Contracts of the functions over plain numbers: Add, Sub, Size and the document's Add and Sub.
-/
import Derived.Test.YtllhhadhogbcdaaRows
import Derived.Test.YtllhhadhogbcdaaMath
import Derived.Test.YtllhhadhogbcdaaShelf
import Derived.Test.YtllhhadhogbcdaaKit
import Derived.Laws.Externs
import Derived.Laws.BitsAllLaws
namespace Go.Proofs.Ytllhhadhogbcdaa
open Go.ChangeShapes Go.WideShapes Go.ChangeAt Go.RowKit

theorem add64 (x y : Int) (hx : 0 ≤ x) (hy : 0 ≤ y) (w : World) : (callFunc 37 #[.int .u64 x, .int .u64 y, .int .u64 0]).run Try.prog w =
    .ok (.value (.tuple #[.int .u64 ((x + y) % 18446744073709551616), .int .u64 ((x + y) / 18446744073709551616)])) w := by
  rw [run_callFunc_extern Try.func37 (by kernel_rfl) (by kernel_rfl) (by kernel_rfl) (e := add64Entry) (by kernel_rfl), run_add64 x y 0 hx hy (by omega) (by omega)]
  simp only [Result.andThen, Int.add_zero]


set_option maxHeartbeats 400000 in
theorem sub_any (a b : Int) (w : World) (ha : 0 ≤ a) (hb : 0 ≤ b) (ha' : a < 18446744073709551616) (hb' : b < 18446744073709551616) :
    Calls Try.prog 18 #[.int .u64 a, .int .u64 b] w fun e w' => e = .returned (.int .u64 (subU a b)) ∧ w = w' := by
  unfold subU
  go_enter Try.func18, Try.ntmps18
  go_wp2
  all_goals (go_ret; exact ⟨rfl, rfl⟩)

set_option maxHeartbeats 400000 in
theorem rsub_any (a b : Int) (w : World) (ha : 0 ≤ a) (hb : 0 ≤ b) (ha' : a < 18446744073709551616) (hb' : b < 18446744073709551616) :
    Calls Try.prog 20 #[.int .u64 a, .int .u64 b] w fun e w' => e = .returned (.int .u64 (subU a b)) ∧ w = w' := by
  unfold subU
  go_enter Try.func20, Try.ntmps20
  go_wp2
  all_goals (go_ret; exact ⟨rfl, rfl⟩)

set_option maxHeartbeats 400000 in
theorem add_any (a b : Int) (w : World) (ha : 0 ≤ a) (hb : 0 ≤ b) (ha' : a < 18446744073709551616) (hb' : b < 18446744073709551616) :
    Calls Try.prog 17 #[.int .u64 a, .int .u64 b] w fun e w' => e = .returned (.int .u64 (addU a b)) ∧ w = w' := by
  by_cases h : a + b < 18446744073709551616
  · have h1 : ((a + b) / 18446744073709551616 != 0) = false := by simp; omega
    have H : Hid (addU a b = (a + b) % 18446744073709551616) := by unfold Hid addU; rw [if_pos h]; omega
    go_enter Try.func17, Try.ntmps17
    go_wp2_with (simp only [add64 a b ha hb])
    go_ret
    exact ⟨ret_int H.out.symm, rfl⟩
  · have h1 : ((a + b) / 18446744073709551616 != 0) = true := by simp; omega
    have H : Hid (addU a b = 18446744073709551615) := by unfold Hid addU; rw [if_neg h]
    go_enter Try.func17, Try.ntmps17
    go_wp2_with (simp only [add64 a b ha hb])
    go_ret
    exact ⟨ret_int H.out.symm, rfl⟩

set_option maxHeartbeats 400000 in
theorem radd_any (a b : Int) (w : World) (ha : 0 ≤ a) (hb : 0 ≤ b) (ha' : a < 18446744073709551616) (hb' : b < 18446744073709551616) :
    Calls Try.prog 19 #[.int .u64 a, .int .u64 b] w fun e w' => e = .returned (.int .u64 (addU a b)) ∧ w = w' := by
  have hw := IntKind.wrap_u64 (a + b)
  have H := hide hw
  clear hw
  go_enter Try.func19, Try.ntmps19
  go_wp2
  · have h : IntKind.u64.wrap (a + b) < a := by assumption
    go_ret
    refine ⟨ret_int ?_, rfl⟩
    rw [H.out] at h
    unfold addU
    rw [if_neg (by omega)]
  · have h : a ≤ IntKind.u64.wrap (a + b) := by assumption
    go_ret
    refine ⟨ret_int ?_, rfl⟩
    rw [H.out] at h ⊢
    unfold addU
    rw [if_pos (by omega)]
    omega

set_option maxHeartbeats 400000 in
theorem size_any (n : Nat) (w : World) (h : n < 18446744073709551616) :
    Calls Try.prog 13 #[.int .u64 n] w fun e w' => e = .returned (.int .i64 (enc n).length) ∧ w = w' := by
  have hor : n ||| 1 < 18446744073709551616 := Nat.or_lt_two_pow (n := 64) (by omega) (by omega)
  have hor' : bits .or .u64 (n : Int) 1 = ((n ||| 1 : Nat) : Int) := u64_or_nat n 1 h (by omega)
  have hb : Lib.bitLen (n ||| 1) ≤ 64 := Lib.bitLen_le _ 64 (by omega) hor
  have H := hide (enc_bits n h)
  obtain ⟨m, hm⟩ : ∃ m, m = Lib.bitLen (n ||| 1) := ⟨_, rfl⟩
  rw [← hm] at H hb
  have HM := hide hm
  clear hm
  go_enter Try.func13, Try.ntmps13
  go_wp2_with fail
  refine (Try.bits_Len64 _ _ (by omega) (by omega)).mono ?_
  rintro e w' ⟨rfl, rfl⟩
  rw [Int.toNat_natCast, ← HM.out]
  go_wp2
  go_ret
  exact ⟨ret_int (by rw [H.out]; omega), rfl⟩

end Go.Proofs.Ytllhhadhogbcdaa
