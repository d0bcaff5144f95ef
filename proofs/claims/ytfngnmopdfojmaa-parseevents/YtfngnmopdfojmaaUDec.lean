/-
  Contracts: how many bytes fit, the scalar of whole ones.
-/
import Derived.Test.YtfngnmopdfojmaaUBase
import Derived.Test.YtfngnmopdfojmaaURef
import Derived.Laws.BitsAllLaws
namespace Go.Proofs.Ytfngnmopdfojmaa
set_option maxRecDepth 100000
open Go.ChangeShapes Go.WideShapes Go.ChangeAt Go.RowKit
set_option linter.unusedVariables false

set_option maxHeartbeats 400000 in
theorem tail_any (r : Int) (w : World) (h0 : 0 ≤ r) (h1 : r ≤ 1114111) : Calls Try.prog 62 #[.int .i32 r] w fun e w' => e = .returned (.int .u8 (128 + r % 64)) ∧ w = w' := by
  go_enter Try.func62, Try.ntmps62
  go_wp2
  go_ret
  exact ⟨rfl, rfl⟩

set_option maxHeartbeats 400000 in
theorem size_any (c : Int) (w : World) (h0 : 0 ≤ c) (h1 : c ≤ 255) : Calls Try.prog 55 #[.int .u8 c] w fun e w' => e = .returned (.int .i64 (sz c)) ∧ w = w' := by
  rcases sz_inv c with ⟨g1, e⟩ | ⟨g1, g2, e⟩ | ⟨g1, g2, e⟩ | ⟨g1, g2, e⟩ | ⟨g1, g2, e⟩ | ⟨g1, e⟩
  all_goals
    have E := hide e
    clear e
    go_enter Try.func55, Try.ntmps55
    go_wp2
    try (exfalso; omega)
    go_ret
    exact ⟨ret_int (by rw [E.out]; rfl), rfl⟩

set_option maxHeartbeats 400000 in
theorem seconds_any (c : Int) (w : World) (h0 : 0 ≤ c) (h1 : c ≤ 255) : Calls Try.prog 59 #[.int .u8 c] w fun e w' => e = .returned (.tuple #[.int .u8 (lo2 c), .int .u8 (hi2 c)]) ∧ w = w' := by
  by_cases g1 : c = 224
  · subst g1
    go_enter Try.func59, Try.ntmps59
    go_wp2_with (go_at_call 62; refine (tail_any _ _ (by omega) (by omega)).mono ?_; rintro e w' ⟨rfl, rfl⟩)
    go_ret2
    exact ⟨rfl, rfl⟩
  by_cases g2 : c = 237
  · subst g2
    go_enter Try.func59, Try.ntmps59
    go_wp2_with (go_at_call 62; refine (tail_any _ _ (by omega) (by omega)).mono ?_; rintro e w' ⟨rfl, rfl⟩)
    go_ret2
    exact ⟨rfl, rfl⟩
  by_cases g3 : c = 240
  · subst g3
    go_enter Try.func59, Try.ntmps59
    go_wp2_with (go_at_call 62; refine (tail_any _ _ (by omega) (by omega)).mono ?_; rintro e w' ⟨rfl, rfl⟩)
    go_ret2
    exact ⟨rfl, rfl⟩
  by_cases g4 : c = 244
  · subst g4
    go_enter Try.func59, Try.ntmps59
    go_wp2_with (go_at_call 62; refine (tail_any _ _ (by omega) (by omega)).mono ?_; rintro e w' ⟨rfl, rfl⟩)
    go_ret2
    exact ⟨rfl, rfl⟩
  · have q1 : (c == 224) = false := by simp [g1]
    have q2 : (c == 237) = false := by simp [g2]
    have q3 : (c == 240) = false := by simp [g3]
    have q4 : (c == 244) = false := by simp [g4]
    have E : Hid (lo2 c = 128 ∧ hi2 c = 191) := by unfold Hid lo2 hi2; rw [if_neg g1, if_neg g3, if_neg g2, if_neg g4]; exact ⟨rfl, rfl⟩
    clear g1 g2 g3 g4
    go_enter Try.func59, Try.ntmps59
    go_wp2
    go_ret2
    exact ⟨by rw [E.out.1, E.out.2]; rfl, rfl⟩

def FitRel (a : Int) (r : List Int) (S t : Nat) (l h i : Value) : Prop := ∃ (lo hi : Int) (k : Nat), l = .int .u8 lo ∧ h = .int .u8 hi ∧ i = .int .i64 k ∧ k ≤ t ∧ run lo hi (S - k) ((a :: r).drop k) + k = fit (a :: r)

set_option maxHeartbeats 1000000 in
theorem fitting_any (A : Option Addr) (n c : Nat) (a : Int) (r : List Int) (w : World) (hb : Ints .u8 w A (a :: r)) (hn : (a :: r).length = n) (hl : n ≤ 1000000) (hy : Byte (a :: r)) :
    Calls Try.prog 56 #[.slice A n c, .int .i64 (sz a)] w fun e w' => e = .returned (.int .i64 (fit (a :: r))) ∧ w = w' := by
  obtain ⟨B, off, rfl, c0, hB⟩ := hb.at (i := 0) (by simp)
  simp only [List.getD_cons_zero, Nat.add_zero] at c0
  have ha := hy a (by simp)
  obtain ⟨a0, a1⟩ := ha
  have hn0 : 0 < n := by rw [← hn]; simp
  have hf := fit_sz a r
  have hs4 := sz_le a
  obtain ⟨S, hS⟩ : ∃ S, sz a = S := ⟨_, rfl⟩
  rw [hS] at hf hs4 ⊢
  have HN := hide hn
  clear hn
  by_cases hz : S = 0
  · have HF : Hid (fit (a :: r) = 0) := fit_zero (by rw [hS]; exact hz)
    subst hz
    clear hS hf hs4
    have hm : min (0 : Int) (n : Int) = 0 := by omega
    go_enter Try.func56, Try.ntmps56
    go_wp2_with fail
    refine (seconds_any a w a0 a1).mono ?_
    rintro e w' ⟨rfl, rfl⟩
    go_wp2
    go_loop [5, 6, 7] (fun l h i => i = .int .i64 0) (fun _ _ i => 0)
    case atStart => rfl
    case round =>
      subst hrel
      go_wp2
      go_ret
      exact ⟨ret_int (by rw [HF.out]; rfl), rfl⟩
  · have HF : Hid (fit (a :: r) = 1 + run (lo2 a) (hi2 a) (S - 1) r) := by have := fit_pos (c := a) (r := r) (by rw [hS]; exact hz); rw [hS] at this; exact this
    clear hS
    have hlo := lo2_inv a
    have hhi := hi2_inv a
    have hlo' : 0 ≤ lo2 a ∧ lo2 a ≤ 255 := by omega
    have hhi' : 0 ≤ hi2 a ∧ hi2 a ≤ 255 := by omega
    clear hlo hhi
    obtain ⟨t, ht, htS, htn, hcase⟩ : ∃ t : Nat, min (S : Int) (n : Int) = (t : Int) ∧ t ≤ S ∧ t ≤ n ∧ (t = S ∨ t = n) := ⟨min S n, by omega, by omega, by omega, by omega⟩
    have HC := hide hcase
    have ht1 : 1 ≤ t := by omega
    clear hcase
    by_cases hS1 : S = 1
    · subst hS1
      go_enter Try.func56, Try.ntmps56
      go_wp2_with fail
      refine (seconds_any a w a0 a1).mono ?_
      rintro e w' ⟨rfl, rfl⟩
      go_wp2
      go_loop [5, 6, 7] (fun l h i => FitRel a r 1 t l h i) (fun _ _ i => t - (intOf i).toNat)
      case atStart => exact ⟨lo2 a, hi2 a, 1, rfl, rfl, rfl, by omega, by rw [HF.out]; simp only [List.drop_succ_cons, List.drop_zero]; omega⟩
      case round =>
        obtain ⟨lo, hi, k, rfl, rfl, rfl, hk, hrun⟩ := hrel
        have HR := hide hrun
        clear hrun
        by_cases hlt : k < t
        · obtain ⟨B2, off2, q, hc, _⟩ := hb.at (i := k) (by rw [HN.out]; omega)
          cases q
          obtain ⟨u, hu, hu2⟩ := getD_byte (a :: r) hy k (by rw [HN.out]; omega)
          have HD := hide (drop_at (a :: r) k u (by rw [HN.out]; omega) hu)
          rw [hu] at hc
          clear hu
          have hkn : k < n := by omega
          by_cases h1 : lo ≤ (u : Int)
          · by_cases h2 : (u : Int) ≤ hi
            · have HE : Hid (run 128 191 (1 - (k + 1)) ((a :: r).drop (k + 1)) + (k + 1) = fit (a :: r)) := by
                unfold Hid
                rw [← HR.out, HD.out, show 1 - k = (1 - (k + 1)) + 1 by omega, run_yes ⟨h1, h2⟩]
                omega
              go_wp2
              all_goals
                go_round
                case rel => exact ⟨128, 191, k + 1, rfl, rfl, by go_num, by omega, HE.out⟩
                case measure => simp [intOf]; omega
            · have h2' : decide ((u : Int) ≤ hi) = false := by simp; omega
              have HE : Hid (fit (a :: r) = k) := by
                unfold Hid
                rw [← HR.out, HD.out, show 1 - k = (1 - (k + 1)) + 1 by omega, run_no (by omega)]
                omega
              go_wp2
              all_goals (go_ret; exact ⟨ret_int (by rw [HE.out]), rfl⟩)
          · have h1' : decide (lo ≤ (u : Int)) = false := by simp; omega
            have HE : Hid (fit (a :: r) = k) := by
              unfold Hid
              rw [← HR.out, HD.out, show 1 - k = (1 - (k + 1)) + 1 by omega, run_no (by omega)]
              omega
            go_wp2
            all_goals (go_ret; exact ⟨ret_int (by rw [HE.out]), rfl⟩)
        · have HE : Hid (fit (a :: r) = k) := by
            unfold Hid
            rw [← HR.out]
            rcases HC.out with h | h
            · rw [show 1 - k = 0 by omega, run_zero]; omega
            · rw [List.drop_eq_nil_of_le (by rw [HN.out]; omega), run_nil]; omega
          have hge : decide (k < t) = false := by simp; omega
          go_wp2
          all_goals (go_ret; exact ⟨ret_int (by rw [HE.out]), rfl⟩)
    · have hS2 : (1 : Int) < (S : Int) := by omega
      go_enter Try.func56, Try.ntmps56
      go_wp2_with fail
      refine (seconds_any a w a0 a1).mono ?_
      rintro e w' ⟨rfl, rfl⟩
      go_wp2
      go_loop [5, 6, 7] (fun l h i => FitRel a r S t l h i) (fun _ _ i => t - (intOf i).toNat)
      case atStart => exact ⟨lo2 a, hi2 a, 1, rfl, rfl, rfl, by omega, by rw [HF.out]; simp only [List.drop_succ_cons, List.drop_zero]; omega⟩
      case round =>
        obtain ⟨lo, hi, k, rfl, rfl, rfl, hk, hrun⟩ := hrel
        have HR := hide hrun
        clear hrun
        by_cases hlt : k < t
        · obtain ⟨B2, off2, q, hc, _⟩ := hb.at (i := k) (by rw [HN.out]; omega)
          cases q
          obtain ⟨u, hu, hu2⟩ := getD_byte (a :: r) hy k (by rw [HN.out]; omega)
          have HD := hide (drop_at (a :: r) k u (by rw [HN.out]; omega) hu)
          rw [hu] at hc
          clear hu
          have hkn : k < n := by omega
          by_cases h1 : lo ≤ (u : Int)
          · by_cases h2 : (u : Int) ≤ hi
            · have HE : Hid (run 128 191 (S - (k + 1)) ((a :: r).drop (k + 1)) + (k + 1) = fit (a :: r)) := by
                unfold Hid
                rw [← HR.out, HD.out, show S - k = (S - (k + 1)) + 1 by omega, run_yes ⟨h1, h2⟩]
                omega
              go_wp2
              all_goals
                go_round
                case rel => exact ⟨128, 191, k + 1, rfl, rfl, by go_num, by omega, HE.out⟩
                case measure => simp [intOf]; omega
            · have h2' : decide ((u : Int) ≤ hi) = false := by simp; omega
              have HE : Hid (fit (a :: r) = k) := by
                unfold Hid
                rw [← HR.out, HD.out, show S - k = (S - (k + 1)) + 1 by omega, run_no (by omega)]
                omega
              go_wp2
              all_goals (go_ret; exact ⟨ret_int (by rw [HE.out]), rfl⟩)
          · have h1' : decide (lo ≤ (u : Int)) = false := by simp; omega
            have HE : Hid (fit (a :: r) = k) := by
              unfold Hid
              rw [← HR.out, HD.out, show S - k = (S - (k + 1)) + 1 by omega, run_no (by omega)]
              omega
            go_wp2
            all_goals (go_ret; exact ⟨ret_int (by rw [HE.out]), rfl⟩)
        · have HE : Hid (fit (a :: r) = k) := by
            unfold Hid
            rw [← HR.out]
            rcases HC.out with h | h
            · rw [show S - k = 0 by omega, run_zero]; omega
            · rw [List.drop_eq_nil_of_le (by rw [HN.out]; omega), run_nil]; omega
          have hge : decide (k < t) = false := by simp; omega
          go_wp2
          all_goals (go_ret; exact ⟨ret_int (by rw [HE.out]), rfl⟩)
end Go.Proofs.Ytfngnmopdfojmaa
