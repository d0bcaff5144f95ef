/-
  Contract: flags set or not (the document's).
-/
import Derived.Test.YthedfbkkeolkmaaTurn
namespace Go.Proofs.Ythedfbkkeolkmaa
open Go.ChangeShapes Go.WideShapes Go.ChangeAt Go.RowKit
set_option linter.unusedVariables false

theorem pow_bd (i : Nat) (hi : i < 8) : 0 < 2 ^ i ∧ 2 ^ i < 256 := by
  match i, hi with
  | 0, _ => decide
  | 1, _ => decide
  | 2, _ => decide
  | 3, _ => decide
  | 4, _ => decide
  | 5, _ => decide
  | 6, _ => decide
  | 7, _ => decide
theorem hasN_iff (x b : Nat) : hasN x b = true ↔ x / b % 2 = 1 := by unfold hasN; simp
theorem hasN_not (x b : Nat) : hasN x b = false ↔ x / b % 2 = 0 := by unfold hasN; simp
theorem hasN_mix (f t i : Nat) (hi : i < 8) : hasN (mix f t i) (2 ^ i) = hasN f (2 ^ i) := by unfold hasN; rw [mix_bit f t i hi]
theorem mix_skip (f m : Nat) (on : Bool) (hm : m < 256) (i : Nat) (hi : i < 8) (h : hasN m (2 ^ i) = false ∨ hasN f (2 ^ i) = on) : mix f (withN f m on) (i + 1) = mix f (withN f m on) i := by
  apply mix_keep _ _ _ hi
  have hb := withN_bit f m on hm i hi
  rcases h with h | h
  · rw [hasN_not] at h
    rw [if_neg (by omega)] at hb
    omega
  · by_cases h1 : m / 2 ^ i % 2 = 1
    · rw [if_pos h1] at hb
      cases on
      · rw [hasN_not] at h
        have : ¬ withN f m false / 2 ^ i % 2 = 1 := fun e => by have := hb.1 e; cases this
        omega
      · rw [hasN_iff] at h
        have := hb.2 rfl
        omega
    · rw [if_neg h1] at hb
      omega
theorem mix_plus (f m : Nat) (hm : m < 256) (i : Nat) (hi : i < 8) (h : hasN m (2 ^ i) = true) (h2 : hasN f (2 ^ i) = false) : mix f (withN f m true) (i + 1) = mix f (withN f m true) i + 2 ^ i := by
  rw [hasN_iff] at h
  rw [hasN_not] at h2
  have hb := withN_bit f m true hm i hi
  rw [if_pos h] at hb
  exact mix_add _ _ _ hi h2 (hb.2 rfl)
theorem mix_minus (f m : Nat) (hm : m < 256) (i : Nat) (hi : i < 8) (h : hasN m (2 ^ i) = true) (h2 : hasN f (2 ^ i) = true) : mix f (withN f m false) (i + 1) + 2 ^ i = mix f (withN f m false) i := by
  rw [hasN_iff] at h h2
  have hb := withN_bit f m false hm i hi
  rw [if_pos h] at hb
  have : ¬ withN f m false / 2 ^ i % 2 = 1 := fun e => by have := hb.1 e; cases this
  exact mix_sub _ _ _ hi h2 (by omega)
theorem whole3 {w : World} {q : Nat} {t : TypeId} {x y z : Value} (h : Whole w q t [x, y, z]) : w.cell? ⟨q, 0, none⟩ = some x ∧ w.cell? ⟨q, 1, none⟩ = some y ∧ w.cell? ⟨q, 2, none⟩ = some z ∧ w.frozen? ⟨q, 0, none⟩ = false ∧ w.frozen? ⟨q, 1, none⟩ = false ∧ w.frozen? ⟨q, 2, none⟩ = false :=
  ⟨h.cell 0, h.cell 1, h.cell 2, h.frozen 0, h.frozen 1, h.frozen 2⟩
theorem whole_put1 {w1 : World} {q r i : Nat} {t : TypeId} {l : List Value} (h : Whole w1 r t l) (hq : r ≠ q) (x : Value) : Whole (w1.setCell ⟨q, i, none⟩ x) r t l := by
  unfold Whole
  rw [Below.heap_setCell _ _ _ _ hq]
  exact h

set_option maxHeartbeats 2000000 in
theorem rwith_any (f g b m : Nat) (on : Bool) (hf : f < 256) (hm : m < 256) (w : World) :
    Calls Try.prog 12 #[.agg #[.int .u8 (f : Int), .int .u8 (g : Int), .int .u8 (b : Int)], .int .u8 (m : Int), .bool on] w (Penned ⟨withN f m on, g, b⟩ w) := by
  have HW0 := hide (two_whole w 27 [.int .u8 (f : Int), .int .u8 (g : Int), .int .u8 (b : Int)] (.cells #[.int .u8 0, .int .u8 0, .int .u8 0] 27))
  have HW1 := hide (whole_snd w (.cells #[.int .u8 (f : Int), .int .u8 (g : Int), .int .u8 (b : Int)] 27) 27 [.int .u8 0, .int .u8 0, .int .u8 0])
  obtain ⟨T, hT⟩ : ∃ T, withN f m on = T := ⟨_, rfl⟩
  have hTl : T < 256 := by rw [← hT]; exact withN_lt f m on hf hm
  rw [hT]
  have HT := hide hT
  clear hT
  have hz0 := mix_zero f T
  have HZ0 := hide hz0
  clear hz0
  go_enter Try.func12, Try.ntmps12
  go_wp2
  go_loopw [7, 8, 9] (fun i _ _ wr => ∃ k : Nat, k ≤ 8 ∧ i = .int .i64 k ∧ Whole wr w.heap.size 27 [.int .u8 (mix f T k : Int), .int .u8 (g : Int), .int .u8 (b : Int)] ∧ Whole wr (w.heap.size + 1) 27 [.int .u8 0, .int .u8 0, .int .u8 0] ∧ Below w.heap.size w wr)
    (fun i _ _ _ => 8 - (intOf i).toNat)
  case atStart => exact ⟨0, Nat.zero_le _, rfl, by rw [HZ0.out]; exact HW0.out, HW1.out, ((Below.refl _ _).alloc (Nat.le_refl _) _).alloc (by simp) _⟩
  case round =>
    obtain ⟨k, hk, rfl, hw0, hw1, hbel⟩ := hrel
    obtain ⟨c0, c1, c2, z0, z1, z2⟩ := whole3 hw0
    obtain ⟨d0, d1, d2, y0, y1, y2⟩ := whole3 hw1
    have s0 := hw0.lt
    have s1 := hw1.lt
    by_cases hlt : k < 8
    · obtain ⟨M, hM⟩ : ∃ M, mix f T k = M := ⟨_, rfl⟩
      have hMl : M < 256 := by rw [← hM]; exact mix_lt f T k hf hTl hk
      rw [hM] at c0 hw0
      have HM := hide hM
      clear hM
      have HW0' := hide hw0
      have HW1' := hide hw1
      clear hw0 hw1
      go_wp2
      go_loopw [8, 9] (fun bb j wr2 => ∃ q : Nat, q ≤ k ∧ j = .int .i64 q ∧ bb = .int .u8 ((2 ^ q : Nat) : Int) ∧ wr2 = wr) (fun _ j _ => k - (intOf j).toNat)
      case atStart => exact ⟨0, Nat.zero_le _, rfl, rfl, rfl⟩
      case round =>
        obtain ⟨q, hq, rfl, rfl, rfl⟩ := hrel
        by_cases hq2 : q < k
        · obtain ⟨X, hX⟩ : ∃ X, 2 ^ q = X := ⟨_, rfl⟩
          have hX2 : 2 ^ (q + 1) = 2 * X := by rw [← hX, Nat.pow_succ]; omega
          have hXl := (pow_bd (q + 1) (by omega)).2
          rw [hX2] at hXl
          rw [hX]
          have HX2 := hide hX2
          clear hX hX2
          go_wp2
          go_roundw
          case rel => exact ⟨q + 1, by omega, by go_num, by rw [HX2.out]; go_num, trivial⟩
          case measure => simp [intOf]; omega
        · obtain rfl : q = k := by omega
          obtain ⟨X, hX⟩ : ∃ X, 2 ^ q = X := ⟨_, rfl⟩
          have hXl := pow_bd q hlt
          rw [hX] at hXl
          obtain ⟨hX0, hX1⟩ := hXl
          rw [hX]
          have HX := hide hX
          clear hX hq hq2
          have hMX : hasN M X = hasN f X := by rw [← HM.out, ← HX.out]; exact hasN_mix f T q hlt
          cases h1 : hasN m X
          · have HN : Hid (mix f T (q + 1) = M) := by
              rw [← HT.out, mix_skip f m on hm q hlt (.inl (by rw [HX.out]; exact h1)), HT.out, HM.out]; exact rfl
            have H1 := hide h1
            clear h1 hMX
            go_wp2_with fail
            refine (has_any m X hm hX0 hX1 _).mono ?_
            rintro e w' ⟨rfl, rfl⟩
            rw [H1.out]
            go_wp2
            go_roundw
            case rel => exact ⟨q + 1, by omega, by go_num, by rw [HN.out]; exact HW0'.out, HW1'.out, hbel⟩
            case measure => simp [intOf]; omega
          · cases h2 : hasN M X
            · cases on
              · have h3 : hasN f (2 ^ q) = false := by rw [HX.out, ← hMX, h2]
                have HN : Hid (mix f T (q + 1) = M) := by
                  rw [← HT.out, mix_skip f m false hm q hlt (.inr h3), HT.out, HM.out]; exact rfl
                have H1 := hide h1
                have H2 := hide h2
                clear h1 h2 h3 hMX
                go_wp2_with fail
                refine (has_any m X hm hX0 hX1 _).mono ?_
                rintro e w' ⟨rfl, rfl⟩
                rw [H1.out]
                go_wp2_with fail
                refine (has_any M X hMl hX0 hX1 _).mono ?_
                rintro e w' ⟨rfl, rfl⟩
                rw [H2.out]
                go_wp2
                go_roundw
                case rel => exact ⟨q + 1, by omega, by go_num, by rw [HN.out]; exact HW0'.out, HW1'.out, hbel⟩
                case measure => simp [intOf]; omega
              · have h3 : hasN f (2 ^ q) = false := by rw [HX.out, ← hMX, h2]
                have hN : mix f T (q + 1) = M + X := by
                  rw [← HT.out, mix_plus f m hm q hlt (by rw [HX.out]; exact h1) h3, HT.out, HM.out, HX.out]
                have hNl := mix_lt f T (q + 1) hf hTl (by omega)
                rw [hN] at hNl
                have HN := hide hN
                clear hN
                have H1 := hide h1
                have H2 := hide h2
                clear h1 h2 h3 hMX
                go_wp2_with fail
                refine (has_any m X hm hX0 hX1 _).mono ?_
                rintro e w' ⟨rfl, rfl⟩
                rw [H1.out]
                go_wp2_with fail
                refine (has_any M X hMl hX0 hX1 _).mono ?_
                rintro e w' ⟨rfl, rfl⟩
                rw [H2.out]
                go_wp2
                go_roundw
                case rel => exact ⟨q + 1, by omega, by go_num, by rw [HN.out]; exact HW0'.out.put 0 _, whole_put1 HW1'.out (by omega) _, hbel.setCell (Nat.le_refl _) _⟩
                case measure => simp [intOf]; omega
            · cases on
              · have h3 : hasN f (2 ^ q) = true := by rw [HX.out, ← hMX, h2]
                have hN := mix_minus f m hm q hlt (by rw [HX.out]; exact h1) h3
                rw [HT.out, HM.out, HX.out] at hN
                obtain ⟨N, hN2⟩ : ∃ N, mix f T (q + 1) = N := ⟨_, rfl⟩
                rw [hN2] at hN
                have HN := hide hN2
                clear hN2
                have H1 := hide h1
                have H2 := hide h2
                clear h1 h2 h3 hMX
                have hNN : ((M : Int) - (X : Int)) = (N : Int) := by omega
                go_wp2_with fail
                refine (has_any m X hm hX0 hX1 _).mono ?_
                rintro e w' ⟨rfl, rfl⟩
                rw [H1.out]
                go_wp2_with fail
                refine (has_any M X hMl hX0 hX1 _).mono ?_
                rintro e w' ⟨rfl, rfl⟩
                rw [H2.out]
                go_wp2
                go_roundw
                case rel => exact ⟨q + 1, by omega, by go_num, by rw [HN.out]; exact HW0'.out.put 0 _, whole_put1 HW1'.out (by omega) _, hbel.setCell (Nat.le_refl _) _⟩
                case measure => simp [intOf]; omega
              · have h3 : hasN f (2 ^ q) = true := by rw [HX.out, ← hMX, h2]
                have HN : Hid (mix f T (q + 1) = M) := by
                  rw [← HT.out, mix_skip f m true hm q hlt (.inr h3), HT.out, HM.out]; exact rfl
                have H1 := hide h1
                have H2 := hide h2
                clear h1 h2 h3 hMX
                go_wp2_with fail
                refine (has_any m X hm hX0 hX1 _).mono ?_
                rintro e w' ⟨rfl, rfl⟩
                rw [H1.out]
                go_wp2_with fail
                refine (has_any M X hMl hX0 hX1 _).mono ?_
                rintro e w' ⟨rfl, rfl⟩
                rw [H2.out]
                go_wp2
                go_roundw
                case rel => exact ⟨q + 1, by omega, by go_num, by rw [HN.out]; exact HW0'.out, HW1'.out, hbel⟩
                case measure => simp [intOf]; omega
    · obtain rfl : k = 8 := by omega
      have E := hide (mix_all f T hf hTl)
      rw [E.out] at c0
      have HW1' := hide hw1
      clear hw0 hw1 hlt hk
      go_wp2
      exact ret3 Try.results12 (.inr rfl) rfl rfl (put3 HW1'.out) ⟨rfl, below_put3 hbel (by omega) _ _ _⟩
end Go.Proofs.Ythedfbkkeolkmaa
