/-
  Contracts of the document's own answers, on: all scalars, what is held, the bytes of all; numbers of runes; what is the same.
-/
import Derived.Test.YtfngnmopdfojmaaURef3
namespace Go.Proofs.Ytfngnmopdfojmaa
set_option maxRecDepth 100000
open Go.ChangeShapes Go.WideShapes Go.ChangeAt Go.RowKit
set_option linter.unusedVariables false

/-- The call answered with a row of scalars and what is held, and left all that was there. -/
def CutPost (b : List Int) (w : World) (e : Ending) (w' : World) : Prop :=
  ∃ v A n c, e = .returned (.tuple #[v, .slice A n c]) ∧ Own 3 .i64 w.heap.size w w' v (cut b).1 ∧ Ints .u8 w' A (cut b).2 ∧ (cut b).2.length = n ∧ n ≤ c ∧ (A = none → c = 0)

set_option maxHeartbeats 1000000 in
theorem cut_any (A : Option Addr) (n c : Nat) (b : List Int) (w : World) (hb : Ints .u8 w A b) (hn : b.length = n) (hc : n ≤ c) (hA : A = none → c = 0) (hcm : c ≤ maxLen) (hl : n ≤ 1000000) (by_ : Byte b) :
    Calls Try.prog 34 #[.slice A n c] w (CutPost b w) := by
  unfold maxLen at hcm
  have HN := hide hn
  have HA := hide hA
  clear hn hA
  go_enter Try.func34, Try.ntmps34
  go_wp2
  go_loopw [0, 4, 5, 6] (fun s v _ _ wr => ∃ (A1 : Option Addr) (m c1 : Nat) (x acc : List Int), s = .slice A1 m c1 ∧ Ints .u8 w A1 x ∧ x.length = m ∧ m ≤ c1 ∧ (A1 = none → c1 = 0) ∧ c1 ≤ 9223372036854775807 ∧ Byte x ∧ acc.length + m ≤ n ∧
      (cut b).1 = acc ++ (cut x).1 ∧ (cut b).2 = (cut x).2 ∧ Own 3 .i64 w.heap.size w wr v acc) (fun s _ _ _ _ => lenOf s)
  case atStart => exact ⟨A, n, c, b, [], rfl, hb, HN.out, hc, HA.out, by omega, by_, by simp, by simp, rfl, Own.start (Nat.le_refl _)⟩
  case round =>
    obtain ⟨A1, m, c1, x, acc, rfl, hx, hm, hmc, hA1, hc1, bx, hacc, he1, he2, hown⟩ := hrel
    have HM := hide hm
    have HA1 := hide hA1
    have HE1 := hide he1
    have HE2 := hide he2
    clear hm hA1 he1 he2
    by_cases h0 : 0 < m
    · have hle := first_le x
      rw [HM.out] at hle
      have hrg := first_range x bx
      have hown0 := hown
      obtain ⟨r, q, hrq⟩ : ∃ r q, first x = (r, q) := ⟨_, _, rfl⟩
      rw [hrq] at hle hrg
      obtain ⟨hr0, hr1⟩ := hrg
      have HRQ := hide hrq
      clear hrq
      simp only at hle hr0 hr1
      by_cases hz : q = 0
      · subst hz
        have HC : Hid (cut x = ([], x)) := cut_held (by rw [HRQ.out])
        go_wp2_with fail
        refine (rfirst_any A1 m c1 x wr (hx.below hown.bel) HM.out hmc (by omega) bx).mono ?_
        rintro e w1 ⟨rfl, hb1⟩
        rw [HRQ.out]
        go_wp2
        go_ret2
        refine ⟨_, A1, m, c1, rfl, ?_, ?_, ?_, hmc, HA1.out⟩
        · rw [HE1.out, HC.out, List.append_nil]; exact hown.later hb1
        · rw [HE2.out, HC.out]; exact hx.below ((hown.later hb1).bel)
        · rw [HE2.out, HC.out]; exact HM.out
      · have HC : Hid (cut x = (r :: (cut (x.drop q)).1, (cut (x.drop q)).2)) := by
          have := cut_step (b := x) (by rw [HRQ.out]; exact hz)
          rw [HRQ.out] at this; exact this
        have hz' : ((q : Int) == 0) = false := by simp; omega
        have q1 : (0 : Int) ≤ (q : Int) := by omega
        have q2 : (q : Int) ≤ (m : Int) := by omega
        go_wp2_with fail
        refine (rfirst_any A1 m c1 x wr (hx.below hown.bel) HM.out hmc (by omega) bx).mono ?_
        rintro e w1 ⟨rfl, hb1⟩
        rw [HRQ.out]
        have hown1 := hown.later hb1
        go_wp2_with (at_builtin; refine wpList_push elemInts rfl _ _ rfl rfl rfl hown1 (by omega) (by omega) ?_; intro v' w2 hown2)
        go_roundw
        case rel =>
          refine ⟨_, m - q, c1 - q, x.drop q, acc ++ [r], rfl, hx.cut q c1 (by rw [HM.out]; exact hmc), by rw [List.length_drop, HM.out], by omega, cut_nil_ HA1.out, by omega, bx.drop q, ?_, ?_, ?_, hown2⟩
          · rw [List.length_append]; simp only [List.length_cons, List.length_nil]; omega
          · rw [HE1.out, HC.out]; simp
          · rw [HE2.out, HC.out]
        case measure => simp [lenOf]; omega
    · have hm0 : m = 0 := by omega
      have HX : Hid (x = []) := by unfold Hid; exact List.eq_nil_of_length_eq_zero (by rw [HM.out]; exact hm0)
      clear hm0
      have HC : Hid (cut x = ([], [])) := by unfold Hid; rw [HX.out]; exact cut_nil
      have hgt : decide ((0 : Int) < (m : Int)) = false := by simp; omega
      go_wp2
      go_ret2
      refine ⟨_, none, 0, 0, rfl, ?_, .inl ?_, ?_, Nat.le_refl _, fun _ => rfl⟩
      · rw [HE1.out, HC.out, List.append_nil]; exact hown
      · rw [HE2.out, HC.out]
      · rw [HE2.out, HC.out]; rfl

end Go.Proofs.Ytfngnmopdfojmaa
