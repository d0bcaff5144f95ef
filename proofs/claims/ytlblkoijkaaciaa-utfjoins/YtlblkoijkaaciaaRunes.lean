/-
  Contract: all scalars of bytes.
-/
import Derived.Test.YtlblkoijkaaciaaDec2
import Derived.Test.YtlblkoijkaaciaaChain
namespace Go.Proofs.Ytlblkoijkaaciaa
open Go.ChangeShapes Go.WideShapes Go.ChangeAt Go.RowKit
set_option linter.unusedVariables false

def lenOf' : Value → Nat
  | .slice _ n _ => n
  | _ => 0
theorem cut_nil' {A : Option Addr} {c q : Nat} (h : A = none → c = 0) : (if c = q then A else A.map (·.add q)) = none → c - q = 0 := by
  intro e
  by_cases hc : c = q
  · omega
  · rw [if_neg hc] at e
    cases A with
    | none => rw [h rfl]; omega
    | some a => cases e

set_option maxHeartbeats 1000000 in
theorem runes_any (A : Option Addr) (n c : Nat) (b : List Int) (w : World) (hb : Ints .u8 w A b) (hn : b.length = n) (hc : n ≤ c) (hA : A = none → c = 0) (hcm : c ≤ maxLen) (hl : n ≤ 10000) (hy : Byte b) :
    Calls Try.prog 16 #[.slice A n c] w (Made 21 .i32 w (runes b)) := by
  unfold maxLen at hcm
  have HN := hide hn
  have HA := hide hA
  clear hn hA
  go_enter Try.func16, Try.ntmps16
  go_wp2
  go_loopw [0, 3, 4, 5] (fun s v _ _ wr => ∃ (A1 : Option Addr) (m c1 : Nat) (x acc : List Int), s = .slice A1 m c1 ∧ Ints .u8 w A1 x ∧ x.length = m ∧ m ≤ c1 ∧ (A1 = none → c1 = 0) ∧ c1 ≤ 9223372036854775807 ∧ Byte x ∧ acc.length + m ≤ n ∧
      runes b = acc ++ runes x ∧ Own 21 .i32 w.heap.size w wr v acc) (fun s _ _ _ _ => lenOf' s)
  case atStart => exact ⟨A, n, c, b, [], rfl, hb, HN.out, hc, HA.out, by omega, hy, by simp, by simp, Own.start (Nat.le_refl _)⟩
  case round =>
    obtain ⟨A1, m, c1, x, acc, rfl, hx, hm, hmc, hA1, hc1, bx, hacc, he1, hown⟩ := hrel
    have HM := hide hm
    have HA1 := hide hA1
    have HE1 := hide he1
    clear hm hA1 he1
    by_cases h0 : 0 < m
    · have hle := first_le x
      rw [HM.out] at hle
      have hrg := first_range x bx
      obtain ⟨r, q, hrq⟩ : ∃ r q, first x = (r, q) := ⟨_, _, rfl⟩
      rw [hrq] at hle hrg
      obtain ⟨hr0, hr1⟩ := hrg
      have HRQ := hide hrq
      clear hrq
      simp only at hle hr0 hr1
      have hne : Hid (x ≠ []) := by
        intro e
        have := HM.out
        rw [e] at this; simp at this; omega
      by_cases hz : q = 0
      · subst hz
        have HC : Hid (runes x = [65533]) := runes_held (by rw [HRQ.out]) hne.out
        go_wp2_with fail
        refine (first_any A1 m c1 x wr (hx.below hown.bel) HM.out hmc (by unfold maxLen; omega) (by omega) bx).mono ?_
        rintro e w1 ⟨rfl, hb1⟩
        rw [HRQ.out]
        have hown1 := hown.later hb1
        go_wp2_with (at_builtin; refine wpList_push elem22 rfl _ _ rfl rfl rfl hown1 (by omega) (by omega) ?_; intro v' w2 hown2)
        go_ret
        exact ⟨_, rfl, by rw [HE1.out, HC.out]; exact hown2⟩
      · have HC : Hid (runes x = r :: runes (x.drop q)) := by
          have := runes_step (b := x) (by rw [HRQ.out]; exact hz)
          rw [HRQ.out] at this; exact this
        have hz' : ((q : Int) == 0) = false := by simp; omega
        have q1 : (0 : Int) ≤ (q : Int) := by omega
        have q2 : (q : Int) ≤ (m : Int) := by omega
        go_wp2_with fail
        refine (first_any A1 m c1 x wr (hx.below hown.bel) HM.out hmc (by unfold maxLen; omega) (by omega) bx).mono ?_
        rintro e w1 ⟨rfl, hb1⟩
        rw [HRQ.out]
        have hown1 := hown.later hb1
        obtain ⟨A2, hI, hI2, hI3⟩ : ∃ A2, (if c1 = q then A1 else Option.map (fun x => x.add q) A1) = A2 ∧ Ints .u8 w A2 (x.drop q) ∧ (A2 = none → c1 - q = 0) := ⟨_, rfl, hx.cut q c1 (by rw [HM.out]; exact hmc), cut_nil' HA1.out⟩
        have HI := hide hI
        have HI3 := hide hI3
        clear hI hI3
        have hownD : Own 21 .i32 w.heap.size w w1.drew _ acc := hown1.later ((Below.refl _ _).drewN 1)
        go_wp2
        refine wp_region_chain [(true, [0]), (true, [1]), (true, [4]), (true, [5]), (true, [6]), (false, [2, 3, 7, 8])] (by kernel_rfl) (by kernel_rfl) (by kernel_rfl) (fun _ _ _ _ _ h => h) ?_
        generalize w1.drew = wd at hownD ⊢
        refine chain_take (v := ?_) (by simp only [pickOps, List.getElem?_toArray, List.getElem?_cons_zero]; rfl) (Or.inl ⟨rfl, fun w => ?_⟩) ?_
        rotate_left
        · go_simp <;> with_reducible rfl
        simp only [Act.put, List.setIfInBounds_toArray, List.set_cons_zero, List.set_cons_succ]
        refine chain_take (v := ?_) (by simp only [pickOps, List.getElem?_toArray, List.getElem?_cons_zero, List.getElem?_cons_succ]; rfl) (Or.inl ⟨rfl, fun w => ?_⟩) ?_
        rotate_left
        · go_simp <;> with_reducible rfl
        simp only [Act.put, List.setIfInBounds_toArray, List.set_cons_zero, List.set_cons_succ]
        refine chain_take (v := ?_) (by simp only [pickOps, List.getElem?_toArray, List.getElem?_cons_zero, List.getElem?_cons_succ]; rfl) (Or.inl ⟨rfl, fun w => ?_⟩) ?_
        rotate_left
        · go_simp <;> with_reducible rfl
        simp only [Act.put, List.setIfInBounds_toArray, List.set_cons_zero, List.set_cons_succ]
        refine chain_take (v := ?_) (by simp only [pickOps, List.getElem?_toArray, List.getElem?_cons_zero, List.getElem?_cons_succ]; rfl) (Or.inl ⟨rfl, fun w => ?_⟩) ?_
        rotate_left
        · go_simp <;> with_reducible rfl
        simp only [Act.put, List.setIfInBounds_toArray, List.set_cons_zero, List.set_cons_succ]
        refine chain_take (v := ?_) (by simp only [pickOps, List.getElem?_toArray, List.getElem?_cons_zero, List.getElem?_cons_succ]; rfl) (Or.inl ⟨rfl, fun w => ?_⟩) ?_
        rotate_left
        · go_simp <;> with_reducible rfl
        simp only [Act.put, List.setIfInBounds_toArray, List.set_cons_zero, List.set_cons_succ]
        rw [HI.out]
        refine chain_alone (by simp only [pickOps, List.getElem?_toArray, List.getElem?_cons_zero, List.getElem?_cons_succ]; rfl) ?_
        intro K hK
        go_wp2_with (at_builtin; refine wpList_push elem22 rfl _ _ rfl rfl rfl hownD (by omega) (by omega) ?_; intro v' w2 hown2)
        refine hK.out _ _ ?_
        clear hK K
        refine chain_nil ?_
        go_wp2
        go_roundw
        case rel =>
          refine ⟨_, m - q, c1 - q, x.drop q, acc ++ [r], rfl, hI2, by rw [List.length_drop, HM.out], by omega, HI3.out, by omega, bx.drop q, ?_, ?_, hown2⟩
          · rw [List.length_append]; simp only [List.length_cons, List.length_nil]; omega
          · rw [HE1.out, HC.out]; simp
        case measure => simp [lenOf']; omega
    · have HX : Hid (x = []) := by unfold Hid; exact List.eq_nil_of_length_eq_zero (by rw [HM.out]; omega)
      have HC : Hid (runes x = []) := by unfold Hid; rw [HX.out]; exact runes_nil
      have hgt : decide ((0 : Int) < (m : Int)) = false := by simp; omega
      go_wp2
      go_ret
      exact ⟨_, rfl, by rw [HE1.out, HC.out, List.append_nil]; exact hown⟩
end Go.Proofs.Ytlblkoijkaaciaa
