/-
  Plain mathematics: the parameters that make a pen. Of no program.
-/
import Derived.Test.YthedfbkkeolkmaaDoorMath
namespace Go.Proofs.YthedfbkkeolkmaaDoor
set_option linter.unusedVariables false

/-- The parameters of the first k flags. -/
def flagsL (f : Nat) : Nat → List Int
  | 0 => []
  | k + 1 => flagsL f k ++ (if hasN f (bitC k) then [onC k] else [])
/-- The parameter of a color other than 0. -/
def colC (g : Nat) : Int := if 9 ≤ g then (g : Int) + 81 else (g : Int) + 29
def colL (g : Nat) (d : Int) : List Int := if g = 0 then [] else [colC g + d]
def codesN (p : Pn) : List Int := if rightN p then (0 :: flagsL p.f 5) ++ colL p.g 0 ++ colL p.b 10 else []

theorem flagsL_len (f : Nat) : ∀ k, (flagsL f k).length ≤ k := by
  intro k
  induction k with
  | zero => simp [flagsL]
  | succ k ih => simp only [flagsL, List.length_append]; split <;> simp <;> omega
theorem colL_len (g : Nat) (d : Int) : (colL g d).length ≤ 1 := by unfold colL; split <;> simp
theorem codesN_len (p : Pn) : (codesN p).length ≤ 8 := by
  unfold codesN
  split
  · have := flagsL_len p.f 5
    have := colL_len p.g 0
    have := colL_len p.b 10
    simp only [List.length_append, List.length_cons]
    omega
  · simp
theorem colC_bd (g : Nat) (h : g ≤ 16) : 0 ≤ colC g ∧ colC g ≤ 97 := by unfold colC; split <;> omega

theorem flags_make : ∀ f, f ≤ 31 → (flagsL f 5).foldl onceN zeroP = ⟨f, 0, 0⟩ := by
  have h : ∀ f : Nat, f < 32 → ((flagsL f 5).foldl onceN zeroP).f = f ∧ ((flagsL f 5).foldl onceN zeroP).g = 0 ∧ ((flagsL f 5).foldl onceN zeroP).b = 0 := by decide +kernel
  intro f hf
  obtain ⟨h1, h2, h3⟩ := h f (by omega)
  cases hh : (flagsL f 5).foldl onceN zeroP with
  | mk a b c => rw [hh] at h1 h2 h3; simp only at h1 h2 h3; subst h1 h2 h3; rfl
theorem flagN_far (f : Nat) (n : Int) (h : 30 ≤ n) : flagN f n = f := by
  unfold flagN
  rw [if_neg (by omega), if_neg (by omega), if_neg (by omega), if_neg (by omega), if_neg (by omega), if_neg (by omega), if_neg (by omega), if_neg (by omega), if_neg (by omega), if_neg (by omega)]
theorem dye_col (c g : Nat) (h1 : 1 ≤ g) (h : g ≤ 16) : dyeN c (colC g) = g := by
  unfold dyeN colC
  repeat' split
  all_goals omega
theorem dye_col_back (c g : Nat) (h1 : 1 ≤ g) (h : g ≤ 16) : dyeN c (colC g - 10) = c := by
  unfold dyeN colC
  repeat' split
  all_goals omega
theorem dye_col_fore (c g : Nat) (h1 : 1 ≤ g) (h : g ≤ 16) : dyeN c (colC g + 10) = c := by
  unfold dyeN colC
  repeat' split
  all_goals omega
theorem colC_ge (g : Nat) (h1 : 1 ≤ g) : 30 ≤ colC g := by unfold colC; split <;> omega
theorem fore_make (f g : Nat) (h : g ≤ 16) : (colL g 0).foldl onceN ⟨f, 0, 0⟩ = ⟨f, g, 0⟩ := by
  unfold colL
  by_cases h0 : g = 0
  · subst h0; rfl
  · have h1 := colC_ge g (by omega)
    rw [if_neg h0, Int.add_zero]
    show onceN ⟨f, 0, 0⟩ (colC g) = _
    unfold onceN
    rw [if_neg (by omega)]
    simp only [flagN_far _ _ h1, dye_col 0 g (by omega) h, dye_col_back 0 g (by omega) h]
theorem back_make (f g b : Nat) (h : b ≤ 16) : (colL b 10).foldl onceN ⟨f, g, 0⟩ = ⟨f, g, b⟩ := by
  unfold colL
  by_cases h0 : b = 0
  · subst h0; rfl
  · have h1 := colC_ge b (by omega)
    rw [if_neg h0]
    show onceN ⟨f, g, 0⟩ (colC b + 10) = _
    unfold onceN
    rw [if_neg (by omega)]
    simp only [flagN_far _ _ (show 30 ≤ colC b + 10 by omega), dye_col_fore g b (by omega) h, show colC b + 10 - 10 = colC b by omega, dye_col 0 b (by omega) h]
/-- The parameters make the pen, whatever was there. -/
theorem codes_make (p q : Pn) (h : rightN p = true) : turnN q (codesN p) = p := by
  have h' := h
  unfold rightN at h'
  simp only [Bool.and_eq_true, decide_eq_true_eq] at h'
  obtain ⟨⟨h1, h2⟩, h3⟩ := h'
  unfold codesN
  rw [if_pos h, List.cons_append, List.cons_append]
  unfold turnN
  rw [if_neg (by simp)]
  show ((flagsL p.f 5 ++ colL p.g 0) ++ colL p.b 10).foldl onceN (onceN q 0) = p
  have e : onceN q 0 = zeroP := rfl
  rw [e, List.foldl_append, List.foldl_append, flags_make p.f h1, fore_make _ _ h2, back_make _ _ _ h3]
theorem and_has (f k : Nat) (hf : f ≤ 31) (hk : k < 5) : ((f &&& bitC k : Nat) ≠ 0) ↔ hasN f (bitC k) = true := by
  have h : ∀ f : Nat, f < 32 → ∀ k : Nat, k < 5 → (((f &&& bitC k : Nat) ≠ 0) ↔ hasN f (bitC k) = true) := by decide +kernel
  exact h f (by omega) k hk
end Go.Proofs.YthedfbkkeolkmaaDoor
