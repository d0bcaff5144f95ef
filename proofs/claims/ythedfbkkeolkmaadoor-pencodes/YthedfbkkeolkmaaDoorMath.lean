/-
  Plain mathematics of pens: flags set and taken away, one parameter's turn, turns by many, numbers, codes. Of no program.
-/
import Init
namespace Go.Proofs.YthedfbkkeolkmaaDoor
set_option linter.unusedVariables false

/-! ### bits -/
theorem bit_div (x i : Nat) : x.testBit i = decide (x / 2 ^ i % 2 = 1) := Nat.testBit_eq_decide_div_mod_eq
/-- The flags with those of g set, or taken away. -/
def withN (f g : Nat) (on : Bool) : Nat := if on then f ||| g else f &&& (255 - g)

theorem or_bit (f g i : Nat) : (f ||| g) / 2 ^ i % 2 = 1 ↔ f / 2 ^ i % 2 = 1 ∨ g / 2 ^ i % 2 = 1 := by
  have h := Nat.testBit_or f g i
  simp only [bit_div] at h
  rw [← decide_eq_true_iff (p := (f ||| g) / 2 ^ i % 2 = 1), h]
  simp
theorem and_bit (f g i : Nat) : (f &&& g) / 2 ^ i % 2 = 1 ↔ f / 2 ^ i % 2 = 1 ∧ g / 2 ^ i % 2 = 1 := by
  have h := Nat.testBit_and f g i
  simp only [bit_div] at h
  rw [← decide_eq_true_iff (p := (f &&& g) / 2 ^ i % 2 = 1), h]
  simp
theorem withN_lt (f g : Nat) (on : Bool) (hf : f < 256) (hg : g < 256) : withN f g on < 256 := by
  unfold withN
  split
  · exact Nat.or_lt_two_pow (n := 8) hf hg
  · exact Nat.and_lt_two_pow (n := 8) _ (by omega)
theorem not_bit (g : Nat) (hg : g < 256) : ∀ i, i < 8 → ((255 - g) / 2 ^ i % 2 = 1 ↔ ¬ g / 2 ^ i % 2 = 1) := by
  intro i hi
  match i, hi with
  | 0, _ => omega
  | 1, _ => omega
  | 2, _ => omega
  | 3, _ => omega
  | 4, _ => omega
  | 5, _ => omega
  | 6, _ => omega
  | 7, _ => omega
theorem withN_bit (f g : Nat) (on : Bool) (hg : g < 256) (i : Nat) (hi : i < 8) : withN f g on / 2 ^ i % 2 = 1 ↔ (if g / 2 ^ i % 2 = 1 then on = true else f / 2 ^ i % 2 = 1) := by
  unfold withN
  cases on
  · rw [if_neg (by simp), and_bit, not_bit g hg i hi]
    by_cases h : g / 2 ^ i % 2 = 1 <;> simp [h]
  · rw [if_pos rfl, or_bit]
    by_cases h : g / 2 ^ i % 2 = 1 <;> simp [h]
/-- The low k bits of t, the others of f. -/
def mix (f t k : Nat) : Nat := f / 2 ^ k * 2 ^ k + t % 2 ^ k
theorem mix_zero (f t : Nat) : mix f t 0 = f := by unfold mix; omega
theorem mix_all (f t : Nat) (hf : f < 256) (ht : t < 256) : mix f t 8 = t := by unfold mix; omega
theorem mix_lt (f t k : Nat) (hf : f < 256) (ht : t < 256) (hk : k ≤ 8) : mix f t k < 256 := by
  unfold mix
  match k, hk with
  | 0, _ => omega
  | 1, _ => omega
  | 2, _ => omega
  | 3, _ => omega
  | 4, _ => omega
  | 5, _ => omega
  | 6, _ => omega
  | 7, _ => omega
  | 8, _ => omega
/-- One round: bit k of what is there is f's own. -/
theorem mix_bit (f t k : Nat) (hk : k < 8) : mix f t k / 2 ^ k % 2 = f / 2 ^ k % 2 := by
  unfold mix
  match k, hk with
  | 0, _ => omega
  | 1, _ => omega
  | 2, _ => omega
  | 3, _ => omega
  | 4, _ => omega
  | 5, _ => omega
  | 6, _ => omega
  | 7, _ => omega
theorem mix_keep (f t k : Nat) (hk : k < 8) (h : f / 2 ^ k % 2 = t / 2 ^ k % 2) : mix f t (k + 1) = mix f t k := by
  unfold mix
  match k, hk with
  | 0, _ => omega
  | 1, _ => omega
  | 2, _ => omega
  | 3, _ => omega
  | 4, _ => omega
  | 5, _ => omega
  | 6, _ => omega
  | 7, _ => omega
theorem mix_add (f t k : Nat) (hk : k < 8) (h : f / 2 ^ k % 2 = 0) (h1 : t / 2 ^ k % 2 = 1) : mix f t (k + 1) = mix f t k + 2 ^ k := by
  unfold mix
  match k, hk with
  | 0, _ => omega
  | 1, _ => omega
  | 2, _ => omega
  | 3, _ => omega
  | 4, _ => omega
  | 5, _ => omega
  | 6, _ => omega
  | 7, _ => omega
theorem mix_sub (f t k : Nat) (hk : k < 8) (h : f / 2 ^ k % 2 = 1) (h1 : t / 2 ^ k % 2 = 0) : mix f t (k + 1) + 2 ^ k = mix f t k := by
  unfold mix
  match k, hk with
  | 0, _ => omega
  | 1, _ => omega
  | 2, _ => omega
  | 3, _ => omega
  | 4, _ => omega
  | 5, _ => omega
  | 6, _ => omega
  | 7, _ => omega
theorem with_off_on (f g : Nat) (hf : f < 256) (hg : g < 256) : withN (withN f g true) g false = withN f g false := by
  unfold withN
  simp only [if_true, if_false, Bool.false_eq_true]
  apply Nat.eq_of_testBit_eq
  intro i
  rw [Nat.testBit_and, Nat.testBit_or, Nat.testBit_and]
  by_cases hi : i < 8
  · have h := not_bit g hg i hi
    simp only [bit_div]
    by_cases h1 : g / 2 ^ i % 2 = 1
    · rw [decide_eq_false (fun h2 => (h.1 h2) h1)]; simp
    · simp [h1]
  · rw [Nat.testBit_lt_two_pow (x := 255 - g) (Nat.lt_of_lt_of_le (show 255 - g < 2 ^ 8 by omega) (Nat.pow_le_pow_right (by omega) (by omega)))]; simp
theorem with_on_off (f g : Nat) (hf : f < 256) (hg : g < 256) : withN (withN f g false) g true = withN f g true := by
  unfold withN
  simp only [if_true, if_false, Bool.false_eq_true]
  apply Nat.eq_of_testBit_eq
  intro i
  rw [Nat.testBit_or, Nat.testBit_and, Nat.testBit_or]
  by_cases hi : i < 8
  · have h := not_bit g hg i hi
    simp only [bit_div]
    by_cases h1 : g / 2 ^ i % 2 = 1
    · simp [h1]
    · rw [decide_eq_true (h.2 h1)]; simp
  · rw [Nat.testBit_lt_two_pow (x := f) (Nat.lt_of_lt_of_le (show f < 2 ^ 8 by omega) (Nat.pow_le_pow_right (by omega) (by omega)))]; simp

/-! ### one parameter -/
structure Pn where
  f : Nat
  g : Nat
  b : Nat
def Pn.ok (p : Pn) : Prop := p.f < 256 ∧ p.g < 256 ∧ p.b < 256
def rightN (p : Pn) : Bool := decide (p.f ≤ 31) && decide (p.g ≤ 16) && decide (p.b ≤ 16)
def zeroP : Pn := ⟨0, 0, 0⟩
/-- The flags, turned. -/
def flagN (f : Nat) (n : Int) : Nat :=
  if n = 0 then 0 else if n = 1 then withN f 1 true else if n = 2 then withN f 2 true else if n = 4 then withN f 4 true else if n = 5 then withN f 8 true else if n = 7 then withN f 16 true
  else if n = 22 then withN f 3 false else if n = 24 then withN f 4 false else if n = 25 then withN f 8 false else if n = 27 then withN f 16 false else f
/-- A color, turned by parameters that begin at 30 or at 40. -/
def dyeN (g : Nat) (n : Int) : Nat :=
  if 30 ≤ n ∧ n ≤ 37 then (n - 29).toNat else if 90 ≤ n ∧ n ≤ 97 then (n - 81).toNat else if n = 39 then 0 else g
def onceN (p : Pn) (n : Int) : Pn := if n = 0 then zeroP else ⟨flagN p.f n, dyeN p.g n, dyeN p.b (n - 10)⟩
def turnN (p : Pn) (l : List Int) : Pn := if l.isEmpty then zeroP else l.foldl onceN p

theorem flagN_lt (f : Nat) (n : Int) (hf : f < 256) : flagN f n < 256 := by
  unfold flagN
  repeat' split
  all_goals first
    | omega
    | (apply withN_lt <;> omega)
theorem dyeN_lt (g : Nat) (n : Int) (hg : g < 256) : dyeN g n < 256 := by
  unfold dyeN
  repeat' split
  all_goals omega
theorem onceN_ok (p : Pn) (n : Int) (h : p.ok) : (onceN p n).ok := by
  unfold onceN
  split
  · exact ⟨by decide, by decide, by decide⟩
  · exact ⟨flagN_lt _ _ h.1, dyeN_lt _ _ h.2.1, dyeN_lt _ _ h.2.2⟩
theorem foldN_ok (l : List Int) : ∀ p : Pn, p.ok → (l.foldl onceN p).ok := by
  induction l with
  | nil => exact fun p h => h
  | cons n l ih => exact fun p h => ih _ (onceN_ok p n h)
theorem turnN_ok (p : Pn) (l : List Int) (h : p.ok) : (turnN p l).ok := by
  unfold turnN
  split
  · exact ⟨by decide, by decide, by decide⟩
  · exact foldN_ok l p h
/-! a right pen stays right -/
theorem withN_le (f g : Nat) (on : Bool) (hf : f ≤ 31) (hg : g ≤ 31) : withN f g on ≤ 31 := by
  unfold withN
  split
  · have := Nat.or_lt_two_pow (n := 5) (show f < 2 ^ 5 by omega) (show g < 2 ^ 5 by omega)
    omega
  · have : f &&& (255 - g) ≤ f := Nat.and_le_left
    omega
theorem onceN_right (p : Pn) (n : Int) (h : rightN p = true) : rightN (onceN p n) = true := by
  unfold rightN at h ⊢
  simp only [Bool.and_eq_true, decide_eq_true_eq] at h ⊢
  obtain ⟨⟨h1, h2⟩, h3⟩ := h
  unfold onceN
  split
  · exact ⟨⟨by decide, by decide⟩, by decide⟩
  · refine ⟨⟨?_, ?_⟩, ?_⟩
    · show flagN p.f n ≤ 31
      unfold flagN
      repeat' split
      all_goals first
        | omega
        | (apply withN_le <;> omega)
    · show dyeN p.g n ≤ 16
      unfold dyeN
      repeat' split
      all_goals omega
    · show dyeN p.b (n - 10) ≤ 16
      unfold dyeN
      repeat' split
      all_goals omega
theorem foldN_right (l : List Int) : ∀ p : Pn, rightN p = true → rightN (l.foldl onceN p) = true := by
  induction l with
  | nil => exact fun p h => h
  | cons n l ih => exact fun p h => ih _ (onceN_right p n h)
theorem turnN_right (p : Pn) (l : List Int) (h : rightN p = true) : rightN (turnN p l) = true := by
  unfold turnN
  split
  · decide
  · exact foldN_right l p h
theorem turnN_append (p : Pn) (a b : List Int) (ha : 0 < a.length) (hb : 0 < b.length) : turnN p (a ++ b) = turnN (turnN p a) b := by
  cases a with
  | nil => simp at ha
  | cons x a =>
    cases b with
    | nil => simp at hb
    | cons y b => simp [turnN]

/-! ### the document's way: flag by flag, color by color -/
def onC (i : Nat) : Int := [1, 2, 4, 5, 7].getD i 0
def offC (i : Nat) : Int := [22, 22, 24, 25, 27].getD i 0
def bitC (i : Nat) : Nat := [1, 2, 4, 8, 16].getD i 0
def hasN (x b : Nat) : Bool := decide (x / b % 2 = 1)
def addF (n : Int) (i x : Nat) : Nat := if n = onC i ∧ hasN x (bitC i) = false then x + bitC i else x
def subF (n : Int) (i x : Nat) : Nat := if n = offC i ∧ hasN x (bitC i) = true then x - bitC i else x
def flagK (n : Int) (f : Nat) : Nat → Nat
  | 0 => f
  | k + 1 => subF n k (addF n k (flagK n f k))
theorem addF_lt (n : Int) (i x : Nat) (hi : i < 5) (h : x < 256) : addF n i x < 256 := by
  unfold addF hasN
  split
  · rename_i h1
    have h2 := h1.2
    simp only [decide_eq_false_iff_not] at h2
    match i, hi with
    | 0, _ => simp [bitC] at h2 ⊢; omega
    | 1, _ => simp [bitC] at h2 ⊢; omega
    | 2, _ => simp [bitC] at h2 ⊢; omega
    | 3, _ => simp [bitC] at h2 ⊢; omega
    | 4, _ => simp [bitC] at h2 ⊢; omega
  · exact h
theorem subF_lt (n : Int) (i x : Nat) (h : x < 256) : subF n i x < 256 := by
  unfold subF
  split <;> omega
theorem flagK_lt (n : Int) (f : Nat) (h : f < 256) : ∀ k, k ≤ 5 → flagK n f k < 256 := by
  intro k
  induction k with
  | zero => exact fun _ => h
  | succ k ih => exact fun hk => subF_lt n k _ (addF_lt n k _ (by omega) (ih (by omega)))
theorem flagK_other (n : Int) (f : Nat) (h : ∀ i, i < 5 → n ≠ onC i ∧ n ≠ offC i) : ∀ k, k ≤ 5 → flagK n f k = f := by
  intro k
  induction k with
  | zero => exact fun _ => rfl
  | succ k ih =>
    intro hk
    have := h k (by omega)
    simp [flagK, ih (by omega), addF, subF, this.1, this.2]
theorem flagK_all (n : Int) (f : Nat) (hf : f < 256) (h0 : n = 0 → f = 0) : flagK n f 5 = flagN f n := by
  by_cases h1 : n = 1
  · subst h1; revert f; decide +kernel
  by_cases h2 : n = 2
  · subst h2; revert f; decide +kernel
  by_cases h4 : n = 4
  · subst h4; revert f; decide +kernel
  by_cases h5 : n = 5
  · subst h5; revert f; decide +kernel
  by_cases h7 : n = 7
  · subst h7; revert f; decide +kernel
  by_cases h22 : n = 22
  · subst h22; revert f; decide +kernel
  by_cases h24 : n = 24
  · subst h24; revert f; decide +kernel
  by_cases h25 : n = 25
  · subst h25; revert f; decide +kernel
  by_cases h27 : n = 27
  · subst h27; revert f; decide +kernel
  rw [flagK_other n f ?_ 5 (Nat.le_refl _)]
  · unfold flagN
    split
    · rename_i h; exact h0 h
    · simp only []
  · intro i hi
    match i, hi with
    | 0, _ => exact ⟨h1, h22⟩
    | 1, _ => exact ⟨h2, h22⟩
    | 2, _ => exact ⟨h4, h24⟩
    | 3, _ => exact ⟨h5, h25⟩
    | 4, _ => exact ⟨h7, h27⟩
/-- A color behind k rounds. -/
def dyeK (g : Nat) (n : Int) (k : Nat) : Nat :=
  if 30 ≤ n ∧ n < 30 + k then (n - 29).toNat else if 90 ≤ n ∧ n < 90 + k then (n - 81).toNat else g
theorem dyeK_zero (g : Nat) (n : Int) : dyeK g n 0 = g := by
  unfold dyeK; rw [if_neg (by omega), if_neg (by omega)]
theorem dyeK_lo (g : Nat) (n : Int) (k : Nat) (hk : k < 8) (h : n = 30 + k) : dyeK g n (k + 1) = 1 + k := by
  unfold dyeK; rw [if_pos (by omega)]; omega
theorem dyeK_hi (g : Nat) (n : Int) (k : Nat) (hk : k < 8) (h : n = 90 + k) : dyeK g n (k + 1) = 9 + k := by
  unfold dyeK; rw [if_neg (by omega), if_pos (by omega)]; omega
theorem dyeK_no (g : Nat) (n : Int) (k : Nat) (h : n ≠ 30 + k) (h2 : n ≠ 90 + k) : dyeK g n (k + 1) = dyeK g n k := by
  unfold dyeK
  by_cases h3 : 30 ≤ n ∧ n < 30 + (k : Int)
  · rw [if_pos (by omega), if_pos h3]
  · rw [if_neg (by omega), if_neg h3]
    by_cases h4 : 90 ≤ n ∧ n < 90 + (k : Int)
    · rw [if_pos (by omega), if_pos h4]
    · rw [if_neg (by omega), if_neg h4]
theorem dyeK_lt (g : Nat) (n : Int) (k : Nat) (hk : k ≤ 8) (hg : g < 256) : dyeK g n k < 256 := by
  unfold dyeK
  repeat' split
  all_goals omega
theorem dyeK_all (g : Nat) (n : Int) : (if n = 39 then 0 else dyeK g n 8) = dyeN g n := by
  unfold dyeK dyeN
  repeat' split
  all_goals omega

/-! ### numbers -/
def numN (p : Pn) : Int := if rightN p then p.f + 32 * p.g + 1024 * p.b else -1
def ofN (n : Int) : Pn × Bool :=
  if 0 ≤ n ∧ n % 1024 / 32 ≤ 16 ∧ n / 1024 ≤ 16 then (⟨(n % 32).toNat, (n % 1024 / 32).toNat, (n / 1024).toNat⟩, true) else (zeroP, false)
theorem ofN_numN (p : Pn) (h : rightN p = true) : ofN (numN p) = (p, true) := by
  have h' := h
  unfold rightN at h'
  simp only [Bool.and_eq_true, decide_eq_true_eq] at h'
  obtain ⟨⟨h1, h2⟩, h3⟩ := h'
  unfold numN ofN
  rw [if_pos h, if_pos (by omega)]
  obtain ⟨f, g, b⟩ := p
  simp only at h1 h2 h3 ⊢
  congr 2 <;> omega
theorem ofN_not (p : Pn) (h : rightN p = false) : ofN (numN p) = (zeroP, false) := by
  have e : numN p = -1 := by unfold numN; rw [h]; rfl
  rw [e]
  rfl
theorem ofN_true (n : Int) (p : Pn) (h : ofN n = (p, true)) : rightN p = true ∧ numN p = n := by
  unfold ofN at h
  split at h
  · rename_i hc
    simp only [Prod.mk.injEq, and_true] at h
    subst h
    have : rightN ⟨(n % 32).toNat, (n % 1024 / 32).toNat, (n / 1024).toNat⟩ = true := by
      unfold rightN
      simp only [Bool.and_eq_true, decide_eq_true_eq]
      omega
    refine ⟨this, ?_⟩
    unfold numN
    rw [if_pos this]
    simp only
    omega
  · simp at h
end Go.Proofs.YthedfbkkeolkmaaDoor
