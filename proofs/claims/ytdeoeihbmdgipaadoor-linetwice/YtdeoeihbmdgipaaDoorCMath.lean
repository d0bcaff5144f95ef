/-
  Plain mathematics of layer 5 (cell): what is made of runes, marks and pens, which cells are right, their runes. No Go text, no program.
-/
import Derived.Test.YtdeoeihbmdgipaaDoorWMath
namespace Go.Proofs.YtdeoeihbmdgipaaDoor
set_option linter.unusedVariables false

/-- A pen's three bytes. -/
structure Pn where
  f : Nat
  g : Nat
  b : Nat
deriving DecidableEq
def zeroP : Pn := ⟨0, 0, 0⟩
def rightN (p : Pn) : Bool := decide (p.f ≤ 31) && (decide (p.g ≤ 16) && decide (p.b ≤ 16))

/-- A cell: its rune, two marks, its width, its pen. -/
structure Cel where
  r : Int
  m : Int
  n : Int
  w : Nat
  p : Pn
deriving DecidableEq
def zeroC : Cel := ⟨0, 0, 0, 0, zeroP⟩
def blankC (p : Pn) : Cel := ⟨32, 0, 0, 1, p⟩
def restC (c : Cel) : Cel := ⟨0, 0, 0, 0, c.p⟩
def withC (c : Cel) (p : Pn) : Cel := { c with p := p }
def ofC (r : Int) (p : Pn) : Cel × Bool := if wOf r = 1 then (⟨r, 0, 0, 1, p⟩, true) else if wOf r = 2 then (⟨r, 0, 0, 2, p⟩, true) else (zeroC, false)
def bearsC (c : Cel) : Bool := decide (c.w = 1 ∨ c.w = 2)
def markC (c : Cel) (r : Int) : Cel × Bool :=
  if wOf r = 0 ∧ bearsC c = true then (if c.m = 0 then ({ c with m := r }, true) else if c.n = 0 then ({ c with n := r }, true) else (c, false)) else (c, false)
def marksC (m n : Int) : Bool := if m = 0 then decide (n = 0) else decide (wOf m = 0) && (decide (n = 0) || decide (wOf n = 0))
def rightC (c : Cel) : Bool :=
  rightN c.p && (if c.w = 0 then decide (c.r = 0 ∧ c.m = 0 ∧ c.n = 0) else if bearsC c = true then decide (wOf c.r = c.w) && marksC c.m c.n else false)
def alikeC (a b : Cel) : Bool := decide (a.r = b.r ∧ a.m = b.m ∧ a.n = b.n ∧ a.w = b.w)
def runesC (c : Cel) : List Int := if bearsC c = true then [c.r] ++ (if c.m = 0 then [] else [c.m]) ++ (if c.n = 0 then [] else [c.n]) else []

theorem wOf_zero : wOf 0 = -1 := by decide
theorem wOf_32 : wOf 32 = 1 := by decide +kernel
theorem wOf_a : wOf 97 = 1 := by decide +kernel
theorem wOf_acute : wOf 769 = 0 := by decide +kernel
theorem wOf_hira : wOf 12354 = 2 := by decide +kernel

/-! ### what is made of what is right is right -/
theorem right_pen {c : Cel} (h : rightC c = true) : rightN c.p = true := by
  unfold rightC at h; simp only [Bool.and_eq_true] at h; exact h.1
theorem right_rest {c : Cel} (h : rightC c = true) : rightC (restC c) = true := by
  have := right_pen h
  unfold rightC restC; simp [this]
theorem right_blank {p : Pn} (h : rightN p = true) : rightC (blankC p) = true := by
  unfold rightC blankC; simp [h, bearsC, wOf_32, marksC]
theorem right_with {c : Cel} {p : Pn} (h : rightC c = true) (hp : rightN p = true) : rightC (withC c p) = true := by
  unfold rightC at h ⊢; simp only [Bool.and_eq_true] at h ⊢; exact ⟨hp, h.2⟩
theorem right_of {r : Int} {p : Pn} (hp : rightN p = true) (h : (ofC r p).2 = true) : rightC (ofC r p).1 = true := by
  unfold ofC at h ⊢
  by_cases h1 : wOf r = 1
  · rw [if_pos h1]; unfold rightC; simp [hp, bearsC, h1, marksC]
  · rw [if_neg h1] at h ⊢
    by_cases h2 : wOf r = 2
    · rw [if_pos h2]; unfold rightC; simp [hp, bearsC, h2, marksC]
    · rw [if_neg h2] at h; cases h
theorem mark_ne {r : Int} (h : wOf r = 0) : r ≠ 0 := by rintro rfl; rw [wOf_zero] at h; cases h
theorem right_mark {c : Cel} {r : Int} (h : rightC c = true) : rightC (markC c r).1 = true := by
  unfold markC
  by_cases h1 : wOf r = 0 ∧ bearsC c = true
  · rw [if_pos h1]
    obtain ⟨h1, h2⟩ := h1
    have h0 : c.w ≠ 0 := by intro q; unfold bearsC at h2; simp [q] at h2
    unfold rightC at h
    simp only [Bool.and_eq_true, if_neg h0, if_pos h2] at h
    obtain ⟨hp, hw, hm⟩ := h
    have hn := mark_ne h1
    by_cases hm0 : c.m = 0
    · rw [if_pos hm0]
      have hn0 : c.n = 0 := by unfold marksC at hm; simpa [hm0] using hm
      unfold rightC
      simp only [Bool.and_eq_true, if_neg h0]
      refine ⟨hp, ?_⟩
      refine (if_pos (show bearsC _ = true from h2)).trans ?_
      simp only [Bool.and_eq_true]
      refine ⟨hw, ?_⟩
      unfold marksC; simp [hn, h1, hn0]
    · rw [if_neg hm0]
      by_cases hn0 : c.n = 0
      · rw [if_pos hn0]
        unfold rightC
        simp only [Bool.and_eq_true, if_neg h0]
        refine ⟨hp, ?_⟩
        refine (if_pos (show bearsC _ = true from h2)).trans ?_
        simp only [Bool.and_eq_true]
        refine ⟨hw, ?_⟩
        unfold marksC at hm ⊢
        simp only [hm0, if_false, Bool.and_eq_true, decide_eq_true_iff] at hm ⊢
        exact ⟨hm.1, by simp [h1]⟩
      · rw [if_neg hn0]
        unfold rightC
        simp only [Bool.and_eq_true, if_neg h0, if_pos h2]
        exact ⟨hp, hw, hm⟩
  · rw [if_neg h1]; exact h

/-! ### a right cell's runes -/
theorem runes_len (c : Cel) : (runesC c).length ≤ 3 := by
  unfold runesC; split
  · split <;> split <;> simp
  · simp
theorem runes_half {c : Cel} (h : c.w = 0) : runesC c = [] := by unfold runesC bearsC; simp [h]
theorem runes_bears {c : Cel} (h : rightC c = true) (h0 : c.w ≠ 0) : tot (runesC c) = c.w ∧ (clus (runesC c)).length = 1 := by
  unfold rightC at h
  simp only [Bool.and_eq_true, if_neg h0] at h
  obtain ⟨hp, h⟩ := h
  by_cases hb : bearsC c = true
  · rw [if_pos hb] at h
    simp only [Bool.and_eq_true, decide_eq_true_iff] at h
    obtain ⟨hw, hm⟩ := h
    have hpos : 1 ≤ wOf c.r := by unfold bearsC at hb; simp at hb; omega
    have hpr : pos c.r = c.w := by unfold pos; rw [if_pos (by omega)]; exact hw
    have key : ∀ l : List Int, (∀ x ∈ l, wOf x = 0) → tot (c.r :: l) = c.w ∧ (clus (c.r :: l)).length = 1 := by
      intro l hl
      have t0 : tot l = 0 := by
        clear hm
        induction l with
        | nil => rfl
        | cons x l ih =>
          have hx := hl x (by simp)
          have := ih (fun y hy => hl y (by simp [hy]))
          simp [tot, pos, hx, this]
      have c0 : clus l = [] := by
        clear hm t0
        induction l with
        | nil => rfl
        | cons x l ih =>
          have hx := hl x (by simp)
          have := ih (fun y hy => hl y (by simp [hy]))
          unfold clus; rw [if_pos (by omega)]; exact this
      refine ⟨by simp [tot, hpr, t0], ?_⟩
      unfold clus
      rw [if_neg (by omega), c0]
      rfl
    unfold runesC
    rw [if_pos hb]
    unfold marksC at hm
    by_cases hm0 : c.m = 0
    · have hn0 : c.n = 0 := by simpa [hm0] using hm
      simp only [hm0, hn0, if_true, List.append_nil]
      exact key [] (by simp)
    · rw [if_neg hm0] at hm
      simp only [Bool.and_eq_true, Bool.or_eq_true, decide_eq_true_iff] at hm
      by_cases hn0 : c.n = 0
      · simp only [hm0, hn0, if_true, if_false, List.append_nil]
        exact key [c.m] (by simp [hm.1])
      · simp only [hm0, hn0, if_false]
        have hn : wOf c.n = 0 := by rcases hm.2 with q | q; exact absurd q hn0; exact q
        exact key [c.m, c.n] (by simp [hm.1, hn])
  · rw [if_neg hb] at h; cases h
end Go.Proofs.YtdeoeihbmdgipaaDoor
