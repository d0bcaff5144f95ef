/-
  What is asked of a cell and of a pen that came in.
-/
import Derived.Test.YtdeoeihbmdgipaaDoorCLaw
namespace Go.Proofs.YtdeoeihbmdgipaaDoor
open Go.ChangeShapes Go.WideShapes Go.ChangeAt Go.RowKit
set_option linter.unusedVariables false

/-- The numbers of a cell that came in. -/
def CelOk (r m n : Int) (d f g b : Nat) : Prop := R32 r ∧ R32 m ∧ R32 n ∧ d < 256 ∧ f < 256 ∧ g < 256 ∧ b < 256
def PenOk (f g b : Nat) : Prop := f < 256 ∧ g < 256 ∧ b < 256
theorem runes_rn {r m n : Int} {d f g b : Nat} (h : CelOk r m n d f g b) : Rn (runesC ⟨r, m, n, d, ⟨f, g, b⟩⟩) := by
  obtain ⟨h1, h2, h3, -⟩ := h
  intro x hx
  unfold runesC at hx
  split at hx
  · simp only [List.mem_append] at hx
    rcases hx with (hx | hx) | hx
    · simp at hx; subst hx; exact h1
    · split at hx
      · cases hx
      · simp at hx; subst hx; exact h2
    · split at hx
      · cases hx
      · simp at hx; subst hx; exact h3
  · cases hx
end Go.Proofs.YtdeoeihbmdgipaaDoor
