/-
  Grids aside.
-/
import Derived.Test.YtoddfaoifnkhlaaGreatDoorB14
namespace Go.Proofs.YtoddfaoifnkhlaaGreatDoor
set_option maxRecDepth 100000
open Go.ChangeShapes Go.WideShapes Go.ChangeAt Go.RowKit
set_option linter.unusedVariables false

theorem Grd.aside {w w' : World} {G L M R C : Nat} {g : Gd} {Gx Lx Mx Rx Cx : Nat} {gx : Gd} (hx : Grd w Gx Lx Mx Rx Cx gx) (hg : Grd w G L M R C g) (ht : Trn G L M w w') (hne : Gx ≠ G ∧ Lx ≠ L ∧ Mx ≠ M) : Grd w' Gx Lx Mx Rx Cx gx := by
  obtain ⟨cap', ps', room', more', ha'⟩ := hg
  obtain ⟨cap0, ps0, room0, more0, ha⟩ := hx
  exact ⟨cap0, ps0, room0, more0, ha.same (ht.block _ ha.top.lt hne.1 (ha.top.ne ha'.lines (by decide)) (ha.top.ne ha'.piece (by decide))) (ht.block _ ha.lines.lt (ha.lines.ne ha'.top (by decide)) hne.2.1 (ha.lines.ne ha'.piece (by decide))) (ht.block _ ha.piece.lt (ha.piece.ne ha'.top (by decide)) (ha.piece.ne ha'.lines (by decide)) hne.2.2)⟩
theorem aside_next {w : World} {G L M G' L' M' : Nat} {Gx Lx Mx Rx Cx : Nat} {gx : Gd} (hx : Grd w Gx Lx Mx Rx Cx gx) (hne : Gx ≠ G ∧ Lx ≠ L ∧ Mx ≠ M) (hG : G' = G ∨ w.heap.size ≤ G') (hL : L' = L ∨ w.heap.size ≤ L') (hM : M' = M ∨ w.heap.size ≤ M') : Gx ≠ G' ∧ Lx ≠ L' ∧ Mx ≠ M' := by
  have h1 := hx.ltG
  have h2 := hx.ltL
  have h3 := hx.ltM
  obtain ⟨n1, n2, n3⟩ := hne
  refine ⟨?_, ?_, ?_⟩
  · rcases hG with q | q <;> omega
  · rcases hL with q | q <;> omega
  · rcases hM with q | q <;> omega
theorem aside_new {w : World} {G L M R C : Nat} {g : Gd} {Gx Lx Mx : Nat} (hg : Grd w G L M R C g) (h1 : w.heap.size ≤ Gx) (h2 : w.heap.size ≤ Lx) (h3 : w.heap.size ≤ Mx) : Gx ≠ G ∧ Lx ≠ L ∧ Mx ≠ M := by
  have := hg.ltG
  have := hg.ltL
  have := hg.ltM
  omega
end Go.Proofs.YtoddfaoifnkhlaaGreatDoor
