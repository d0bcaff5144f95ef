/-
  What the row's condition on the program's table gives the walks, and a start that meets it.
-/
import Derived.Test.YthedfbkkeolkmaaDoorCod
import Derived.Test.YthedfbkkeolkmaaDoorRows
import Derived.LaidMore
import Derived.Lib.LaidTab
import Derived.Stop.Joined
namespace Go.Proofs.YthedfbkkeolkmaaDoor
open Go.ChangeShapes Go.WideShapes Go.ChangeAt Go.RowKit
set_option linter.unusedVariables false

def laid1 : List (String × DataW Unit) := [("prolepsis/pen.flagCodes", Rows.laid_prolepsis_pen_flagCodes)]
theorem gFlags : Tryd.prog.globalNamed "prolepsis/pen.flagCodes" = some 0 := by kernel_rfl
theorem tFlags : (Tryd.prog.globals[0]?).map (·.type) = some 32 := by kernel_rfl

/-- The table lies where the walks want it. -/
theorem of_laid {W : World} (h : laidMetH Tryd.prog laid1 W) : Flags W := by
  rw [MakeChecks.laidMetH_plain _ _ _ (by kernel_rfl)] at h
  have ht := Lib.tabIs_of_head (k := .i64) (zs := [1, 2, 4, 5, 7]) (rest := []) gFlags tFlags Tryd.underlying32 Tryd.underlying3 (by kernel_rfl) (by kernel_rfl) h
  unfold Lib.TabIs at ht
  intro j hj
  have hc := World.var?_cell gFlags ht j
  rw [hc]
  match j, hj with
  | 0, _ => rfl
  | 1, _ => rfl
  | 2, _ => rfl
  | 3, _ => rfl
  | 4, _ => rfl

/-- The door's own heap meets the condition: three closed facts. -/
theorem door_met (os : Os) (args : Array Value) : laidMetH Tryd.prog laid1 ((World.doorLaid Tryd.prog 400 os).forCall (fun _ _ => 0) ⟨#[], args, []⟩).memory :=
  laidMetH_of_parts3 (fuel := 8) (laidMet_of_run' 8 (by kernel_rfl) (by kernel_rfl)) (by kernel_rfl) (by kernel_rfl)
end Go.Proofs.YthedfbkkeolkmaaDoor
