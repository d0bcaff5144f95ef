/-
  DERIVED. GIVEN WITH THE SEED: THE CARDS: each row of YtmggkdimjdbmoaaDoorRows.lean that lists a variable, with what it lists TIED to the program's text (the seventh form; the later family's looks); each row that meets fmt, with fmt's text TOLD by the authors' own Lean function (tested against real Go, not proved from fmt's source: count such statements apart). THE CARD IS WHAT COUNTS. Prove the row's statement (the work); the ties are given (YtmggkdimjdbmoaaDoorTie.lean); close each card by the builder's one call (the guide's Derived/Test/ToyasCard.lean, 'card_holds'). Laid BY PROGRAM, IN A SANDBOX (cutbox-door.mjs). By AI agents, Wed Nov 11 2026. No macro, syntax, notation, axiom, sorry.
-/
import Derived.Test.YtmggkdimjdbmoaaDoorRows
import GoSem.ClaimSeven
namespace Go.Proofs.YtmggkdimjdbmoaaDoor
namespace Rows

/-- THE TIED CARD OF 'prolepsislaw05.CellMakes'. -/
def cellMakesCard : Claim7 := { stood := { row := cellMakesRow, standIns := [], harness := (true, "66d3fad817ed3d934e4247e0c31024edd14f5c602c36e9367d3651e164b351a3"), looks := false }, kinds := [], alts := [], laidByText := true, laidKinds := [.data], laidTests := true, laidLooks := .later }
def CellMakesCardSaid : Prop := Claim7.holds Tryd.pinned (.plain (OpenSpec.ofChange cellMakesSpec)) cellMakesCard

/-- THE TIED CARD OF 'prolepsislaw05.CellRight'. -/
def cellRightCard : Claim7 := { stood := { row := cellRightRow, standIns := [], harness := (true, "66d3fad817ed3d934e4247e0c31024edd14f5c602c36e9367d3651e164b351a3"), looks := false }, kinds := [], alts := [], laidByText := true, laidKinds := [.data], laidTests := true, laidLooks := .later }
def CellRightCardSaid : Prop := Claim7.holds Tryd.pinned (.plain (OpenSpec.ofChange cellRightSpec)) cellRightCard

/-- THE TIED CARD OF 'prolepsislaw05.CellStays'. -/
def cellStaysCard : Claim7 := { stood := { row := cellStaysRow, standIns := [], harness := (true, "66d3fad817ed3d934e4247e0c31024edd14f5c602c36e9367d3651e164b351a3"), looks := false }, kinds := [], alts := [], laidByText := true, laidKinds := [.data], laidTests := true, laidLooks := .later }
def CellStaysCardSaid : Prop := Claim7.holds Tryd.pinned (.plain (OpenSpec.ofChange cellStaysSpec)) cellStaysCard

/-- THE SECOND FORM's CARD OF 'prolepsislaw05.CellMakes'. -/
def cellMakesUptoCard : Claim7 := { stood := { row := cellMakesUptoRow, standIns := [], harness := (true, "66d3fad817ed3d934e4247e0c31024edd14f5c602c36e9367d3651e164b351a3"), looks := false }, kinds := [], alts := [], laidByText := true, laidKinds := [.data], laidTests := true, laidLooks := .later }
def CellMakesUptoCardSaid : Prop := Claim7.holds Tryd.pinned (.plain (OpenSpec.upto cellMakesSpec)) cellMakesUptoCard

/-- THE SECOND FORM's CARD OF 'prolepsislaw05.CellRight'. -/
def cellRightUptoCard : Claim7 := { stood := { row := cellRightUptoRow, standIns := [], harness := (true, "66d3fad817ed3d934e4247e0c31024edd14f5c602c36e9367d3651e164b351a3"), looks := false }, kinds := [], alts := [], laidByText := true, laidKinds := [.data], laidTests := true, laidLooks := .later }
def CellRightUptoCardSaid : Prop := Claim7.holds Tryd.pinned (.plain (OpenSpec.upto cellRightSpec)) cellRightUptoCard

/-- THE SECOND FORM's CARD OF 'prolepsislaw05.CellStays'. -/
def cellStaysUptoCard : Claim7 := { stood := { row := cellStaysUptoRow, standIns := [], harness := (true, "66d3fad817ed3d934e4247e0c31024edd14f5c602c36e9367d3651e164b351a3"), looks := false }, kinds := [], alts := [], laidByText := true, laidKinds := [.data], laidTests := true, laidLooks := .later }
def CellStaysUptoCardSaid : Prop := Claim7.holds Tryd.pinned (.plain (OpenSpec.upto cellStaysSpec)) cellStaysUptoCard
end Rows
end Go.Proofs.YtmggkdimjdbmoaaDoor
