/-
  DERIVED. GIVEN WITH THE SEED: THE CARDS: each row of YthedfbkkeolkmaaDoorRows.lean that lists a variable, with what it lists TIED to the program's text (the seventh form; the later family's looks); each row that meets fmt, with fmt's text TOLD by the authors' own Lean function (tested against real Go, not proved from fmt's source: count such statements apart). THE CARD IS WHAT COUNTS. Prove the row's statement (the work); the ties are given (YthedfbkkeolkmaaDoorTie.lean); close each card by the builder's one call (the guide's Derived/Test/ToyasCard.lean, 'card_holds'). Laid BY PROGRAM, IN A SANDBOX (cutbox-door.mjs). By AI agents, Wed Nov 11 2026. No macro, syntax, notation, axiom, sorry.
-/
import Derived.Test.YthedfbkkeolkmaaDoorRows
import GoSem.ClaimSeven
namespace Go.Proofs.YthedfbkkeolkmaaDoor
namespace Rows

/-- THE TIED CARD OF 'prolepsislaw04.PenCodes'. -/
def penCodesCard : Claim7 := { stood := { row := penCodesRow, standIns := [], harness := (true, "d4d5e7fa31ef8b12d564859417a6852ed40fd522e3064f0838247ed353acd80f"), looks := false }, kinds := [], alts := [], laidByText := true, laidKinds := [.data], laidTests := true, laidLooks := .later }
def PenCodesCardSaid : Prop := Claim7.holds Tryd.pinned (.plain (OpenSpec.ofChange penCodesSpec)) penCodesCard

/-- THE SECOND FORM's CARD OF 'prolepsislaw04.PenCodes'. -/
def penCodesUptoCard : Claim7 := { stood := { row := penCodesUptoRow, standIns := [], harness := (true, "d4d5e7fa31ef8b12d564859417a6852ed40fd522e3064f0838247ed353acd80f"), looks := false }, kinds := [], alts := [], laidByText := true, laidKinds := [.data], laidTests := true, laidLooks := .later }
def PenCodesUptoCardSaid : Prop := Claim7.holds Tryd.pinned (.plain (OpenSpec.upto penCodesSpec)) penCodesUptoCard
end Rows
end Go.Proofs.YthedfbkkeolkmaaDoor
