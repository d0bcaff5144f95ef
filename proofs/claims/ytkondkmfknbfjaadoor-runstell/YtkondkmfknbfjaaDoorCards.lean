/-
  DERIVED. GIVEN WITH THE SEED: THE CARDS: each row of YtkondkmfknbfjaaDoorRows.lean that lists a variable, with what it lists TIED to the program's text (the seventh form; the later family's looks); each row that meets fmt, with fmt's text TOLD by the authors' own Lean function (tested against real Go, not proved from fmt's source: count such statements apart). THE CARD IS WHAT COUNTS. Prove the row's statement (the work); the ties are given (YtkondkmfknbfjaaDoorTie.lean); close each card by the builder's one call (the guide's Derived/Test/ToyasCard.lean, 'card_holds'). Laid BY PROGRAM, IN A SANDBOX (cutbox-door.mjs). By AI agents, Wed Nov 11 2026. No macro, syntax, notation, axiom, sorry.
-/
import Derived.Test.YtkondkmfknbfjaaDoorRows
import GoSem.ClaimSeven
namespace Go.Proofs.YtkondkmfknbfjaaDoor
namespace Rows

/-- THE TIED CARD OF 'prolepsislaw10.RunsTell'. -/
def runsTellCard : Claim7 := { stood := { row := runsTellRow, standIns := [], harness := (true, "3ad55f6274225f4222497405716817a4e90e3612c2f7728b56905d6a264504a3"), looks := false }, kinds := [], alts := [], laidByText := true, laidKinds := [.data], laidTests := true, laidLooks := .later }
def RunsTellCardSaid : Prop := Claim7.holds Tryd.pinned (.plain (OpenSpec.ofChange runsTellSpec)) runsTellCard

/-- THE TIED CARD OF 'prolepsislaw10.RunsParse'. -/
def runsParseCard : Claim7 := { stood := { row := runsParseRow, standIns := [], harness := (true, "3ad55f6274225f4222497405716817a4e90e3612c2f7728b56905d6a264504a3"), looks := false }, kinds := [], alts := [], laidByText := true, laidKinds := [.data], laidTests := true, laidLooks := .later }
def RunsParseCardSaid : Prop := Claim7.holds Tryd.pinned (.plain (OpenSpec.ofChange runsParseSpec)) runsParseCard

/-- THE TIED CARD OF 'prolepsislaw10.RunsMany'. -/
def runsManyCard : Claim7 := { stood := { row := runsManyRow, standIns := [], harness := (true, "3ad55f6274225f4222497405716817a4e90e3612c2f7728b56905d6a264504a3"), looks := false }, kinds := [], alts := [], laidByText := true, laidKinds := [.data], laidTests := true, laidLooks := .later }
def RunsManyCardSaid : Prop := Claim7.holds Tryd.pinned (.plain (OpenSpec.ofChange runsManySpec)) runsManyCard

/-- THE SECOND FORM's CARD OF 'prolepsislaw10.RunsTell'. -/
def runsTellUptoCard : Claim7 := { stood := { row := runsTellUptoRow, standIns := [], harness := (true, "3ad55f6274225f4222497405716817a4e90e3612c2f7728b56905d6a264504a3"), looks := false }, kinds := [], alts := [], laidByText := true, laidKinds := [.data], laidTests := true, laidLooks := .later }
def RunsTellUptoCardSaid : Prop := Claim7.holds Tryd.pinned (.plain (OpenSpec.upto runsTellSpec)) runsTellUptoCard

/-- THE SECOND FORM's CARD OF 'prolepsislaw10.RunsParse'. -/
def runsParseUptoCard : Claim7 := { stood := { row := runsParseUptoRow, standIns := [], harness := (true, "3ad55f6274225f4222497405716817a4e90e3612c2f7728b56905d6a264504a3"), looks := false }, kinds := [], alts := [], laidByText := true, laidKinds := [.data], laidTests := true, laidLooks := .later }
def RunsParseUptoCardSaid : Prop := Claim7.holds Tryd.pinned (.plain (OpenSpec.upto runsParseSpec)) runsParseUptoCard

/-- THE SECOND FORM's CARD OF 'prolepsislaw10.RunsMany'. -/
def runsManyUptoCard : Claim7 := { stood := { row := runsManyUptoRow, standIns := [], harness := (true, "3ad55f6274225f4222497405716817a4e90e3612c2f7728b56905d6a264504a3"), looks := false }, kinds := [], alts := [], laidByText := true, laidKinds := [.data], laidTests := true, laidLooks := .later }
def RunsManyUptoCardSaid : Prop := Claim7.holds Tryd.pinned (.plain (OpenSpec.upto runsManySpec)) runsManyUptoCard
end Rows
end Go.Proofs.YtkondkmfknbfjaaDoor
