/-
  DERIVED. GIVEN WITH THE SEED: THE CARDS: each row of YtdeoeihbmdgipaaDoorRows.lean that lists a variable, with what it lists TIED to the program's text (the seventh form; the later family's looks); each row that meets fmt, with fmt's text TOLD by the authors' own Lean function (tested against real Go, not proved from fmt's source: count such statements apart). THE CARD IS WHAT COUNTS. Prove the row's statement (the work); the ties are given (YtdeoeihbmdgipaaDoorTie.lean); close each card by the builder's one call (the guide's Derived/Test/ToyasCard.lean, 'card_holds'). Laid BY PROGRAM, IN A SANDBOX (cutbox-door.mjs). By AI agents, Wed Nov 11 2026. No macro, syntax, notation, axiom, sorry.
-/
import Derived.Test.YtdeoeihbmdgipaaDoorRows
import GoSem.ClaimSeven
namespace Go.Proofs.YtdeoeihbmdgipaaDoor
namespace Rows

/-- THE TIED CARD OF 'prolepsislaw06.LineMakes'. -/
def lineMakesCard : Claim7 := { stood := { row := lineMakesRow, standIns := [], harness := (true, "8c4c73d857294dc678aafe674b28f845c122d9604232b344f98287fc462fe5fd"), looks := false }, kinds := [], alts := [], laidByText := true, laidKinds := [.data], laidTests := true, laidLooks := .later }
def LineMakesCardSaid : Prop := Claim7.holds Tryd.pinned (.plain (OpenSpec.ofChange lineMakesSpec)) lineMakesCard

/-- THE TIED CARD OF 'prolepsislaw06.LineAsks'. -/
def lineAsksCard : Claim7 := { stood := { row := lineAsksRow, standIns := [], harness := (true, "8c4c73d857294dc678aafe674b28f845c122d9604232b344f98287fc462fe5fd"), looks := false }, kinds := [], alts := [], laidByText := true, laidKinds := [.data], laidTests := true, laidLooks := .later }
def LineAsksCardSaid : Prop := Claim7.holds Tryd.pinned (.plain (OpenSpec.ofChange lineAsksSpec)) lineAsksCard

/-- THE TIED CARD OF 'prolepsislaw06.LineStays'. -/
def lineStaysCard : Claim7 := { stood := { row := lineStaysRow, standIns := [], harness := (true, "8c4c73d857294dc678aafe674b28f845c122d9604232b344f98287fc462fe5fd"), looks := false }, kinds := [], alts := [], laidByText := true, laidKinds := [.data], laidTests := true, laidLooks := .later }
def LineStaysCardSaid : Prop := Claim7.holds Tryd.pinned (.plain (OpenSpec.ofChange lineStaysSpec)) lineStaysCard

/-- THE TIED CARD OF 'prolepsislaw06.LineTwice'. -/
def lineTwiceCard : Claim7 := { stood := { row := lineTwiceRow, standIns := [], harness := (true, "8c4c73d857294dc678aafe674b28f845c122d9604232b344f98287fc462fe5fd"), looks := false }, kinds := [], alts := [], laidByText := true, laidKinds := [.data], laidTests := true, laidLooks := .later }
def LineTwiceCardSaid : Prop := Claim7.holds Tryd.pinned (.plain (OpenSpec.ofChange lineTwiceSpec)) lineTwiceCard

/-- THE SECOND FORM's CARD OF 'prolepsislaw06.LineMakes'. -/
def lineMakesUptoCard : Claim7 := { stood := { row := lineMakesUptoRow, standIns := [], harness := (true, "8c4c73d857294dc678aafe674b28f845c122d9604232b344f98287fc462fe5fd"), looks := false }, kinds := [], alts := [], laidByText := true, laidKinds := [.data], laidTests := true, laidLooks := .later }
def LineMakesUptoCardSaid : Prop := Claim7.holds Tryd.pinned (.plain (OpenSpec.upto lineMakesSpec)) lineMakesUptoCard

/-- THE SECOND FORM's CARD OF 'prolepsislaw06.LineAsks'. -/
def lineAsksUptoCard : Claim7 := { stood := { row := lineAsksUptoRow, standIns := [], harness := (true, "8c4c73d857294dc678aafe674b28f845c122d9604232b344f98287fc462fe5fd"), looks := false }, kinds := [], alts := [], laidByText := true, laidKinds := [.data], laidTests := true, laidLooks := .later }
def LineAsksUptoCardSaid : Prop := Claim7.holds Tryd.pinned (.plain (OpenSpec.upto lineAsksSpec)) lineAsksUptoCard

/-- THE SECOND FORM's CARD OF 'prolepsislaw06.LineStays'. -/
def lineStaysUptoCard : Claim7 := { stood := { row := lineStaysUptoRow, standIns := [], harness := (true, "8c4c73d857294dc678aafe674b28f845c122d9604232b344f98287fc462fe5fd"), looks := false }, kinds := [], alts := [], laidByText := true, laidKinds := [.data], laidTests := true, laidLooks := .later }
def LineStaysUptoCardSaid : Prop := Claim7.holds Tryd.pinned (.plain (OpenSpec.upto lineStaysSpec)) lineStaysUptoCard

/-- THE SECOND FORM's CARD OF 'prolepsislaw06.LineTwice'. -/
def lineTwiceUptoCard : Claim7 := { stood := { row := lineTwiceUptoRow, standIns := [], harness := (true, "8c4c73d857294dc678aafe674b28f845c122d9604232b344f98287fc462fe5fd"), looks := false }, kinds := [], alts := [], laidByText := true, laidKinds := [.data], laidTests := true, laidLooks := .later }
def LineTwiceUptoCardSaid : Prop := Claim7.holds Tryd.pinned (.plain (OpenSpec.upto lineTwiceSpec)) lineTwiceUptoCard
end Rows
end Go.Proofs.YtdeoeihbmdgipaaDoor
