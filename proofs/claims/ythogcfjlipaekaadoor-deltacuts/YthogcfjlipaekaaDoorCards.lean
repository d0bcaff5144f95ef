/-
  DERIVED. GIVEN WITH THE SEED: THE CARDS: each row of YthogcfjlipaekaaDoorRows.lean that lists a variable, with what it lists TIED to the program's text (the seventh form; the later family's looks); each row that meets fmt, with fmt's text TOLD by the authors' own Lean function (tested against real Go, not proved from fmt's source: count such statements apart). THE CARD IS WHAT COUNTS. Prove the row's statement (the work); the ties are given (YthogcfjlipaekaaDoorTie.lean); close each card by the builder's one call (the guide's Derived/Test/ToyasCard.lean, 'card_holds'). Laid BY PROGRAM, IN A SANDBOX (cutbox-door.mjs). By AI agents, Wed Nov 11 2026. No macro, syntax, notation, axiom, sorry.
-/
import Derived.Test.YthogcfjlipaekaaDoorRows
import GoSem.ClaimSeven
namespace Go.Proofs.YthogcfjlipaekaaDoor
namespace Rows

/-- THE TIED CARD OF 'prolepsislaw12.DeltaTells'. -/
def deltaTellsCard : Claim7 := { stood := { row := deltaTellsRow, standIns := [], harness := (true, "eb1c7d1e7a01a92c248fe5527f965e3a697e56586fce824b676af7bae3ab1f2f"), looks := false }, kinds := [], alts := [], laidByText := true, laidKinds := [.data], laidTests := true, laidLooks := .later }
def DeltaTellsCardSaid : Prop := Claim7.holds Tryd.pinned (.plain (OpenSpec.ofChange deltaTellsSpec)) deltaTellsCard

/-- THE TIED CARD OF 'prolepsislaw12.DeltaParses'. -/
def deltaParsesCard : Claim7 := { stood := { row := deltaParsesRow, standIns := [], harness := (true, "eb1c7d1e7a01a92c248fe5527f965e3a697e56586fce824b676af7bae3ab1f2f"), looks := false }, kinds := [], alts := [], laidByText := true, laidKinds := [.data], laidTests := true, laidLooks := .later }
def DeltaParsesCardSaid : Prop := Claim7.holds Tryd.pinned (.plain (OpenSpec.ofChange deltaParsesSpec)) deltaParsesCard

/-- THE TIED CARD OF 'prolepsislaw12.DeltaCuts'. -/
def deltaCutsCard : Claim7 := { stood := { row := deltaCutsRow, standIns := [], harness := (true, "eb1c7d1e7a01a92c248fe5527f965e3a697e56586fce824b676af7bae3ab1f2f"), looks := false }, kinds := [], alts := [], laidByText := true, laidKinds := [.data], laidTests := true, laidLooks := .later }
def DeltaCutsCardSaid : Prop := Claim7.holds Tryd.pinned (.plain (OpenSpec.ofChange deltaCutsSpec)) deltaCutsCard

/-- THE SECOND FORM's CARD OF 'prolepsislaw12.DeltaTells'. -/
def deltaTellsUptoCard : Claim7 := { stood := { row := deltaTellsUptoRow, standIns := [], harness := (true, "eb1c7d1e7a01a92c248fe5527f965e3a697e56586fce824b676af7bae3ab1f2f"), looks := false }, kinds := [], alts := [], laidByText := true, laidKinds := [.data], laidTests := true, laidLooks := .later }
def DeltaTellsUptoCardSaid : Prop := Claim7.holds Tryd.pinned (.plain (OpenSpec.upto deltaTellsSpec)) deltaTellsUptoCard

/-- THE SECOND FORM's CARD OF 'prolepsislaw12.DeltaParses'. -/
def deltaParsesUptoCard : Claim7 := { stood := { row := deltaParsesUptoRow, standIns := [], harness := (true, "eb1c7d1e7a01a92c248fe5527f965e3a697e56586fce824b676af7bae3ab1f2f"), looks := false }, kinds := [], alts := [], laidByText := true, laidKinds := [.data], laidTests := true, laidLooks := .later }
def DeltaParsesUptoCardSaid : Prop := Claim7.holds Tryd.pinned (.plain (OpenSpec.upto deltaParsesSpec)) deltaParsesUptoCard

/-- THE SECOND FORM's CARD OF 'prolepsislaw12.DeltaCuts'. -/
def deltaCutsUptoCard : Claim7 := { stood := { row := deltaCutsUptoRow, standIns := [], harness := (true, "eb1c7d1e7a01a92c248fe5527f965e3a697e56586fce824b676af7bae3ab1f2f"), looks := false }, kinds := [], alts := [], laidByText := true, laidKinds := [.data], laidTests := true, laidLooks := .later }
def DeltaCutsUptoCardSaid : Prop := Claim7.holds Tryd.pinned (.plain (OpenSpec.upto deltaCutsSpec)) deltaCutsUptoCard
end Rows
end Go.Proofs.YthogcfjlipaekaaDoor
