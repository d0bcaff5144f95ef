/-
  DERIVED. GIVEN WITH THE SEED: THE CARDS: each row of YtiifeniijcnahaaGreatDoorRows.lean that lists a variable, with what it lists TIED to the program's text (the seventh form; the later family's looks); each row that meets fmt, with fmt's text TOLD by the authors' own Lean function (tested against real Go, not proved from fmt's source: count such statements apart). THE CARD IS WHAT COUNTS. Prove the row's statement (the work); the ties are given (YtiifeniijcnahaaGreatDoorTie.lean); close each card by the builder's one call (the guide's Derived/Test/ToyasCard.lean, 'card_holds'). Laid BY PROGRAM, IN A SANDBOX (cutbox-door.mjs). By AI agents, Wed Nov 11 2026. No macro, syntax, notation, axiom, sorry.
-/
import Derived.Test.YtiifeniijcnahaaGreatDoorRows
import GoSem.ClaimSeven
namespace Go.Proofs.YtiifeniijcnahaaGreatDoor
namespace Rows

/-- THE TIED CARD OF 'prolepsislaw07.GridPlays'. -/
def gridPlaysCard : Claim7 := { stood := { row := gridPlaysRow, standIns := [], harness := (true, "76ae89610b691ae0d8605144872813742ab6908a670187543f518e5237298b79"), looks := false }, kinds := [], alts := [], laidByText := true, laidKinds := [.data], laidTests := true, laidLooks := .later }
def GridPlaysCardSaid : Prop := Claim7.holds Tryz.pinned (.plain (OpenSpec.ofChange gridPlaysSpec)) gridPlaysCard

/-- THE TIED CARD OF 'prolepsislaw07.GridApart'. -/
def gridApartCard : Claim7 := { stood := { row := gridApartRow, standIns := [], harness := (true, "76ae89610b691ae0d8605144872813742ab6908a670187543f518e5237298b79"), looks := false }, kinds := [], alts := [], laidByText := true, laidKinds := [.data], laidTests := true, laidLooks := .later }
def GridApartCardSaid : Prop := Claim7.holds Tryz.pinned (.plain (OpenSpec.ofChange gridApartSpec)) gridApartCard

/-- THE SECOND FORM's CARD OF 'prolepsislaw07.GridPlays'. -/
def gridPlaysUptoCard : Claim7 := { stood := { row := gridPlaysUptoRow, standIns := [], harness := (true, "76ae89610b691ae0d8605144872813742ab6908a670187543f518e5237298b79"), looks := false }, kinds := [], alts := [], laidByText := true, laidKinds := [.data], laidTests := true, laidLooks := .later }
def GridPlaysUptoCardSaid : Prop := Claim7.holds Tryz.pinned (.plain (OpenSpec.upto gridPlaysSpec)) gridPlaysUptoCard

/-- THE SECOND FORM's CARD OF 'prolepsislaw07.GridApart'. -/
def gridApartUptoCard : Claim7 := { stood := { row := gridApartUptoRow, standIns := [], harness := (true, "76ae89610b691ae0d8605144872813742ab6908a670187543f518e5237298b79"), looks := false }, kinds := [], alts := [], laidByText := true, laidKinds := [.data], laidTests := true, laidLooks := .later }
def GridApartUptoCardSaid : Prop := Claim7.holds Tryz.pinned (.plain (OpenSpec.upto gridApartSpec)) gridApartUptoCard
end Rows
end Go.Proofs.YtiifeniijcnahaaGreatDoor
