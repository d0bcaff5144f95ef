/-
  DERIVED. GIVEN WITH THE SEED: THE CARDS: each row of YtkijclgbpbhglaaGreatDoorRows.lean that lists a variable, with what it lists TIED to the program's text (the seventh form; the later family's looks); each row that meets fmt, with fmt's text TOLD by the authors' own Lean function (tested against real Go, not proved from fmt's source: count such statements apart). THE CARD IS WHAT COUNTS. Prove the row's statement (the work); the ties are given (YtkijclgbpbhglaaGreatDoorTie.lean); close each card by the builder's one call (the guide's Derived/Test/ToyasCard.lean, 'card_holds'). Laid BY PROGRAM, IN A SANDBOX (cutbox-door.mjs). By AI agents, Wed Nov 11 2026. No macro, syntax, notation, axiom, sorry.
-/
import Derived.Test.YtkijclgbpbhglaaGreatDoorRows
import GoSem.ClaimSeven
namespace Go.Proofs.YtkijclgbpbhglaaGreatDoor
namespace Rows

/-- THE TIED CARD OF 'prolepsislaw09.EmuPlays'. -/
def emuPlaysCard : Claim7 := { stood := { row := emuPlaysRow, standIns := [], harness := (true, "630cdef78845fde679437a94169f1a52925d1e3815a5f4218384a17a872704a8"), looks := false }, kinds := [], alts := [], laidByText := true, laidKinds := [.data], laidTests := true, laidLooks := .later }
def EmuPlaysCardSaid : Prop := Claim7.holds Tryz.pinned (.plain (OpenSpec.ofChange emuPlaysSpec)) emuPlaysCard

/-- THE TIED CARD OF 'prolepsislaw09.EmuDoes'. -/
def emuDoesCard : Claim7 := { stood := { row := emuDoesRow, standIns := [], harness := (true, "630cdef78845fde679437a94169f1a52925d1e3815a5f4218384a17a872704a8"), looks := false }, kinds := [], alts := [], laidByText := true, laidKinds := [.data], laidTests := true, laidLooks := .later }
def EmuDoesCardSaid : Prop := Claim7.holds Tryz.pinned (.plain (OpenSpec.ofChange emuDoesSpec)) emuDoesCard

/-- THE TIED CARD OF 'prolepsislaw09.EmuCuts'. -/
def emuCutsCard : Claim7 := { stood := { row := emuCutsRow, standIns := [], harness := (true, "630cdef78845fde679437a94169f1a52925d1e3815a5f4218384a17a872704a8"), looks := false }, kinds := [], alts := [], laidByText := true, laidKinds := [.data], laidTests := true, laidLooks := .later }
def EmuCutsCardSaid : Prop := Claim7.holds Tryz.pinned (.plain (OpenSpec.ofChange emuCutsSpec)) emuCutsCard

/-- THE TIED CARD OF 'prolepsislaw09.EmuNil'. -/
def emuNilCard : Claim7 := { stood := { row := emuNilRow, standIns := [], harness := (true, "630cdef78845fde679437a94169f1a52925d1e3815a5f4218384a17a872704a8"), looks := false }, kinds := [], alts := [], laidByText := true, laidKinds := [.data], laidTests := true, laidLooks := .later }
def EmuNilCardSaid : Prop := Claim7.holds Tryz.pinned (.plain (OpenSpec.ofChange emuNilSpec)) emuNilCard

/-- THE TIED CARD OF 'prolepsislaw09.EmuPrints'. -/
def emuPrintsCard : Claim7 := { stood := { row := emuPrintsRow, standIns := [], harness := (true, "630cdef78845fde679437a94169f1a52925d1e3815a5f4218384a17a872704a8"), looks := false }, kinds := [], alts := [], laidByText := true, laidKinds := [.data], laidTests := true, laidLooks := .later }
def EmuPrintsCardSaid : Prop := Claim7.holds Tryz.pinned (.plain (OpenSpec.ofChange emuPrintsSpec)) emuPrintsCard

/-- THE SECOND FORM's CARD OF 'prolepsislaw09.EmuPlays'. -/
def emuPlaysUptoCard : Claim7 := { stood := { row := emuPlaysUptoRow, standIns := [], harness := (true, "630cdef78845fde679437a94169f1a52925d1e3815a5f4218384a17a872704a8"), looks := false }, kinds := [], alts := [], laidByText := true, laidKinds := [.data], laidTests := true, laidLooks := .later }
def EmuPlaysUptoCardSaid : Prop := Claim7.holds Tryz.pinned (.plain (OpenSpec.upto emuPlaysSpec)) emuPlaysUptoCard

/-- THE SECOND FORM's CARD OF 'prolepsislaw09.EmuDoes'. -/
def emuDoesUptoCard : Claim7 := { stood := { row := emuDoesUptoRow, standIns := [], harness := (true, "630cdef78845fde679437a94169f1a52925d1e3815a5f4218384a17a872704a8"), looks := false }, kinds := [], alts := [], laidByText := true, laidKinds := [.data], laidTests := true, laidLooks := .later }
def EmuDoesUptoCardSaid : Prop := Claim7.holds Tryz.pinned (.plain (OpenSpec.upto emuDoesSpec)) emuDoesUptoCard

/-- THE SECOND FORM's CARD OF 'prolepsislaw09.EmuCuts'. -/
def emuCutsUptoCard : Claim7 := { stood := { row := emuCutsUptoRow, standIns := [], harness := (true, "630cdef78845fde679437a94169f1a52925d1e3815a5f4218384a17a872704a8"), looks := false }, kinds := [], alts := [], laidByText := true, laidKinds := [.data], laidTests := true, laidLooks := .later }
def EmuCutsUptoCardSaid : Prop := Claim7.holds Tryz.pinned (.plain (OpenSpec.upto emuCutsSpec)) emuCutsUptoCard

/-- THE SECOND FORM's CARD OF 'prolepsislaw09.EmuNil'. -/
def emuNilUptoCard : Claim7 := { stood := { row := emuNilUptoRow, standIns := [], harness := (true, "630cdef78845fde679437a94169f1a52925d1e3815a5f4218384a17a872704a8"), looks := false }, kinds := [], alts := [], laidByText := true, laidKinds := [.data], laidTests := true, laidLooks := .later }
def EmuNilUptoCardSaid : Prop := Claim7.holds Tryz.pinned (.plain (OpenSpec.upto emuNilSpec)) emuNilUptoCard

/-- THE SECOND FORM's CARD OF 'prolepsislaw09.EmuPrints'. -/
def emuPrintsUptoCard : Claim7 := { stood := { row := emuPrintsUptoRow, standIns := [], harness := (true, "630cdef78845fde679437a94169f1a52925d1e3815a5f4218384a17a872704a8"), looks := false }, kinds := [], alts := [], laidByText := true, laidKinds := [.data], laidTests := true, laidLooks := .later }
def EmuPrintsUptoCardSaid : Prop := Claim7.holds Tryz.pinned (.plain (OpenSpec.upto emuPrintsSpec)) emuPrintsUptoCard
end Rows
end Go.Proofs.YtkijclgbpbhglaaGreatDoor
