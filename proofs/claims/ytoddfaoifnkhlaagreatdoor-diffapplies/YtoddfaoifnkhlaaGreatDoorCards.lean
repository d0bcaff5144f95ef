/-
  DERIVED. GIVEN WITH THE SEED: THE CARDS: each row of YtoddfaoifnkhlaaGreatDoorRows.lean that lists a variable, with what it lists TIED to the program's text (the seventh form; the later family's looks); each row that meets fmt, with fmt's text TOLD by the authors' own Lean function (tested against real Go, not proved from fmt's source: count such statements apart). THE CARD IS WHAT COUNTS. Prove the row's statement (the work); the ties are given (YtoddfaoifnkhlaaGreatDoorTie.lean); close each card by the builder's one call (the guide's Derived/Test/ToyasCard.lean, 'card_holds'). Laid BY PROGRAM, IN A SANDBOX (cutbox-door.mjs). By AI agents, Wed Nov 11 2026. No macro, syntax, notation, axiom, sorry.
-/
import Derived.Test.YtoddfaoifnkhlaaGreatDoorRows
import GoSem.ClaimSeven
namespace Go.Proofs.YtoddfaoifnkhlaaGreatDoor
namespace Rows

/-- THE TIED CARD OF 'prolepsislaw11.DiffOf'. -/
def diffOfCard : Claim7 := { stood := { row := diffOfRow, standIns := [], harness := (true, "d297881c442715d84ea01aaa3c77d190bc52ae7264d4a4c65a86420f9f5c10eb"), looks := false }, kinds := [], alts := [], laidByText := true, laidKinds := [.data], laidTests := true, laidLooks := .later }
def DiffOfCardSaid : Prop := Claim7.holds Tryz.pinned (.plain (OpenSpec.ofChange diffOfSpec)) diffOfCard

/-- THE TIED CARD OF 'prolepsislaw11.DiffApplies'. -/
def diffAppliesCard : Claim7 := { stood := { row := diffAppliesRow, standIns := [], harness := (true, "d297881c442715d84ea01aaa3c77d190bc52ae7264d4a4c65a86420f9f5c10eb"), looks := false }, kinds := [], alts := [], laidByText := true, laidKinds := [.data], laidTests := true, laidLooks := .later }
def DiffAppliesCardSaid : Prop := Claim7.holds Tryz.pinned (.plain (OpenSpec.ofChange diffAppliesSpec)) diffAppliesCard

/-- THE TIED CARD OF 'prolepsislaw11.DiffChain'. -/
def diffChainCard : Claim7 := { stood := { row := diffChainRow, standIns := [], harness := (true, "d297881c442715d84ea01aaa3c77d190bc52ae7264d4a4c65a86420f9f5c10eb"), looks := false }, kinds := [], alts := [], laidByText := true, laidKinds := [.data], laidTests := true, laidLooks := .later }
def DiffChainCardSaid : Prop := Claim7.holds Tryz.pinned (.plain (OpenSpec.ofChange diffChainSpec)) diffChainCard

/-- THE TIED CARD OF 'prolepsislaw11.DiffLeast'. -/
def diffLeastCard : Claim7 := { stood := { row := diffLeastRow, standIns := [], harness := (true, "d297881c442715d84ea01aaa3c77d190bc52ae7264d4a4c65a86420f9f5c10eb"), looks := false }, kinds := [], alts := [], laidByText := true, laidKinds := [.data], laidTests := true, laidLooks := .later }
def DiffLeastCardSaid : Prop := Claim7.holds Tryz.pinned (.plain (OpenSpec.ofChange diffLeastSpec)) diffLeastCard

/-- THE SECOND FORM's CARD OF 'prolepsislaw11.DiffOf'. -/
def diffOfUptoCard : Claim7 := { stood := { row := diffOfUptoRow, standIns := [], harness := (true, "d297881c442715d84ea01aaa3c77d190bc52ae7264d4a4c65a86420f9f5c10eb"), looks := false }, kinds := [], alts := [], laidByText := true, laidKinds := [.data], laidTests := true, laidLooks := .later }
def DiffOfUptoCardSaid : Prop := Claim7.holds Tryz.pinned (.plain (OpenSpec.upto diffOfSpec)) diffOfUptoCard

/-- THE SECOND FORM's CARD OF 'prolepsislaw11.DiffApplies'. -/
def diffAppliesUptoCard : Claim7 := { stood := { row := diffAppliesUptoRow, standIns := [], harness := (true, "d297881c442715d84ea01aaa3c77d190bc52ae7264d4a4c65a86420f9f5c10eb"), looks := false }, kinds := [], alts := [], laidByText := true, laidKinds := [.data], laidTests := true, laidLooks := .later }
def DiffAppliesUptoCardSaid : Prop := Claim7.holds Tryz.pinned (.plain (OpenSpec.upto diffAppliesSpec)) diffAppliesUptoCard

/-- THE SECOND FORM's CARD OF 'prolepsislaw11.DiffChain'. -/
def diffChainUptoCard : Claim7 := { stood := { row := diffChainUptoRow, standIns := [], harness := (true, "d297881c442715d84ea01aaa3c77d190bc52ae7264d4a4c65a86420f9f5c10eb"), looks := false }, kinds := [], alts := [], laidByText := true, laidKinds := [.data], laidTests := true, laidLooks := .later }
def DiffChainUptoCardSaid : Prop := Claim7.holds Tryz.pinned (.plain (OpenSpec.upto diffChainSpec)) diffChainUptoCard

/-- THE SECOND FORM's CARD OF 'prolepsislaw11.DiffLeast'. -/
def diffLeastUptoCard : Claim7 := { stood := { row := diffLeastUptoRow, standIns := [], harness := (true, "d297881c442715d84ea01aaa3c77d190bc52ae7264d4a4c65a86420f9f5c10eb"), looks := false }, kinds := [], alts := [], laidByText := true, laidKinds := [.data], laidTests := true, laidLooks := .later }
def DiffLeastUptoCardSaid : Prop := Claim7.holds Tryz.pinned (.plain (OpenSpec.upto diffLeastSpec)) diffLeastUptoCard
end Rows
end Go.Proofs.YtoddfaoifnkhlaaGreatDoor
