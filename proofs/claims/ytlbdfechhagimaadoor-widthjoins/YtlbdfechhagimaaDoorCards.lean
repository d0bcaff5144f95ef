/-
  DERIVED. GIVEN WITH THE SEED: THE CARDS: each row of YtlbdfechhagimaaDoorRows.lean that lists a variable, with what it lists TIED to the program's text (the seventh form; the later family's looks); each row that meets fmt, with fmt's text TOLD by the authors' own Lean function (tested against real Go, not proved from fmt's source: count such statements apart). THE CARD IS WHAT COUNTS. Prove the row's statement (the work); the ties are given (YtlbdfechhagimaaDoorTie.lean); close each card by the builder's one call (the guide's Derived/Test/ToyasCard.lean, 'card_holds'). Laid BY PROGRAM, IN A SANDBOX (cutbox-door.mjs). By AI agents, Wed Nov 11 2026. No macro, syntax, notation, axiom, sorry.
-/
import Derived.Test.YtlbdfechhagimaaDoorRows
import GoSem.ClaimSeven
namespace Go.Proofs.YtlbdfechhagimaaDoor
namespace Rows

/-- THE TIED CARD OF 'prolepsislaw03.WidthOf'. -/
def widthOfCard : Claim7 := { stood := { row := widthOfRow, standIns := [], harness := (true, "c4efeaef89743cdf22aa0cca09fc29fdf94bb4758331522dc07618492bc64d9e"), looks := false }, kinds := [], alts := [], laidByText := true, laidKinds := [.data], laidTests := true, laidLooks := .later }
def WidthOfCardSaid : Prop := Claim7.holds Tryd.pinned (.plain (OpenSpec.ofChange widthOfSpec)) widthOfCard

/-- THE TIED CARD OF 'prolepsislaw03.WidthClusters'. -/
def widthClustersCard : Claim7 := { stood := { row := widthClustersRow, standIns := [], harness := (true, "c4efeaef89743cdf22aa0cca09fc29fdf94bb4758331522dc07618492bc64d9e"), looks := false }, kinds := [], alts := [], laidByText := true, laidKinds := [.data], laidTests := true, laidLooks := .later }
def WidthClustersCardSaid : Prop := Claim7.holds Tryd.pinned (.plain (OpenSpec.ofChange widthClustersSpec)) widthClustersCard

/-- THE TIED CARD OF 'prolepsislaw03.WidthFits'. -/
def widthFitsCard : Claim7 := { stood := { row := widthFitsRow, standIns := [], harness := (true, "c4efeaef89743cdf22aa0cca09fc29fdf94bb4758331522dc07618492bc64d9e"), looks := false }, kinds := [], alts := [], laidByText := true, laidKinds := [.data], laidTests := true, laidLooks := .later }
def WidthFitsCardSaid : Prop := Claim7.holds Tryd.pinned (.plain (OpenSpec.ofChange widthFitsSpec)) widthFitsCard

/-- THE TIED CARD OF 'prolepsislaw03.WidthJoins'. -/
def widthJoinsCard : Claim7 := { stood := { row := widthJoinsRow, standIns := [], harness := (true, "c4efeaef89743cdf22aa0cca09fc29fdf94bb4758331522dc07618492bc64d9e"), looks := false }, kinds := [], alts := [], laidByText := true, laidKinds := [.data], laidTests := true, laidLooks := .later }
def WidthJoinsCardSaid : Prop := Claim7.holds Tryd.pinned (.plain (OpenSpec.ofChange widthJoinsSpec)) widthJoinsCard

/-- THE SECOND FORM's CARD OF 'prolepsislaw03.WidthOf'. -/
def widthOfUptoCard : Claim7 := { stood := { row := widthOfUptoRow, standIns := [], harness := (true, "c4efeaef89743cdf22aa0cca09fc29fdf94bb4758331522dc07618492bc64d9e"), looks := false }, kinds := [], alts := [], laidByText := true, laidKinds := [.data], laidTests := true, laidLooks := .later }
def WidthOfUptoCardSaid : Prop := Claim7.holds Tryd.pinned (.plain (OpenSpec.upto widthOfSpec)) widthOfUptoCard

/-- THE SECOND FORM's CARD OF 'prolepsislaw03.WidthClusters'. -/
def widthClustersUptoCard : Claim7 := { stood := { row := widthClustersUptoRow, standIns := [], harness := (true, "c4efeaef89743cdf22aa0cca09fc29fdf94bb4758331522dc07618492bc64d9e"), looks := false }, kinds := [], alts := [], laidByText := true, laidKinds := [.data], laidTests := true, laidLooks := .later }
def WidthClustersUptoCardSaid : Prop := Claim7.holds Tryd.pinned (.plain (OpenSpec.upto widthClustersSpec)) widthClustersUptoCard

/-- THE SECOND FORM's CARD OF 'prolepsislaw03.WidthFits'. -/
def widthFitsUptoCard : Claim7 := { stood := { row := widthFitsUptoRow, standIns := [], harness := (true, "c4efeaef89743cdf22aa0cca09fc29fdf94bb4758331522dc07618492bc64d9e"), looks := false }, kinds := [], alts := [], laidByText := true, laidKinds := [.data], laidTests := true, laidLooks := .later }
def WidthFitsUptoCardSaid : Prop := Claim7.holds Tryd.pinned (.plain (OpenSpec.upto widthFitsSpec)) widthFitsUptoCard

/-- THE SECOND FORM's CARD OF 'prolepsislaw03.WidthJoins'. -/
def widthJoinsUptoCard : Claim7 := { stood := { row := widthJoinsUptoRow, standIns := [], harness := (true, "c4efeaef89743cdf22aa0cca09fc29fdf94bb4758331522dc07618492bc64d9e"), looks := false }, kinds := [], alts := [], laidByText := true, laidKinds := [.data], laidTests := true, laidLooks := .later }
def WidthJoinsUptoCardSaid : Prop := Claim7.holds Tryd.pinned (.plain (OpenSpec.upto widthJoinsSpec)) widthJoinsUptoCard
end Rows
end Go.Proofs.YtlbdfechhagimaaDoor
