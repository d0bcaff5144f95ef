/-
  DERIVED. GIVEN WITH THE SEED: THE CARDS: each row of YtiifeniijcnahaaDoorRows.lean that lists a variable, with what it lists TIED to the program's text (the seventh form; the later family's looks); each row that meets fmt, with fmt's text TOLD by the authors' own Lean function (tested against real Go, not proved from fmt's source: count such statements apart). THE CARD IS WHAT COUNTS. Prove the row's statement (the work); the ties are given (YtiifeniijcnahaaDoorTie.lean); close each card by the builder's one call (the guide's Derived/Test/ToyasCard.lean, 'card_holds'). Laid BY PROGRAM, IN A SANDBOX (cutbox-door.mjs). By AI agents, Wed Nov 11 2026. No macro, syntax, notation, axiom, sorry.
-/
import Derived.Test.YtiifeniijcnahaaDoorRows
import GoSem.ClaimSeven
namespace Go.Proofs.YtiifeniijcnahaaDoor
namespace Rows

/-- THE TIED CARD OF 'prolepsislaw07.GridSame'. -/
def gridSameCard : Claim7 := { stood := { row := gridSameRow, standIns := [], harness := (true, "5d21241423a2f6acc725f3261ebaf7a868cfbd531f08ee11e8581e3d5b871930"), looks := false }, kinds := [], alts := [], laidByText := true, laidKinds := [.data], laidTests := true, laidLooks := .later }
def GridSameCardSaid : Prop := Claim7.holds Tryd.pinned (.plain (OpenSpec.ofChange gridSameSpec)) gridSameCard

/-- THE TIED CARD OF 'prolepsislaw07.GridNil'. -/
def gridNilCard : Claim7 := { stood := { row := gridNilRow, standIns := [], harness := (true, "5d21241423a2f6acc725f3261ebaf7a868cfbd531f08ee11e8581e3d5b871930"), looks := false }, kinds := [], alts := [], laidByText := true, laidKinds := [.data], laidTests := true, laidLooks := .later }
def GridNilCardSaid : Prop := Claim7.holds Tryd.pinned (.plain (OpenSpec.ofChange gridNilSpec)) gridNilCard

/-- THE TIED CARD OF 'prolepsislaw07.GridScrolls'. -/
def gridScrollsCard : Claim7 := { stood := { row := gridScrollsRow, standIns := [], harness := (true, "5d21241423a2f6acc725f3261ebaf7a868cfbd531f08ee11e8581e3d5b871930"), looks := false }, kinds := [], alts := [], laidByText := true, laidKinds := [.data], laidTests := true, laidLooks := .later }
def GridScrollsCardSaid : Prop := Claim7.holds Tryd.pinned (.plain (OpenSpec.ofChange gridScrollsSpec)) gridScrollsCard

/-- THE SECOND FORM's CARD OF 'prolepsislaw07.GridSame'. -/
def gridSameUptoCard : Claim7 := { stood := { row := gridSameUptoRow, standIns := [], harness := (true, "5d21241423a2f6acc725f3261ebaf7a868cfbd531f08ee11e8581e3d5b871930"), looks := false }, kinds := [], alts := [], laidByText := true, laidKinds := [.data], laidTests := true, laidLooks := .later }
def GridSameUptoCardSaid : Prop := Claim7.holds Tryd.pinned (.plain (OpenSpec.upto gridSameSpec)) gridSameUptoCard

/-- THE SECOND FORM's CARD OF 'prolepsislaw07.GridNil'. -/
def gridNilUptoCard : Claim7 := { stood := { row := gridNilUptoRow, standIns := [], harness := (true, "5d21241423a2f6acc725f3261ebaf7a868cfbd531f08ee11e8581e3d5b871930"), looks := false }, kinds := [], alts := [], laidByText := true, laidKinds := [.data], laidTests := true, laidLooks := .later }
def GridNilUptoCardSaid : Prop := Claim7.holds Tryd.pinned (.plain (OpenSpec.upto gridNilSpec)) gridNilUptoCard

/-- THE SECOND FORM's CARD OF 'prolepsislaw07.GridScrolls'. -/
def gridScrollsUptoCard : Claim7 := { stood := { row := gridScrollsUptoRow, standIns := [], harness := (true, "5d21241423a2f6acc725f3261ebaf7a868cfbd531f08ee11e8581e3d5b871930"), looks := false }, kinds := [], alts := [], laidByText := true, laidKinds := [.data], laidTests := true, laidLooks := .later }
def GridScrollsUptoCardSaid : Prop := Claim7.holds Tryd.pinned (.plain (OpenSpec.upto gridScrollsSpec)) gridScrollsUptoCard
end Rows
end Go.Proofs.YtiifeniijcnahaaDoor
