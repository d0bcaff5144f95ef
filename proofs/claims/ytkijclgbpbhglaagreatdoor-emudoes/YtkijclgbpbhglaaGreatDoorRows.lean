/-
  NARROWER THAN 'FOR EVERY INPUT', by the rows' own cells (each row's printed sentence says how): EmuPlays: laid · EmuDoes: laid · EmuCuts: laid · EmuNil: laid · EmuPrints: laid.
  DERIVED. THE GIVEN ROWS OF THIS SEAT. 5 by the template 'for every input the law returns true; each argument reads behind the call as it read before'; 0 by the template 'total and deterministic' (their statements: YtkijclgbpbhglaaGreatDoorTotals.lean).
  GIVEN WITH THE SEED: the statements are not yours to turn. If you find one false, say at which input.
  Laid BY PROGRAM, IN A SANDBOX (cutbox-rows.mjs): the forced cells as the released guide's own fill.sh prints them over the translation fcb305682faa92a6… (all of the seat's roots in one cut). By AI agents, Wed Nov 11 2026. No macro, syntax, notation, axiom, sorry.
-/
import Derived.Test.YtkijclgbpbhglaaGreatDoorChecked
import GoSem.Claim
import GoSem.ClaimJoined
import GoSem.ClaimMapViews
import Derived.JoinedTies
import Derived.KernelRfl
namespace Go.Proofs.YtkijclgbpbhglaaGreatDoor
/- THE CELL 'sum', in the pinned program and in every row, IS THE sha256 OF THE DUMP (.gsa) THAT YtkijclgbpbhglaaGreatDoorProg.lean LOADS. Nothing in Lean hashes anything: it is a label: what it is worth is what the hold of that sum in a sandbox is worth. -/
noncomputable def Tryz.pinned : Pinned := { name := "ytkijclgbpbhglaagreatdoor", sum := "fcb305682faa92a694ac2f6ba492fbcc3b7dab5a34aef84ee7a7066f53acd673", checked := Tryz.checked }
namespace Rows
def none {H : Type} : Left H := { results := [], args := [] }

/- WHAT THE LISTED PACKAGE-LEVEL VARIABLES READ AS WHEN THE CALL BEGINS. Each datum BY PROGRAM (the guide's laid-datum.mjs) off the statement by which the dump's own 'gosem.cut.vars' lays the variable. In a bare row this is a premise. The card (YtkijclgbpbhglaaGreatDoorCards.lean) ties it to the program's text. -/
def laid_prolepsis_width_spans {H : Type} : DataW H := .agg [.agg [.lit (.int .i32 0), .lit (.int .i32 31), .lit (.int .i64 (-1))], .agg [.lit (.int .i32 127), .lit (.int .i32 159), .lit (.int .i64 (-1))], .agg [.lit (.int .i32 768), .lit (.int .i32 879), .lit (.int .i64 0)], .agg [.lit (.int .i32 8203), .lit (.int .i32 8207), .lit (.int .i64 0)], .agg [.lit (.int .i32 8400), .lit (.int .i32 8447), .lit (.int .i64 0)], .agg [.lit (.int .i32 65024), .lit (.int .i32 65039), .lit (.int .i64 0)], .agg [.lit (.int .i32 65056), .lit (.int .i32 65071), .lit (.int .i64 0)], .agg [.lit (.int .i32 4352), .lit (.int .i32 4447), .lit (.int .i64 2)], .agg [.lit (.int .i32 11904), .lit (.int .i32 12350), .lit (.int .i64 2)], .agg [.lit (.int .i32 12353), .lit (.int .i32 42191), .lit (.int .i64 2)], .agg [.lit (.int .i32 44032), .lit (.int .i32 55203), .lit (.int .i64 2)], .agg [.lit (.int .i32 63744), .lit (.int .i32 64255), .lit (.int .i64 2)], .agg [.lit (.int .i32 65072), .lit (.int .i32 65135), .lit (.int .i64 2)], .agg [.lit (.int .i32 65280), .lit (.int .i32 65376), .lit (.int .i64 2)], .agg [.lit (.int .i32 65504), .lit (.int .i32 65510), .lit (.int .i64 2)], .agg [.lit (.int .i32 127744), .lit (.int .i32 128591), .lit (.int .i64 2)], .agg [.lit (.int .i32 129280), .lit (.int .i32 129535), .lit (.int .i64 2)], .agg [.lit (.int .i32 131072), .lit (.int .i32 262141), .lit (.int .i64 2)]]

/-- 'prolepsislaw09.EmuPlays': WHATEVER THE INPUT: true; the input reads as it did. -/
def emuPlaysSpec : ChangeSpec := { name := "emuPlays", fn := fun _ => fun
  | [d1, d2, d3] => { results := [.lit (.bool true)], args := [d1, d2, d3] }
  | _ => none }
def emuPlaysRow : OpenClaim := { program := "ytkijclgbpbhglaagreatdoor", sum := "fcb305682faa92a694ac2f6ba492fbcc3b7dab5a34aef84ee7a7066f53acd673", func := "prolepsis/prolepsislaw09.EmuPlays", spec := "emuPlays", unfollowed := true, recurses := true, named := ["prolepsis/width.spans"], apart := false, laid := [("prolepsis/width.spans", laid_prolepsis_width_spans)] }
def EmuPlaysSaid : Prop := emuPlaysRow.holds Tryz.pinned (OpenSpec.ofChange emuPlaysSpec)

/-- ITS FALSE NEIGHBOUR: 'it returns false'. Refute it at one input. -/
def emuPlaysWrong : ChangeSpec := { name := "emuPlays", fn := fun _ => fun
  | [d1, d2, d3] => { results := [.lit (.bool false)], args := [d1, d2, d3] }
  | _ => none }
def EmuPlaysWrongFalsely : Prop := emuPlaysRow.holds Tryz.pinned (OpenSpec.ofChange emuPlaysWrong)

/-- 'prolepsislaw09.EmuDoes': WHATEVER THE INPUT: true; the input reads as it did. -/
def emuDoesSpec : ChangeSpec := { name := "emuDoes", fn := fun _ => fun
  | [d1, d2, d3] => { results := [.lit (.bool true)], args := [d1, d2, d3] }
  | _ => none }
def emuDoesRow : OpenClaim := { program := "ytkijclgbpbhglaagreatdoor", sum := "fcb305682faa92a694ac2f6ba492fbcc3b7dab5a34aef84ee7a7066f53acd673", func := "prolepsis/prolepsislaw09.EmuDoes", spec := "emuDoes", unfollowed := true, recurses := true, named := ["prolepsis/width.spans"], apart := false, laid := [("prolepsis/width.spans", laid_prolepsis_width_spans)] }
def EmuDoesSaid : Prop := emuDoesRow.holds Tryz.pinned (OpenSpec.ofChange emuDoesSpec)

/-- ITS FALSE NEIGHBOUR: 'it returns false'. Refute it at one input. -/
def emuDoesWrong : ChangeSpec := { name := "emuDoes", fn := fun _ => fun
  | [d1, d2, d3] => { results := [.lit (.bool false)], args := [d1, d2, d3] }
  | _ => none }
def EmuDoesWrongFalsely : Prop := emuDoesRow.holds Tryz.pinned (OpenSpec.ofChange emuDoesWrong)

/-- 'prolepsislaw09.EmuCuts': WHATEVER THE INPUT: true; the input reads as it did. -/
def emuCutsSpec : ChangeSpec := { name := "emuCuts", fn := fun _ => fun
  | [d1, d2, d3, d4] => { results := [.lit (.bool true)], args := [d1, d2, d3, d4] }
  | _ => none }
def emuCutsRow : OpenClaim := { program := "ytkijclgbpbhglaagreatdoor", sum := "fcb305682faa92a694ac2f6ba492fbcc3b7dab5a34aef84ee7a7066f53acd673", func := "prolepsis/prolepsislaw09.EmuCuts", spec := "emuCuts", unfollowed := true, recurses := true, named := ["prolepsis/width.spans"], apart := false, laid := [("prolepsis/width.spans", laid_prolepsis_width_spans)] }
def EmuCutsSaid : Prop := emuCutsRow.holds Tryz.pinned (OpenSpec.ofChange emuCutsSpec)

/-- ITS FALSE NEIGHBOUR: 'it returns false'. Refute it at one input. -/
def emuCutsWrong : ChangeSpec := { name := "emuCuts", fn := fun _ => fun
  | [d1, d2, d3, d4] => { results := [.lit (.bool false)], args := [d1, d2, d3, d4] }
  | _ => none }
def EmuCutsWrongFalsely : Prop := emuCutsRow.holds Tryz.pinned (OpenSpec.ofChange emuCutsWrong)

/-- 'prolepsislaw09.EmuNil': WHATEVER THE INPUT: true; the input reads as it did. -/
def emuNilSpec : ChangeSpec := { name := "emuNil", fn := fun _ => fun
  | [d1, d2, d3] => { results := [.lit (.bool true)], args := [d1, d2, d3] }
  | _ => none }
def emuNilRow : OpenClaim := { program := "ytkijclgbpbhglaagreatdoor", sum := "fcb305682faa92a694ac2f6ba492fbcc3b7dab5a34aef84ee7a7066f53acd673", func := "prolepsis/prolepsislaw09.EmuNil", spec := "emuNil", unfollowed := true, recurses := true, named := ["prolepsis/width.spans"], apart := false, laid := [("prolepsis/width.spans", laid_prolepsis_width_spans)] }
def EmuNilSaid : Prop := emuNilRow.holds Tryz.pinned (OpenSpec.ofChange emuNilSpec)

/-- ITS FALSE NEIGHBOUR: 'it returns false'. Refute it at one input. -/
def emuNilWrong : ChangeSpec := { name := "emuNil", fn := fun _ => fun
  | [d1, d2, d3] => { results := [.lit (.bool false)], args := [d1, d2, d3] }
  | _ => none }
def EmuNilWrongFalsely : Prop := emuNilRow.holds Tryz.pinned (OpenSpec.ofChange emuNilWrong)

/-- 'prolepsislaw09.EmuPrints': WHATEVER THE INPUT: true; the input reads as it did. -/
def emuPrintsSpec : ChangeSpec := { name := "emuPrints", fn := fun _ => fun
  | [d1, d2, d3, d4, d5] => { results := [.lit (.bool true)], args := [d1, d2, d3, d4, d5] }
  | _ => none }
def emuPrintsRow : OpenClaim := { program := "ytkijclgbpbhglaagreatdoor", sum := "fcb305682faa92a694ac2f6ba492fbcc3b7dab5a34aef84ee7a7066f53acd673", func := "prolepsis/prolepsislaw09.EmuPrints", spec := "emuPrints", unfollowed := true, recurses := true, named := ["prolepsis/width.spans"], apart := false, laid := [("prolepsis/width.spans", laid_prolepsis_width_spans)] }
def EmuPrintsSaid : Prop := emuPrintsRow.holds Tryz.pinned (OpenSpec.ofChange emuPrintsSpec)

/-- ITS FALSE NEIGHBOUR: 'it returns false'. Refute it at one input. -/
def emuPrintsWrong : ChangeSpec := { name := "emuPrints", fn := fun _ => fun
  | [d1, d2, d3, d4, d5] => { results := [.lit (.bool false)], args := [d1, d2, d3, d4, d5] }
  | _ => none }
def EmuPrintsWrongFalsely : Prop := emuPrintsRow.holds Tryz.pinned (OpenSpec.ofChange emuPrintsWrong)

/- THE SECOND FORM. 'bulk': how many values and letters a reading holds, each counted each time it is reached (what is shared counts as often as it is met; a slice's spare places count too). A statement '..UptoSaid' is the law's where the arguments, and the package variables that the reading takes, are together of bulk at most 1048576: NARROWER than '..Said'. Prove '..Said' where nothing that the law and all that it calls make is longer than what came in: it says more and counts as full. Else prove '..UptoSaid'. A law counts once. -/
mutual
def uptoBulk {H : Type} : DataW H → Nat
  | .lit (.string bytes) => bytes.length + 1
  | .lit _ => 1
  | .nil => 1
  | .ptr d => uptoBulk d + 1
  | .slice elems spare => uptoBulkAll elems + uptoBulkAll spare + 1
  | .agg parts => uptoBulkAll parts + 1
  | .iface _ d => uptoBulk d + 1
  | .map entries => uptoBulkEntries entries + 1
  | .held _ => 1
def uptoBulkAll {H : Type} : List (DataW H) → Nat
  | [] => 0
  | d :: r => uptoBulk d + uptoBulkAll r
def uptoBulkEntries {H : Type} : List (Lit × DataW H) → Nat
  | [] => 0
  | x :: r => uptoBulkEntry x + uptoBulkEntries r
def uptoBulkEntry {H : Type} : Lit × DataW H → Nat
  | (.string bytes, d) => bytes.length + uptoBulk d + 1
  | (_, d) => uptoBulk d + 1
 end
def uptoSmall : (H : Type) → List (DataW H) → Bool := fun _ ds => decide (uptoBulkAll ds ≤ 1048576)
def OpenSpec.upto (s : _root_.Go.ChangeSpec) : _root_.Go.OpenSpec := { _root_.Go.OpenSpec.ofChange s with cond := some uptoSmall }

/-- 'prolepsislaw09.EmuPlays', WHERE WHAT IT READS IS OF BULK AT MOST 1048576: true; the input reads as it did. -/
def emuPlaysUptoRow : OpenClaim := { program := "ytkijclgbpbhglaagreatdoor", sum := "fcb305682faa92a694ac2f6ba492fbcc3b7dab5a34aef84ee7a7066f53acd673", func := "prolepsis/prolepsislaw09.EmuPlays", spec := "emuPlays", unfollowed := true, recurses := true, named := ["prolepsis/width.spans"], apart := false, laid := [("prolepsis/width.spans", laid_prolepsis_width_spans)], narrowed := true }
def EmuPlaysUptoSaid : Prop := emuPlaysUptoRow.holds Tryz.pinned (OpenSpec.upto emuPlaysSpec)

/-- 'prolepsislaw09.EmuDoes', WHERE WHAT IT READS IS OF BULK AT MOST 1048576: true; the input reads as it did. -/
def emuDoesUptoRow : OpenClaim := { program := "ytkijclgbpbhglaagreatdoor", sum := "fcb305682faa92a694ac2f6ba492fbcc3b7dab5a34aef84ee7a7066f53acd673", func := "prolepsis/prolepsislaw09.EmuDoes", spec := "emuDoes", unfollowed := true, recurses := true, named := ["prolepsis/width.spans"], apart := false, laid := [("prolepsis/width.spans", laid_prolepsis_width_spans)], narrowed := true }
def EmuDoesUptoSaid : Prop := emuDoesUptoRow.holds Tryz.pinned (OpenSpec.upto emuDoesSpec)

/-- 'prolepsislaw09.EmuCuts', WHERE WHAT IT READS IS OF BULK AT MOST 1048576: true; the input reads as it did. -/
def emuCutsUptoRow : OpenClaim := { program := "ytkijclgbpbhglaagreatdoor", sum := "fcb305682faa92a694ac2f6ba492fbcc3b7dab5a34aef84ee7a7066f53acd673", func := "prolepsis/prolepsislaw09.EmuCuts", spec := "emuCuts", unfollowed := true, recurses := true, named := ["prolepsis/width.spans"], apart := false, laid := [("prolepsis/width.spans", laid_prolepsis_width_spans)], narrowed := true }
def EmuCutsUptoSaid : Prop := emuCutsUptoRow.holds Tryz.pinned (OpenSpec.upto emuCutsSpec)

/-- 'prolepsislaw09.EmuNil', WHERE WHAT IT READS IS OF BULK AT MOST 1048576: true; the input reads as it did. -/
def emuNilUptoRow : OpenClaim := { program := "ytkijclgbpbhglaagreatdoor", sum := "fcb305682faa92a694ac2f6ba492fbcc3b7dab5a34aef84ee7a7066f53acd673", func := "prolepsis/prolepsislaw09.EmuNil", spec := "emuNil", unfollowed := true, recurses := true, named := ["prolepsis/width.spans"], apart := false, laid := [("prolepsis/width.spans", laid_prolepsis_width_spans)], narrowed := true }
def EmuNilUptoSaid : Prop := emuNilUptoRow.holds Tryz.pinned (OpenSpec.upto emuNilSpec)

/-- 'prolepsislaw09.EmuPrints', WHERE WHAT IT READS IS OF BULK AT MOST 1048576: true; the input reads as it did. -/
def emuPrintsUptoRow : OpenClaim := { program := "ytkijclgbpbhglaagreatdoor", sum := "fcb305682faa92a694ac2f6ba492fbcc3b7dab5a34aef84ee7a7066f53acd673", func := "prolepsis/prolepsislaw09.EmuPrints", spec := "emuPrints", unfollowed := true, recurses := true, named := ["prolepsis/width.spans"], apart := false, laid := [("prolepsis/width.spans", laid_prolepsis_width_spans)], narrowed := true }
def EmuPrintsUptoSaid : Prop := emuPrintsUptoRow.holds Tryz.pinned (OpenSpec.upto emuPrintsSpec)

end Rows
end Go.Proofs.YtkijclgbpbhglaaGreatDoor
