/-
  For every input the law PenCodes returns true and leaves its arguments as they were. One condition: the package variables that the row lists read, when the call begins, as the program's text lays them (the card ties them to it).
-/
import Derived.Test.YthedfbkkeolkmaaDoorRows
import Derived.Test.YthedfbkkeolkmaaDoorWalkC
import Derived.Test.YthedfbkkeolkmaaDoorOpens
import Derived.ShutString
import Derived.Lib.SmallJoins
import Derived.ChangeOld
import Derived.Below
import Derived.Test.YthedfbkkeolkmaaDoorLaid
import Derived.Test.YthedfbkkeolkmaaDoorTie
import Derived.Test.YthedfbkkeolkmaaDoorCards
import Derived.SevenTiedAt
namespace Go.Proofs.YthedfbkkeolkmaaDoor.penCodes
open Go.ChangeShapes Go.WideShapes Go.ChangeAt Go.RowKit Go.Joins
open Go.ChangeMaps (open_string shut_string)
set_option linter.unusedVariables false

theorem own : ownKnob Tryd.prog.godebug = none := by kernel_rfl
theorem laidOut : laidOutB Tryd.prog = true := by kernel_rfl

set_option maxRecDepth 100000 in
theorem lifted (os : Os) (started : os.Started) (H : Type) (enc : TypeId × Value → H) :
    ReturnsInHanded {} Tryd.checked os 3 .any (fun w args => (Rows.penCodesSpec.pre enc Tryd.prog Tryd.f3 [] false w args ∧ laidMetH Tryd.prog laid1 w) ∧ sizedMet enc Tryd.prog Tryd.f3 (OpenSpec.ofChange Rows.penCodesSpec) false w args)
      (Rows.penCodesSpec.post enc Tryd.prog Tryd.f3 false true false false) := by
  refine returnsInHanded_of_change_and (C := Tryd.checked) (X := fun w _ => laidMetH Tryd.prog laid1 w) (fun _ _ _ hh h => h.of_heap hh) own started (by kernel_rfl) Tryd.func3
    (ChangeSpec.witness_shaped (enc := enc) (C := Tryd.checked) (os := os) (X := fun w _ => laidMetH Tryd.prog laid1 w) false (World.doorLaid Tryd.prog 400 os) #[.agg #[.int .u8 0, .int .u8 0, .int .u8 0], .agg #[.int .u8 0, .int .u8 0, .int .u8 0]] 8 rfl (World.shaped_of_RefB (by kernel_rfl) (by kernel_rfl)) (by kernel_rfl) (by kernel_rfl) (by kernel_rfl) (door_met os _)) ?_
  intro W base args ds gs before hval0 hW _ _ hL _
  have hval : ∀ (j : Nat) t v, Tryd.f3.params[j]? = some t → args[j]? = some v → Value.okWide Tryd.prog W .any base t v := hval0
  have hW' := hW
  obtain ⟨p, q, hA0, hV, rfl, hfz, hnd⟩ := hW
  have hA : DataW.TrodAll enc Tryd.prog W 0 (fun _ => true) true Tryd.f3.params.toList args.toList ds p := hA0
  rw [Tryd.params3] at hA hval
  obtain ⟨v0, vs0, d0, ds0, p0, q0, hargs, rfl, rfl, h0, r0⟩ := trodAll_cons hA
  obtain ⟨v1, vs1, d1, ds1, p1, q1, rfl, rfl, rfl, h1, r1⟩ := trodAll_cons r0
  obtain ⟨rfl, rfl, rfl⟩ := trodAll_nil r1
  obtain rfl : args = #[v0, v1] := by cases args; simp_all
  obtain ⟨rfl, rfl⟩ := trodVars_none hV
  obtain ⟨c00, c01, c02, y00, y01, y02, n0, rfl, rfl, rfl, hy00, hy01, hy02⟩ := open_agg3 Tryd.underlying23 (by kernel_rfl) (by kernel_rfl) (hval 0 23 v0 rfl rfl) h0
  obtain ⟨x00, e00, rfl, w00⟩ := DataW.trod_int Tryd.underlying5 hy00
  obtain ⟨x01, e01, rfl, w01⟩ := DataW.trod_int Tryd.underlying5 hy01
  obtain ⟨x02, e02, rfl, w02⟩ := DataW.trod_int Tryd.underlying5 hy02
  simp at e00 e01 e02
  subst e00 e01 e02
  obtain ⟨a00, rfl, m00⟩ := u8_nat w00
  obtain ⟨a01, rfl, m01⟩ := u8_nat w01
  obtain ⟨a02, rfl, m02⟩ := u8_nat w02
  obtain ⟨c10, c11, c12, y10, y11, y12, n1, rfl, rfl, rfl, hy10, hy11, hy12⟩ := open_agg3 Tryd.underlying23 (by kernel_rfl) (by kernel_rfl) (hval 1 23 v1 rfl rfl) h1
  obtain ⟨x10, e10, rfl, w10⟩ := DataW.trod_int Tryd.underlying5 hy10
  obtain ⟨x11, e11, rfl, w11⟩ := DataW.trod_int Tryd.underlying5 hy11
  obtain ⟨x12, e12, rfl, w12⟩ := DataW.trod_int Tryd.underlying5 hy12
  simp at e10 e11 e12
  subst e10 e11 e12
  obtain ⟨a10, rfl, m10⟩ := u8_nat w10
  obtain ⟨a11, rfl, m11⟩ := u8_nat w11
  obtain ⟨a12, rfl, m12⟩ := u8_nat w12
  clear hA0 hval0
  refine (penCodes_walk a00 a01 a02 ⟨m00, m01, m02⟩ a10 a11 a12 ⟨m10, m11, m12⟩ W  (of_laid hL)).mono fun e W' ⟨he, bel⟩ => ?_
  subst he
  exact ⟨_, rfl, _, _, _, [], _, [], hW', trodAll_mk1 (shut_bool Tryd.underlying4 _), (trodAll_cons_mk (shut_agg3 Tryd.underlying23 (by kernel_rfl) (by kernel_rfl) ⟨1, trod_int_mk 0 Tryd.underlying5 w00⟩ ⟨1, trod_int_mk 0 Tryd.underlying5 w01⟩ ⟨1, trod_int_mk 0 Tryd.underlying5 w02⟩) (trodAll_cons_mk (shut_agg3 Tryd.underlying23 (by kernel_rfl) (by kernel_rfl) ⟨1, trod_int_mk 0 Tryd.underlying5 w10⟩ ⟨1, trod_int_mk 0 Tryd.underlying5 w11⟩ ⟨1, trod_int_mk 0 Tryd.underlying5 w12⟩) trodAll_mk0)), rfl, bel.frame _, fun h => by cases h⟩

theorem over : Rows.penCodesRow.holds Tryd.pinned (OpenSpec.ofChange Rows.penCodesSpec) :=
  OpenClaim.holds_of_wide 3 Tryd.f3 rfl rfl rfl rfl rfl rfl rfl ⟨rfl, rfl, rfl, rfl, rfl⟩ rfl rfl rfl rfl rfl (by kernel_rfl) Tryd.func3 (by kernel_rfl)
    (of_decide_eq_true (by kernel_rfl)) (by unfold Func.isWrapper; first | (rw [if_pos (by decide +kernel)]; kernel_rfl) | (rw [if_neg (by decide +kernel)]; exact ⟨rfl, rfl⟩))
    (fun os started H enc _ => lifted os started H enc)

theorem proved : Rows.PenCodesCardSaid :=
  Claim7.holds_tied_plain_at .later [] [.data] true (true, "d4d5e7fa31ef8b12d564859417a6852ed40fd522e3064f0838247ed353acd80f") false
    over (fun _ h => by cases h) (by kernel_rfl) (fun _ h => by cases h) penCodes_row_tie rfl ⟨rfl, rfl⟩ (by kernel_rfl) rfl
    (fun f fn hf hfn => by
      obtain rfl : f = 3 := Option.some.inj ((show Tryd.prog.funcNamed "prolepsis/prolepsislaw04.PenCodes" = some 3 by kernel_rfl).symm.trans hf) |>.symm
      obtain rfl : fn = Tryd.f3 := (Option.some.inj (Tryd.func3.symm.trans hfn)).symm
      exact ⟨by kernel_rfl, fun j t ht => by
        rw [Tryd.params3] at ht
        have hm : t ∈ [23, 23] := by simpa using Array.mem_of_getElem? ht
        have hall : ([23, 23].all fun u => !Tryd.prog.wantsStandIn u) = true := by kernel_rfl
        exact (show Tryd.prog.wantsStandIn t = false by simpa using List.all_eq_true.1 hall t hm)⟩)
    (by kernel_rfl)
#print axioms proved
end Go.Proofs.YthedfbkkeolkmaaDoor.penCodes
