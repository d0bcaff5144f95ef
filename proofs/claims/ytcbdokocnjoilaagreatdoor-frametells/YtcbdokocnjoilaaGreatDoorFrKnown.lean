/-
  Contract: the chapter's example (the law's known).
-/
import Derived.Test.YtcbdokocnjoilaaGreatDoorFrBytes
import Derived.Test.YtcbdokocnjoilaaGreatDoorH7
namespace Go.Proofs.YtcbdokocnjoilaaGreatDoor
set_option maxRecDepth 100000
open Go.ChangeShapes Go.WideShapes Go.ChangeAt Go.RowKit
set_option linter.unusedVariables false

def exF : Fm := ⟨1, 0, 2, 0, ⟨1, 1, 0, 0, []⟩⟩
theorem exF_ok : FmOk exF := ⟨⟨by decide, by decide⟩, ⟨by decide, by decide⟩, ⟨by decide, by decide⟩, ⟨by decide, by decide⟩⟩
theorem exF_check : checkFm exF = 0 := by decide +kernel
theorem exF_bytes : bytesFm exF = [70, 1, 0, 2, 0, 1, 1, 0, 0, 0] := by decide +kernel
set_option maxHeartbeats 1000000 in
theorem exF_bytes_any (W : World) (hS : Spans W) :
    Calls Tryz.prog 7 #[.agg #[.int .u64 1, .int .u64 0, .int .u64 2, .int .u64 0, .int .i64 1, .int .i64 1, .int .i64 0, .int .i64 0, .slice none 0 0]] W fun e w' => ∃ A c, e = .returned (.tuple #[.slice A 10 c, .int .i64 0]) ∧ Ints .u8 w' A [70, 1, 0, 2, 0, 1, 1, 0, 0, 0] ∧ Below W.heap.size W w' := by
  have key := frbytes_any 0 68 105 exF none 0 0 W exF_ok .nil (Nat.zero_le _) rfl (by omega) (fun s hs => by cases hs) (by decide) hS
  rw [exF_check, exF_bytes] at key
  refine Calls.mono (show Calls Tryz.prog 7 #[.agg #[.int .u64 1, .int .u64 0, .int .u64 2, .int .u64 0, .int .i64 1, .int .i64 1, .int .i64 0, .int .i64 0, .slice none 0 0]] W _ from key) ?_
  rintro e w' ⟨v, he, ho⟩
  rw [if_pos rfl] at ho
  obtain ⟨A, c, hv, hi, -⟩ := ho.form2
  exact ⟨A, c, by rw [he, hv]; rfl, hi, ho.bel⟩
set_option maxHeartbeats 1000000 in
theorem frknown_any (w : World) (hS : Spans w) : Calls Tryz.prog 11 #[] w (Said true w) := by
  have KEY := hide (exF_bytes_any w hS)
  clear hS
  go_enter Tryz.func11, Tryz.ntmps11
  go_wp2_with fail
  refine KEY.out.mono ?_
  rintro e w3 ⟨A3, c3, rfl, hi3, hb3⟩
  obtain ⟨W4, hW4⟩ : ∃ W4, w3.alloc (.cells #[.int .u8 70, .int .u8 1, .int .u8 0, .int .u8 2, .int .u8 0, .int .u8 1, .int .u8 1, .int .u8 0, .int .u8 0, .int .u8 0] 5) = W4 := ⟨_, rfl⟩
  have hb4 : Below w3.heap.size w3 W4 := by rw [← hW4]; exact new1W _ _
  have HL4 : Hid (Ints .u8 W4 (some ⟨w3.heap.size, 0, none⟩) [70, 1, 0, 2, 0, 1, 1, 0, 0, 0]) := by unfold Hid; rw [← hW4]; exact Ints.new .u8 w3 5 [70, 1, 0, 2, 0, 1, 1, 0, 0, 0]
  have HI4 := hide (hi3.below hb4)
  have HB4 := hide (hb3.trans (hb4.mono hb3.size))
  have HW4 := hide hW4
  have hl : Byte [70, 1, 0, 2, 0, 1, 1, 0, 0, 0] := by intro x hx; simp at hx; omega
  have HY := hide hl
  clear hi3 hb3 hb4 hW4 hl
  go_wp2_with fail
  rw [HW4.out]
  refine (nu_same_yes A3 _ 10 c3 10 [70, 1, 0, 2, 0, 1, 1, 0, 0, 0] W4 HI4.out HL4.out rfl HY.out).mono ?_
  rintro e w5 ⟨rfl, rfl⟩
  go_wp2_with fail
  refine (fris_any A3 10 c3 [70, 1, 0, 2, 0, 1, 1, 0, 0, 0] _ HI4.out rfl).mono ?_
  rintro e w5 ⟨rfl, rfl⟩
  go_wp2
  go_ret
  exact ⟨rfl, HB4.out⟩
end Go.Proofs.YtcbdokocnjoilaaGreatDoor
