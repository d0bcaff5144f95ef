/-
  The chapter's examples; slices of runes that came in, cut at 30.
-/
import Derived.Test.YtlbdfechhagimaaDoorClus2
import Derived.Test.YtlbdfechhagimaaDoorFit
namespace Go.Proofs.YtlbdfechhagimaaDoor
open Go.ChangeShapes Go.WideShapes Go.ChangeAt Go.RowKit
set_option linter.unusedVariables false

theorem i32_bd {a : Int} (h : (Lit.int .i32 a).wf = true) : -2147483648 ≤ a ∧ a ≤ 2147483647 := by
  simpa [Lit.wf, IntKind.min, IntKind.max, IntKind.signed, IntKind.bits] using h
theorem rn_of {zs : List Int} (h : ∀ n ∈ zs, (Lit.int .i32 n).wf = true) (n : Nat) : Rn (zs.take n) := fun x hx => i32_bd (h x (List.mem_of_mem_take hx))

theorem kn1 : wOf 97 = 1 := by decide
theorem kn2 : wOf 12354 = 2 := by decide
theorem kn3 : wOf 769 = 0 := by decide
theorem kn4 : wOf 27 = -1 := by decide
theorem kn5 : clus [97, 769, 12354] = [[97, 769], [12354]] := by decide

set_option maxHeartbeats 1000000 in
theorem known_any (w : World) (hS : Spans w) : Calls Tryd.prog 12 #[] w (Said true w) := by
  go_enter Tryd.func12, Tryd.ntmps12
  go_wp2_with fail
  refine (of_any 97 w hS).mono ?_
  rintro e w1 ⟨rfl, hb1⟩
  rw [kn1]
  go_wp2_with fail
  refine (of_any 12354 w1 (hS.below hb1)).mono ?_
  rintro e w2 ⟨rfl, hb2⟩
  rw [kn2]
  have b2 : Below w.heap.size w w2 := hb1.trans (hb2.mono hb1.size)
  clear hb1 hb2
  go_wp2_with fail
  refine (of_any 769 w2 (hS.below b2)).mono ?_
  rintro e w3 ⟨rfl, hb3⟩
  rw [kn3]
  have b3 : Below w.heap.size w w3 := b2.trans (hb3.mono b2.size)
  clear b2 hb3
  go_wp2_with fail
  refine (of_any 27 w3 (hS.below b3)).mono ?_
  rintro e w4 ⟨rfl, hb4⟩
  rw [kn4]
  have b4 : Below w.heap.size w w4 := b3.trans (hb4.mono b3.size)
  clear b3 hb4
  have HI : Hid (Ints .i32 (w4.alloc (.cells #[.int .i32 97, .int .i32 769, .int .i32 12354] 21)) (some ⟨w4.heap.size, 0, none⟩) [97, 769, 12354]) := Ints.new .i32 w4 21 [97, 769, 12354]
  have b5 : Hid (Below w.heap.size w (w4.alloc (.cells #[.int .i32 97, .int .i32 769, .int .i32 12354] 21))) := b4.alloc b4.size _
  go_wp2_with fail
  refine (clusters_any _ 3 3 [97, 769, 12354] _ HI.out rfl (by omega) (by omega) (by unfold maxLen; omega) (hS.below b5.out)).mono ?_
  rintro e w5 ⟨v, rfl, hr⟩
  rw [kn5] at hr
  obtain ⟨A, cap, rfl, -⟩ := hr.form
  have b6 : Hid (Below w.heap.size w w5) := b5.out.trans (hr.bel.mono b5.out.size)
  clear hr
  go_wp2
  go_ret
  exact ⟨rfl, b6.out⟩
end Go.Proofs.YtlbdfechhagimaaDoor
