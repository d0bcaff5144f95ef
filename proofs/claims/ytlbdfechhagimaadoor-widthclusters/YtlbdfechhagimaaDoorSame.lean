/-
  Contract: rows that are the same, nothing but draws behind it.
-/
import Derived.Test.YtlbdfechhagimaaDoorTot
namespace Go.Proofs.YtlbdfechhagimaaDoor
open Go.ChangeShapes Go.WideShapes Go.ChangeAt Go.RowKit
set_option linter.unusedVariables false

set_option maxHeartbeats 1000000 in
theorem same_quiet (A C : Option Addr) (n c d : Nat) (x : List Int) (w : World) (ha : Ints .i32 w A x) (hb : Ints .i64 w C x) (hn : x.length = n) (hl : n ≤ 1000000) (hz : Rn x) :
    Calls Tryd.prog 18 #[.slice A n c, .slice C n d] w fun e w' => e = .returned (.bool true) ∧ ∃ m, w' = w.drewN m := by
  have HN := hide hn
  clear hn
  go_enter Tryd.func18, Tryd.ntmps18
  go_wp2
  go_loopw [5] (fun i wr => ∃ k q : Nat, k ≤ n ∧ i = .int .i64 k ∧ Hid (wr = w.drewN q)) (fun i _ => n - (intOf i).toNat)
  case atStart => exact ⟨0, 0, Nat.zero_le _, rfl, rfl⟩
  case round =>
    obtain ⟨k, q, hk, rfl, HW⟩ := hrel
    by_cases hlt : k < n
    · obtain ⟨b, off, rfl, hc, hb1⟩ := ha.at (i := k) (by rw [HN.out]; exact hlt)
      obtain ⟨b2, off2, rfl, hc2, hb2⟩ := hb.at (i := k) (by rw [HN.out]; exact hlt)
      have hb3 := hz.at k (by rw [HN.out]; exact hlt)
      have hc' : wr.cell? ⟨b, off + k, none⟩ = some (.int .i32 (x.getD k 0)) := by rw [HW.out]; exact hc
      have hc2' : wr.cell? ⟨b2, off2 + k, none⟩ = some (.int .i64 (x.getD k 0)) := by rw [HW.out]; exact hc2
      clear hc hc2
      generalize x.getD k 0 = r at hc' hc2' hb3
      obtain ⟨b5, b4⟩ := hb3
      have hq : (r != r) = false := by simp
      go_wp2
      go_quiet (fail)
      go_wp2
      go_roundw
      case rel => exact ⟨k + 1, q + nq, by omega, by go_num, by unfold Hid; rw [HW.out, World.drewN_drewN]⟩
      case measure => simp [intOf]; omega
    · go_wp2
      go_ret
      exact ⟨rfl, q, HW.out⟩
end Go.Proofs.YtlbdfechhagimaaDoor
