/-
  The walk of the law WidthOf.
-/
import Derived.Test.YtlbdfechhagimaaDoorKnown
namespace Go.Proofs.YtlbdfechhagimaaDoor
open Go.ChangeShapes Go.WideShapes Go.ChangeAt Go.RowKit
set_option linter.unusedVariables false

set_option maxRecDepth 100000 in
set_option maxHeartbeats 2000000 in
theorem widthOf_walk (a : Option Addr) (len cap : Nat) (zs : List Int) (w : World) (hrow : IsRow .i32 w a len cap zs) (hS : Spans w) :
    Calls Tryd.prog 3 #[.slice a len cap] w fun e w' => e = .returned (.bool true) ∧ Below w.heap.size w w' := by
  obtain ⟨hz, hl, hn0, hmax⟩ := hrow.len
  obtain ⟨n, hn, hn30, hnl⟩ : ∃ n : Nat, min (len : Int) 30 = (n : Int) ∧ n ≤ 30 ∧ n ≤ len := ⟨min len 30, by omega, by omega, by omega⟩
  have hi := hrow.ints.take n
  have hb := rn_of hrow.wf n
  have hx : (zs.take n).length = n := by rw [List.length_take]; omega
  unfold maxLen at hmax
  clear hrow
  have HX := hide hx
  have HS := hide hS
  clear hz hn0 hx hS
  generalize zs.take n = xs at *
  go_enter Tryd.func3, Tryd.ntmps3
  go_wp2
  go_loopw [3] (fun i wr => ∃ k : Nat, k ≤ n ∧ i = .int .i64 k ∧ Below w.heap.size w wr) (fun i _ => n - (intOf i).toNat)
  case atStart => exact ⟨0, Nat.zero_le _, rfl, Below.refl _ _⟩
  case round =>
    obtain ⟨k, hk, rfl, hbel⟩ := hrel
    by_cases hlt : k < n
    · obtain ⟨b, off, rfl, hc, hb0⟩ := hi.at (i := k) (by rw [HX.out]; exact hlt)
      rw [← hbel.cell (p := ⟨b, off + k, none⟩) hb0] at hc
      have hbd := hb.at k (by rw [HX.out]; exact hlt)
      obtain ⟨r, hr⟩ : ∃ r, xs.getD k 0 = r := ⟨_, rfl⟩
      rw [hr] at hc hbd
      obtain ⟨hbd1, hbd2⟩ := hbd
      clear hr
      obtain ⟨P, hP⟩ : ∃ P, wOf r = P := ⟨_, rfl⟩
      have HP := hide hP
      clear hP
      have t1 : (P != P) = false := by simp
      have t2 : ((P == 2) != (P == 2)) = false := by simp
      have t3 : ((P == 0) != (P == 0)) = false := by simp
      have t4 : ((P == 1) != (P == 1)) = false := by simp
      go_wp2_with fail
      refine (rof_any r wr).mono ?_
      rintro e w1 ⟨rfl, hb1⟩
      rw [HP.out]
      have b1 := hbel.trans (hb1.mono hbel.size)
      have c1 : w1.cell? ⟨b, off + k, none⟩ = some (.int .i32 r) := (hb1.cell (block_lt_of_cell hc)).trans hc
      clear hc hbel hb1
      go_wp2_with fail
      refine (of_any r w1 (HS.out.below b1)).mono ?_
      rintro e w2 ⟨rfl, hb2⟩
      rw [HP.out]
      have b2 := b1.trans (hb2.mono b1.size)
      have c2 : w2.cell? ⟨b, off + k, none⟩ = some (.int .i32 r) := (hb2.cell (block_lt_of_cell c1)).trans c1
      clear c1 b1 hb2
      go_wp2_with fail
      refine (wide_any r w2 (HS.out.below b2)).mono ?_
      rintro e w3 ⟨rfl, hb3⟩
      rw [HP.out]
      have b3 := b2.trans (hb3.mono b2.size)
      have c3 : w3.cell? ⟨b, off + k, none⟩ = some (.int .i32 r) := (hb3.cell (block_lt_of_cell c2)).trans c2
      clear c2 b2 hb3
      go_wp2_with fail
      refine (mark_any r w3 (HS.out.below b3)).mono ?_
      rintro e w4 ⟨rfl, hb4⟩
      rw [HP.out]
      have b4 := b3.trans (hb4.mono b3.size)
      have c4 : w4.cell? ⟨b, off + k, none⟩ = some (.int .i32 r) := (hb4.cell (block_lt_of_cell c3)).trans c3
      clear c3 b3 hb4
      go_wp2_with fail
      refine (plain_any r w4 (HS.out.below b4)).mono ?_
      rintro e w5 ⟨rfl, hb5⟩
      rw [HP.out]
      have b5 := b4.trans (hb5.mono b4.size)
      clear c4 b4 hb5
      go_wp2
      go_roundw
      case rel => exact ⟨k + 1, by omega, by go_num, b5⟩
      case measure => simp [intOf]; omega
    · go_wp2_with fail
      refine (known_any wr (HS.out.below hbel)).mono ?_
      rintro e w1 ⟨rfl, hb1⟩
      have b1 := hbel.trans (hb1.mono hbel.size)
      clear hbel hb1
      obtain ⟨T, hT⟩ : ∃ T, tot xs = T := ⟨_, rfl⟩
      have HT := hide hT
      clear hT
      have t5 : (T == T) = true := by simp
      go_wp2_with fail
      refine (total_any a n cap xs w1 (hi.below b1) HX.out (by omega) (HS.out.below b1)).mono ?_
      rintro e w2 ⟨rfl, hb2⟩
      rw [HT.out]
      have b2 := b1.trans (hb2.mono b1.size)
      clear b1 hb2
      go_wp2_with fail
      refine (ints_any a n cap xs w2 (hi.below b2) HX.out (by omega) hb).mono ?_
      rintro e w3 ⟨v3, rfl, hv3⟩
      obtain ⟨A3, c3, rfl, hi3, hc3, hA3, hm3⟩ := hv3.form2
      have b3 := b2.trans (hv3.bel.mono b2.size)
      clear b2 hv3 hA3
      have hxl : xs.length ≤ 30 := by rw [HX.out]; exact hn30
      go_wp2_with fail
      refine (rtotal_any A3 xs.length c3 xs w3 hi3 rfl (by omega)).mono ?_
      rintro e w4 ⟨rfl, hb4⟩
      rw [HT.out]
      have b4 := b3.trans (hb4.mono b3.size)
      clear b3 hb4
      go_wp2
      go_ret
      exact ⟨rfl, b4⟩
end Go.Proofs.YtlbdfechhagimaaDoor
