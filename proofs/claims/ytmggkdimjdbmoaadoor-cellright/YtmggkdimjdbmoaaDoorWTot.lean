/-
  Contracts: totals (both), numbers of runes, rows that are the same, what fits (the document's).
-/
import Derived.Test.YtmggkdimjdbmoaaDoorWRef
namespace Go.Proofs.YtmggkdimjdbmoaaDoor
open Go.ChangeShapes Go.WideShapes Go.ChangeAt Go.RowKit
set_option linter.unusedVariables false

theorem tot_snoc (l : List Int) (k : Nat) (r : Int) (hk : k < l.length) (hr : l.getD k 0 = r) : tot (l.take (k + 1)) = tot (l.take k) + pos r := by
  rw [take_snoc l k r hk hr, tot_append]; simp [tot]
theorem tot_take_le (l : List Int) (k : Nat) : 0 ≤ tot (l.take k) ∧ tot (l.take k) ≤ 2 * (k : Int) := by
  have := tot_range (l.take k)
  have h : (l.take k).length ≤ k := List.length_take_le _ _
  omega

set_option maxHeartbeats 1000000 in
theorem total_any (A : Option Addr) (n c : Nat) (zs : List Int) (w : World) (h : Ints .i32 w A zs) (hl : zs.length = n) (hn : n ≤ 1000000) (hS : Spans w) :
    Calls Tryd.prog 25 #[.slice A n c] w (Num .i64 (tot zs) w) := by
  have HL := hide hl
  clear hl
  go_enter Tryd.func25, Tryd.ntmps25
  go_wp2
  go_loopw [3, 5, 8] (fun t _ i wr => ∃ k : Nat, k ≤ n ∧ i = .int .i64 k ∧ t = .int .i64 (tot (zs.take k)) ∧ Below w.heap.size w wr) (fun _ _ i _ => n - (intOf i).toNat)
  case atStart => exact ⟨0, Nat.zero_le _, rfl, rfl, Below.refl _ _⟩
  case round =>
    obtain ⟨k, hk, rfl, rfl, hbel⟩ := hrel
    by_cases hlt : k < n
    · obtain ⟨b, off, rfl, hc, hb⟩ := h.at (i := k) (by rw [HL.out]; exact hlt)
      obtain ⟨r, hr⟩ : ∃ r, zs.getD k 0 = r := ⟨_, rfl⟩
      have hcx : wr.cell? ⟨b, off + k, none⟩ = some (.int .i32 r) := by rw [← hr]; exact (hbel.cell (by exact hb)).trans hc
      obtain ⟨T, hT⟩ : ∃ T, tot (zs.take k) = T := ⟨_, rfl⟩
      have hB := tot_take_le zs k
      have HT := hide (tot_snoc zs k r (by rw [HL.out]; exact hlt) hr)
      rw [hT] at hB HT ⊢
      obtain ⟨hB1, hB2⟩ := hB
      obtain ⟨P1, hP⟩ : ∃ P1, pos r = P1 := ⟨_, rfl⟩
      have hP2 := pos_range r
      rw [hP] at hP2 HT
      obtain ⟨hP3, hP4⟩ := hP2
      have HP := hide hP
      clear hr hc hT hP
      go_wp2_with fail
      refine (columns_any r wr (hS.below hbel)).mono ?_
      rintro e w1 ⟨rfl, hb1⟩
      rw [HP.out]
      go_wp2
      go_roundw
      case rel => exact ⟨k + 1, by omega, by go_num, by rw [HT.out], hbel.trans (hb1.mono hbel.size)⟩
      case measure => simp [intOf]; omega
    · have E : Hid (tot (zs.take k) = tot zs) := by unfold Hid; rw [List.take_of_length_le (by rw [HL.out]; omega)]
      generalize tot (zs.take k) = T at E
      go_wp2
      go_ret
      exact ⟨ret_int E.out, hbel⟩

set_option maxHeartbeats 1000000 in
set_option maxHeartbeats 1000000 in
set_option maxHeartbeats 1000000 in
theorem same_yes (A C : Option Addr) (n c d : Nat) (x : List Int) (w : World) (ha : Ints .i32 w A x) (hb : Ints .i64 w C x) (hn : x.length = n) (hl : n ≤ 1000000) (hz : Rn x) :
    Calls Tryd.prog 21 #[.slice A n c, .slice C n d] w (Said true w) := by
  have HN := hide hn
  clear hn
  go_enter Tryd.func21, Tryd.ntmps21
  go_wp2
  go_loopw [5] (fun i wr => ∃ k : Nat, k ≤ n ∧ i = .int .i64 k ∧ Below w.heap.size w wr) (fun i _ => n - (intOf i).toNat)
  case atStart => exact ⟨0, Nat.zero_le _, rfl, Below.refl _ _⟩
  case round =>
    obtain ⟨k, hk, rfl, hbel⟩ := hrel
    by_cases hlt : k < n
    · obtain ⟨b, off, rfl, hc, hb1⟩ := ha.at (i := k) (by rw [HN.out]; exact hlt)
      obtain ⟨b2, off2, rfl, hc2, hb2⟩ := hb.at (i := k) (by rw [HN.out]; exact hlt)
      have hb3 := hz.at k (by rw [HN.out]; exact hlt)
      rw [← hbel.cell (p := ⟨b, off + k, none⟩) hb1] at hc
      rw [← hbel.cell (p := ⟨b2, off2 + k, none⟩) hb2] at hc2
      generalize x.getD k 0 = r at hc hc2 hb3
      obtain ⟨b5, b4⟩ := hb3
      have hq : (r != r) = false := by simp
      go_wp2
      go_quiet (fail)
      go_wp2
      go_roundw
      case rel => exact ⟨k + 1, by omega, by go_num, hbel.drewN _⟩
      case measure => simp [intOf]; omega
    · go_wp2
      go_ret
      exact ⟨rfl, hbel⟩
end Go.Proofs.YtmggkdimjdbmoaaDoor
