/-
  Contracts: totals (both), numbers of runes, rows that are the same, what fits (the document's).
-/
import Derived.Test.YtlbdfechhagimaaDoorRef
namespace Go.Proofs.YtlbdfechhagimaaDoor
open Go.ChangeShapes Go.WideShapes Go.ChangeAt Go.RowKit
set_option linter.unusedVariables false

theorem tot_snoc (l : List Int) (k : Nat) (r : Int) (hk : k < l.length) (hr : l.getD k 0 = r) : tot (l.take (k + 1)) = tot (l.take k) + pos r := by
  rw [take_snoc l k r hk hr, tot_append]; simp [tot]
theorem tot_take_le (l : List Int) (k : Nat) : 0 ≤ tot (l.take k) ∧ tot (l.take k) ≤ 2 * (k : Int) := by
  have := tot_range (l.take k)
  have h : (l.take k).length ≤ k := List.length_take_le _ _
  omega

set_option maxHeartbeats 1000000 in
theorem total_any (A : Option Addr) (n c : Nat) (zs : List Int) (w : World) (h : Ints .i32 w A zs) (hl : zs.length = n) (hn : n ≤ 1000000) (hS : Spans w) :
    Calls Tryd.prog 13 #[.slice A n c] w (Num .i64 (tot zs) w) := by
  have HL := hide hl
  clear hl
  go_enter Tryd.func13, Tryd.ntmps13
  go_wp2
  go_loopw [3, 5, 8] (fun t _ i wr => ∃ k : Nat, k ≤ n ∧ i = .int .i64 k ∧ t = .int .i64 (tot (zs.take k)) ∧ Below w.heap.size w wr) (fun _ _ i _ => n - (intOf i).toNat)
  case atStart => exact ⟨0, Nat.zero_le _, rfl, rfl, Below.refl _ _⟩
  case round =>
    obtain ⟨k, hk, rfl, rfl, hbel⟩ := hrel
    by_cases hlt : k < n
    · obtain ⟨b, off, rfl, hc, hb⟩ := h.at (i := k) (by rw [HL.out]; exact hlt)
      obtain ⟨r, hr⟩ : ∃ r, zs.getD k 0 = r := ⟨_, rfl⟩
      have hcx : wr.cell? ⟨b, off + k, none⟩ = some (.int .i32 r) := by rw [← hr]; exact (hbel.cell (by exact hb)).trans hc
      obtain ⟨T, hT⟩ : ∃ T, tot (zs.take k) = T := ⟨_, rfl⟩
      have hB := tot_take_le zs k
      have HT := hide (tot_snoc zs k r (by rw [HL.out]; exact hlt) hr)
      rw [hT] at hB HT ⊢
      obtain ⟨hB1, hB2⟩ := hB
      obtain ⟨P1, hP⟩ : ∃ P1, pos r = P1 := ⟨_, rfl⟩
      have hP2 := pos_range r
      rw [hP] at hP2 HT
      obtain ⟨hP3, hP4⟩ := hP2
      have HP := hide hP
      clear hr hc hT hP
      go_wp2_with fail
      refine (columns_any r wr (hS.below hbel)).mono ?_
      rintro e w1 ⟨rfl, hb1⟩
      rw [HP.out]
      go_wp2
      go_roundw
      case rel => exact ⟨k + 1, by omega, by go_num, by rw [HT.out], hbel.trans (hb1.mono hbel.size)⟩
      case measure => simp [intOf]; omega
    · have E : Hid (tot (zs.take k) = tot zs) := by unfold Hid; rw [List.take_of_length_le (by rw [HL.out]; omega)]
      generalize tot (zs.take k) = T at E
      go_wp2
      go_ret
      exact ⟨ret_int E.out, hbel⟩

set_option maxHeartbeats 1000000 in
theorem rtotal_any (A : Option Addr) (n c : Nat) (zs : List Int) (w : World) (h : Ints .i64 w A zs) (hl : zs.length = n) (hn : n ≤ 1000000) :
    Calls Tryd.prog 14 #[.slice A n c] w (Num .i64 (tot zs) w) := by
  have HL := hide hl
  clear hl
  go_enter Tryd.func14, Tryd.ntmps14
  go_wp2
  go_loopw [3, 4] (fun t i wr => ∃ k : Nat, k ≤ n ∧ i = .int .i64 k ∧ t = .int .i64 (tot (zs.take k)) ∧ Below w.heap.size w wr) (fun _ i _ => n - (intOf i).toNat)
  case atStart => exact ⟨0, Nat.zero_le _, rfl, rfl, Below.refl _ _⟩
  case round =>
    obtain ⟨k, hk, rfl, rfl, hbel⟩ := hrel
    by_cases hlt : k < n
    · obtain ⟨b, off, rfl, hc, hb⟩ := h.at (i := k) (by rw [HL.out]; exact hlt)
      obtain ⟨r, hr⟩ : ∃ r, zs.getD k 0 = r := ⟨_, rfl⟩
      have hcx : wr.cell? ⟨b, off + k, none⟩ = some (.int .i64 r) := by rw [← hr]; exact (hbel.cell (by exact hb)).trans hc
      obtain ⟨T, hT⟩ : ∃ T, tot (zs.take k) = T := ⟨_, rfl⟩
      have hB := tot_take_le zs k
      have HT := hide (tot_snoc zs k r (by rw [HL.out]; exact hlt) hr)
      rw [hT] at hB HT ⊢
      obtain ⟨hB1, hB2⟩ := hB
      obtain ⟨P1, hP⟩ : ∃ P1, wOf r = P1 := ⟨_, rfl⟩
      have hP2 := wOf_range r
      rw [hP] at hP2
      have HP := hide hP
      clear hr hc hT hP
      by_cases h0 : 0 < P1
      · have hP4 : P1 ≤ 2 := by omega
        have HT2 : Hid (tot (zs.take (k + 1)) = T + P1) := by unfold Hid; rw [HT.out]; unfold pos; rw [HP.out, if_pos h0]
        clear hP2
        go_wp2_with fail
        refine (rof_any r wr).mono ?_
        rintro e w1 ⟨rfl, hb1⟩
        rw [HP.out]
        have hbel1 := hbel.trans (hb1.mono hbel.size)
        have hcx1 : w1.cell? ⟨b, off + k, none⟩ = some (.int .i64 r) := (hb1.cell (block_lt_of_cell hcx)).trans hcx
        go_wp2_with fail
        refine (rof_any r w1).mono ?_
        rintro e w2 ⟨rfl, hb2⟩
        rw [HP.out]
        go_wp2
        go_roundw
        case rel => exact ⟨k + 1, by omega, by go_num, by rw [HT2.out], hbel1.trans (hb2.mono hbel1.size)⟩
        case measure => simp [intOf]; omega
      · have HT2 : Hid (tot (zs.take (k + 1)) = T) := by unfold Hid; rw [HT.out]; unfold pos; rw [HP.out, if_neg h0]; omega
        clear hP2
        go_wp2_with fail
        refine (rof_any r wr).mono ?_
        rintro e w1 ⟨rfl, hb1⟩
        rw [HP.out]
        go_wp2
        go_roundw
        case rel => exact ⟨k + 1, by omega, by go_num, by rw [HT2.out], hbel.trans (hb1.mono hbel.size)⟩
        case measure => simp [intOf]; omega
    · have E : Hid (tot (zs.take k) = tot zs) := by unfold Hid; rw [List.take_of_length_le (by rw [HL.out]; omega)]
      generalize tot (zs.take k) = T at E
      go_wp2
      go_ret
      exact ⟨ret_int E.out, hbel⟩

set_option maxHeartbeats 1000000 in
theorem ints_any (a : Option Addr) (len cap : Nat) (zs : List Int) (w : World) (h : Ints .i32 w a zs) (hl : zs.length = len) (hlen : len ≤ 1000) (hz : Rn zs) :
    Calls Tryd.prog 15 #[.slice a len cap] w (Made 3 .i64 w zs) := by
  have HL := hide hl
  clear hl
  go_enter Tryd.func15, Tryd.ntmps15
  go_wp2
  go_loopw [3, 4] (fun v i wr => ∃ k : Nat, k ≤ len ∧ i = .int .i64 k ∧ Own 3 .i64 w.heap.size w wr v (zs.take k))
    (fun _ i _ => len - (intOf i).toNat)
  case atStart => exact ⟨0, Nat.zero_le _, rfl, Own.start (Nat.le_refl _)⟩
  case round =>
    obtain ⟨k, hk, rfl, hown⟩ := hrel
    by_cases hlt : k < len
    · obtain ⟨b, off, rfl, hc, hb⟩ := h.at (i := k) (by rw [HL.out]; exact hlt)
      have hb2 := hz.at k (by rw [HL.out]; exact hlt)
      obtain ⟨r, hr⟩ : ∃ r, zs.getD k 0 = r := ⟨_, rfl⟩
      have hcx : wr.cell? ⟨b, off + k, none⟩ = some (.int .i32 r) := by rw [← hr]; exact (hown.bel.cell (by exact hb)).trans hc
      rw [hr] at hb2
      obtain ⟨b3, b4⟩ := hb2
      have HT := hide (take_snoc zs k r (by rw [HL.out]; exact hlt) hr)
      have hl3 : (zs.take k).length ≤ k := List.length_take_le _ _
      clear hr hc
      go_wp2_with (at_builtin; refine wpList_push elem29 rfl _ _ rfl rfl rfl hown (by omega) (by omega) ?_; intro v' w2 hown2)
      go_roundw
      case rel => exact ⟨k + 1, by omega, by go_num, by rw [HT.out]; exact hown2⟩
      case measure => simp [intOf]; omega
    · go_wp2
      go_ret
      exact ⟨_, rfl, by rw [List.take_of_length_le (by rw [HL.out]; omega)] at hown; exact hown⟩

set_option maxHeartbeats 1000000 in
theorem same_yes (A C : Option Addr) (n c d : Nat) (x : List Int) (w : World) (ha : Ints .i32 w A x) (hb : Ints .i64 w C x) (hn : x.length = n) (hl : n ≤ 1000000) (hz : Rn x) :
    Calls Tryd.prog 18 #[.slice A n c, .slice C n d] w (Said true w) := by
  have HN := hide hn
  clear hn
  go_enter Tryd.func18, Tryd.ntmps18
  go_wp2
  go_loopw [5] (fun i wr => ∃ k : Nat, k ≤ n ∧ i = .int .i64 k ∧ Below w.heap.size w wr) (fun i _ => n - (intOf i).toNat)
  case atStart => exact ⟨0, Nat.zero_le _, rfl, Below.refl _ _⟩
  case round =>
    obtain ⟨k, hk, rfl, hbel⟩ := hrel
    by_cases hlt : k < n
    · obtain ⟨b, off, rfl, hc, hb1⟩ := ha.at (i := k) (by rw [HN.out]; exact hlt)
      obtain ⟨b2, off2, rfl, hc2, hb2⟩ := hb.at (i := k) (by rw [HN.out]; exact hlt)
      have hb3 := hz.at k (by rw [HN.out]; exact hlt)
      rw [← hbel.cell (p := ⟨b, off + k, none⟩) hb1] at hc
      rw [← hbel.cell (p := ⟨b2, off2 + k, none⟩) hb2] at hc2
      generalize x.getD k 0 = r at hc hc2 hb3
      obtain ⟨b5, b4⟩ := hb3
      have hq : (r != r) = false := by simp
      go_wp2
      go_quiet (fail)
      go_wp2
      go_roundw
      case rel => exact ⟨k + 1, by omega, by go_num, hbel.drewN _⟩
      case measure => simp [intOf]; omega
    · go_wp2
      go_ret
      exact ⟨rfl, hbel⟩
end Go.Proofs.YtlbdfechhagimaaDoor
