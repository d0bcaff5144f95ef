/-
  Contracts: a scalar's bytes, those of many.
-/
import Derived.Test.YtlblkoijkaaciaaBase
import Derived.Laws.BitsAllLaws
namespace Go.Proofs.Ytlblkoijkaaciaa
open Go.ChangeShapes Go.WideShapes Go.ChangeAt Go.RowKit
set_option linter.unusedVariables false

set_option maxHeartbeats 400000 in
theorem tail_any (r : Int) (w : World) (h0 : 0 ≤ r) (h1 : r ≤ 1114111) : Calls Try.prog 34 #[.int .i32 r] w fun e w' => e = .returned (.int .u8 (128 + r % 64)) ∧ w = w' := by
  go_enter Try.func34, Try.ntmps34
  go_wp2
  go_ret
  exact ⟨rfl, rfl⟩

set_option maxHeartbeats 1000000 in
theorem put_any (r : Int) (h : isSc r = true) (B : Nat) (w wr : World) (v : Value) (bs : List Int) (hown : Own 5 .u8 B w wr v bs) (hl : bs.length ≤ 1000) :
    Calls Try.prog 24 #[v, .int .i32 r] wr fun e w' => ∃ v', e = .returned v' ∧ Own 5 .u8 B w w' v' (bs ++ encS r) := by
  obtain ⟨h0, h9, _⟩ := (isSc_iff r).1 h
  clear h
  by_cases h1 : r < 128
  · have E := hide (encS1 h1)
    have h1' : r ≤ 127 := by omega
    go_enter Try.func24, Try.ntmps24
    go_wp2_with (at_builtin; refine wpList_push elem23 rfl _ _ rfl rfl rfl hown (by omega) (by omega) ?_; intro v' w2 hown2)
    go_ret
    exact ⟨_, rfl, by rw [E.out]; exact hown2⟩
  by_cases h2 : r < 2048
  · have E := hide (encS2 h1 h2)
    have g1 : 127 < r := by omega
    have g2 : r ≤ 2047 := by omega
    go_enter Try.func24, Try.ntmps24
    go_wp2_with (first | (go_at_call 34; refine (tail_any _ _ (by omega) (by omega)).mono ?_; rintro e w' ⟨rfl, rfl⟩) | (at_builtin; refine wpList_cat elem23 rfl _ _ rfl rfl rfl (hown.alloc _) (Ints.new .u8 wr 5 [_, _]) rfl (fun h => by cases h) (by simp; omega) (by omega) ?_; intro v' w2 hown2))
    go_ret
    exact ⟨_, rfl, by rw [E.out]; exact hown2⟩
  by_cases h3 : r < 65536
  · have E := hide (encS3 h2 h3)
    have g1 : 127 < r := by omega
    have g2 : 2047 < r := by omega
    have g3 : r ≤ 65535 := by omega
    go_enter Try.func24, Try.ntmps24
    go_wp2_with (first | (go_at_call 34; refine (tail_any _ _ (by omega) (by omega)).mono ?_; rintro e w' ⟨rfl, rfl⟩) | (at_builtin; refine wpList_cat elem23 rfl _ _ rfl rfl rfl (hown.alloc _) (Ints.new .u8 wr 5 [_, _, _]) rfl (fun h => by cases h) (by simp; omega) (by omega) ?_; intro v' w2 hown2))
    go_ret
    exact ⟨_, rfl, by rw [E.out]; exact hown2⟩
  · have E := hide (encS4 h3)
    have g1 : 127 < r := by omega
    have g2 : 2047 < r := by omega
    have g3 : 65535 < r := by omega
    go_enter Try.func24, Try.ntmps24
    go_wp2_with (first | (go_at_call 34; refine (tail_any _ _ (by omega) (by omega)).mono ?_; rintro e w' ⟨rfl, rfl⟩) | (at_builtin; refine wpList_cat elem23 rfl _ _ rfl rfl rfl (hown.alloc _) (Ints.new .u8 wr 5 [_, _, _, _]) rfl (fun h => by cases h) (by simp; omega) (by omega) ?_; intro v' w2 hown2))
    go_ret
    exact ⟨_, rfl, by rw [E.out]; exact hown2⟩

set_option maxHeartbeats 1000000 in
theorem bytes_any (a : Option Addr) (len cap : Nat) (zs : List Int) (w : World) (h : Ints .i32 w a zs) (hl : zs.length = len) (hlen : len ≤ 200) :
    Calls Try.prog 7 #[.slice a len cap] w (Made 5 .u8 w (encA zs)) := by
  have HL := hide hl
  clear hl
  go_enter Try.func7, Try.ntmps7
  go_wp2
  go_loopw [3, 5, 8] (fun v _ i wr => ∃ k : Nat, k ≤ len ∧ i = .int .i64 k ∧ Own 5 .u8 w.heap.size w wr v (encA (zs.take k)))
    (fun _ _ i _ => len - (intOf i).toNat)
  case atStart => exact ⟨0, Nat.zero_le _, rfl, Own.start (Nat.le_refl _)⟩
  case round =>
    obtain ⟨k, hk, rfl, hown⟩ := hrel
    by_cases hlt : k < len
    · obtain ⟨b, off, rfl, hc, hb⟩ := h.at (i := k) (by rw [HL.out]; exact hlt)
      obtain ⟨r, hr⟩ : ∃ r, zs.getD k 0 = r := ⟨_, rfl⟩
      have hcx : wr.cell? ⟨b, off + k, none⟩ = some (.int .i32 r) := by rw [← hr]; exact (hown.bel.cell (by exact hb)).trans hc
      have hl1 := encA_len (zs.take k)
      have hl3 : (zs.take k).length ≤ k := List.length_take_le _ _
      have HT : Hid (encA (zs.take (k + 1)) = encA (zs.take k) ++ encS (fix r)) := by
        unfold Hid
        rw [List.take_succ_eq_append_getElem (by rw [HL.out]; exact hlt), encA_append, encA_one]
        rw [List.getD_eq_getElem?_getD, List.getElem?_eq_getElem (by rw [HL.out]; exact hlt)] at hr
        simp at hr
        rw [hr]
      clear hr hc
      by_cases hs : isSc r = true
      · have HF := hide (fix_of r hs)
        go_wp2_with fail
        refine (scalar_any r wr).mono ?_
        rintro e w1 ⟨rfl, rfl⟩
        rw [hs]
        have HS := hide hs
        clear hs
        go_wp2_with fail
        refine (put_any r HS.out w.heap.size w wr _ _ hown (by omega)).mono ?_
        rintro e w1 ⟨v', rfl, hown1⟩
        go_wp2
        go_roundw
        case rel => exact ⟨k + 1, by omega, by go_num, by rw [HT.out, HF.out]; exact hown1⟩
        case measure => simp [intOf]; omega
      · have HF : Hid (fix r = 65533) := by unfold Hid fix; rw [if_neg hs]
        have hs' : isSc r = false := by simpa using hs
        clear hs
        go_wp2_with fail
        refine (scalar_any r wr).mono ?_
        rintro e w1 ⟨rfl, rfl⟩
        rw [hs']
        clear hs'
        go_wp2_with fail
        refine (put_any 65533 (by decide) w.heap.size w wr _ _ hown (by omega)).mono ?_
        rintro e w1 ⟨v', rfl, hown1⟩
        go_wp2
        go_roundw
        case rel => exact ⟨k + 1, by omega, by go_num, by rw [HT.out, HF.out]; exact hown1⟩
        case measure => simp [intOf]; omega
    · go_wp2
      go_ret
      exact ⟨_, rfl, by rw [List.take_of_length_le (by rw [HL.out]; omega)] at hown; exact hown⟩
end Go.Proofs.Ytlblkoijkaaciaa
