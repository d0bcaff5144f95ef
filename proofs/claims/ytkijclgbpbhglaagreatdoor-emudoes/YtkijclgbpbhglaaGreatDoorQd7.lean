/-
  Contracts and plain mathematics of LRef4, LSame, LV.
-/
import Derived.Test.YtkijclgbpbhglaaGreatDoorQd6
import Derived.Test.YtkijclgbpbhglaaGreatDoorQd4
import Derived.Test.YtkijclgbpbhglaaGreatDoorQd5
namespace Go.Proofs.YtkijclgbpbhglaaGreatDoor
set_option maxRecDepth 100000
set_option linter.unusedVariables false
set_option maxHeartbeats 8000000
section
open Go.ChangeShapes Go.WideShapes Go.ChangeAt Go.RowKit
def LineV2 (k : IntKind) (cs : List Cel) (ok : Bool) (w : World) (e : Ending) (w' : World) : Prop := ∃ A c, e = .returned (.tuple #[.slice A cs.length c, .bool ok]) ∧ Cels k w' A cs ∧ Below w.heap.size w w'
def putAt (cs : List Cel) (k : Nat) (c : Cel) (i : Nat) : Cel := if i = k then c else if i = k + 1 ∧ c.w = 2 then restC c else cAt cs i
theorem putTab_is (cs : List Cel) (k : Nat) (c : Cel) : putTab cs k c = tab cs.length (putAt cs k c) := rfl
theorem putAt_a (cs : List Cel) (k : Nat) (c : Cel) : putAt cs k c k = c := by unfold putAt; rw [if_pos rfl]
theorem putAt_b {cs : List Cel} {k : Nat} {c : Cel} (h : c.w = 2) : putAt cs k c (k + 1) = restC c := by unfold putAt; rw [if_neg (by omega), if_pos ⟨rfl, h⟩]
theorem putAt_c {cs : List Cel} {k : Nat} {c : Cel} {i : Nat} (h : i ≠ k) (h2 : ¬ (i = k + 1 ∧ c.w = 2)) : putAt cs k c i = cAt cs i := by unfold putAt; rw [if_neg h, if_neg h2]
theorem rput_any (A : Option Addr) (n c : Nat) (at_ : Int) (r m x : Int) (d f g b : Nat) (hd : d < 256) (cs : List Cel) (w : World) (h : Cels .i64 w A cs) (hn : cs.length = n) (hl : n ≤ 1000000) (ha : -9223372036854775808 ≤ at_ ∧ at_ < 9223372036854775808) :
  Calls Tryz.prog 162 #[.slice A n c, .int .i64 at_, .agg #[.int .i64 r, .int .i64 m, .int .i64 x, .int .u8 d, .int .u8 f, .int .u8 g, .int .u8 b]] w (LineV2 .i64 (putC cs at_ ⟨r, m, x, d, ⟨f, g, b⟩⟩) (putOk cs at_ ⟨r, m, x, d, ⟨f, g, b⟩⟩) w) := by
 have HN := hide hn
 obtain ⟨W0, hW0⟩ := exq (w.alloc (.cells #[.int .i64 r, .int .i64 m, .int .i64 x, .int .u8 d, .int .u8 f, .int .u8 g, .int .u8 b] 166))
 have HB0 : Hid (Below w.heap.size w W0) := by unfold Hid; rw [← hW0]; exact (Below.refl _ _).alloc (Nat.le_refl _) _
 have HP0 : Hid (Whole W0 w.heap.size 166 [.int .i64 r, .int .i64 m, .int .i64 x, .int .u8 d, .int .u8 f, .int .u8 g, .int .u8 b]) := by unfold Hid; rw [← hW0]; exact Whole.new _ _ _
 have HC0 : Hid (Cels .i64 W0 A cs) := by unfold Hid; rw [← hW0]; exact h.alloc _
 have HW0 := hide hW0
 obtain ⟨R, hR⟩ := exq (rightC ⟨r, m, x, d, ⟨f, g, b⟩⟩)
 have key : (R = false ∧ putOk cs at_ ⟨r, m, x, d, ⟨f, g, b⟩⟩ = false) ∨ (R = true ∧ d = 0 ∧ putOk cs at_ ⟨r, m, x, d, ⟨f, g, b⟩⟩ = false) ∨ (R = true ∧ d ≠ 0 ∧ at_ < 0 ∧ putOk cs at_ ⟨r, m, x, d, ⟨f, g, b⟩⟩ = false) ∨ (R = true ∧ d ≠ 0 ∧ 0 ≤ at_ ∧ (n : Int) ≤ at_ ∧ putOk cs at_ ⟨r, m, x, d, ⟨f, g, b⟩⟩ = false) ∨ (R = true ∧ d = 2 ∧ 0 ≤ at_ ∧ at_ = (n : Int) - 1 ∧ putOk cs at_ ⟨r, m, x, d, ⟨f, g, b⟩⟩ = false) ∨ (R = true ∧ d = 2 ∧ 0 ≤ at_ ∧ at_ < (n : Int) - 1 ∧ putOk cs at_ ⟨r, m, x, d, ⟨f, g, b⟩⟩ = true) ∨ (R = true ∧ d = 1 ∧ 0 ≤ at_ ∧ at_ < (n : Int) ∧ putOk cs at_ ⟨r, m, x, d, ⟨f, g, b⟩⟩ = true) := by
  cases R
  ·exact .inl ⟨rfl, putOk_no (by rw [hR]; simp)⟩
  ·refine .inr ?_
   by_cases h0 : d = 0
   ·exact .inl ⟨rfl, h0, putOk_no (by simp [h0])⟩
   refine .inr ?_
   by_cases h1 : at_ < 0
   ·exact .inl ⟨rfl, h0, h1, putOk_no (by rintro ⟨_, _, q, _⟩; omega)⟩
   refine .inr ?_
   by_cases h2 : (n : Int) ≤ at_
   ·exact .inl ⟨rfl, h0, by omega, h2, putOk_no (by rintro ⟨_, _, _, q⟩; simp only at q; omega)⟩
   refine .inr ?_
   have hd2 : d = 1 ∨ d = 2 := by rcases right_w hR with q | q | q; exact absurd q h0; exact .inl q; exact .inr q
   rcases hd2 with q | q
   ·exact .inr (.inr ⟨rfl, q, by omega, by omega, putOk_yes ⟨hR, h0, by omega, by simp only; omega⟩⟩)
   ·by_cases h3 : at_ = (n : Int) - 1
    ·exact .inl ⟨rfl, q, by omega, h3, putOk_no (by rintro ⟨_, _, _, q⟩; simp only at q; omega)⟩
    ·exact .inr (.inl ⟨rfl, q, by omega, by omega, putOk_yes ⟨hR, h0, by omega, by simp only; omega⟩⟩)
 have HR := hide hR; clear h hn hW0 hR
 obtain ⟨a0, a1, a2, a3, a4, a5, a6, -⟩ := cells7 HP0.out
 go_enter Tryz.func162, Tryz.ntmps162
 go_wp2_with fail
 rw [HW0.out]
 refine (rcright_any r m x d f g b hd W0).mono ?_
 rintro e w2 ⟨rfl, hb⟩
 rw [HR.out]
 clear a0 a1 a2 a3 a4 a5 a6
 have HB2 := hide (HB0.out.trans (hb.mono HB0.out.size))
 have HP2 := hide (HP0.out.later hb)
 have HC2 := hide (HC0.out.below hb)
 clear hb HC0 HP0 HB0
 obtain ⟨a0, a1, a2, a3, a4, a5, a6, -⟩ := cells7 HP2.out
 rcases key with ⟨rfl, hk⟩ | ⟨rfl, h0, hk⟩ | ⟨rfl, h0, h1, hk⟩ | ⟨rfl, h0, h1, h2, hk⟩ | ⟨rfl, h0, h1, h2, hk⟩ | ⟨rfl, h0, h1, h2, hk⟩ | ⟨rfl, h0, h1, h2, hk⟩
 ·have HK := hide hk
  clear hk; go_wp2; go_ret2
  exact ⟨A, c, by rw [HK.out, put_no HK.out, HN.out]; rfl, by rw [put_no HK.out]; exact HC2.out, HB2.out⟩
 ·have HK := hide hk
  have e0 : ((d : Int) == 0) = true := by simp; omega
  clear hk h0; go_wp2; go_ret2
  exact ⟨A, c, by rw [HK.out, put_no HK.out, HN.out]; rfl, by rw [put_no HK.out]; exact HC2.out, HB2.out⟩
 ·have HK := hide hk
  have e0 : ((d : Int) == 0) = false := by simp; omega
  clear hk h0; go_wp2; go_ret2
  exact ⟨A, c, by rw [HK.out, put_no HK.out, HN.out]; rfl, by rw [put_no HK.out]; exact HC2.out, HB2.out⟩
 ·have HK := hide hk
  have e0 : ((d : Int) == 0) = false := by simp; omega
  clear hk h0; go_wp2; go_ret2
  exact ⟨A, c, by rw [HK.out, put_no HK.out, HN.out]; rfl, by rw [put_no HK.out]; exact HC2.out, HB2.out⟩
 ·have HK := hide hk
  have e0 : ((d : Int) == 0) = false := by simp; omega
  have e2 : ((d : Int) == 2) = true := by simp; omega
  have e3 : (at_ == (n : Int) - 1) = true := by simp; omega
  clear hk h0; go_wp2; go_ret2
  exact ⟨A, c, by rw [HK.out, put_no HK.out, HN.out]; rfl, by rw [put_no HK.out]; exact HC2.out, HB2.out⟩
 ·obtain ⟨k0, rfl⟩ : ∃ k0 : Nat, at_ = (k0 : Int) := ⟨at_.toNat, by omega⟩
  have HK := hide hk
  have e0 : ((d : Int) == 0) = false := by simp; omega
  have e2 : ((d : Int) == 2) = true := by simp; omega
  have e3 : ((k0 : Int) == (n : Int) - 1) = false := by simp; omega
  have HD2 := hide h0; clear h0 hk h1; go_wp2; clear a0 a1 a2 a3 a4 a5 a6
  try generalize decide (n ≤ k0) = B1
  try generalize decide ((k0 : Int) < 0) = B2
  go_loopw [8, 9] (fun v i wr => ∃ k : Nat, k ≤ n ∧ i = .int .i64 k ∧ OwnC 166 .i64 w2.heap.size w2 wr v (tab k (putAt cs k0 ⟨r, m, x, d, ⟨f, g, b⟩⟩))) (fun _ i _ => n - (intOf i).toNat)
  case atStart => exact ⟨0, Nat.zero_le _, rfl, OwnC.start (Nat.le_refl _)⟩
  case round =>
   obtain ⟨k, hk, rfl, hown⟩ := hrel
   have HV := hide hown; clear hown
   by_cases hlt : k < n
   ·by_cases hk0 : k = k0
    ·have HM : Hid (putAt cs k0 ⟨r, m, x, d, ⟨f, g, b⟩⟩ k = ⟨r, m, x, d, ⟨f, g, b⟩⟩) := by unfold Hid; rw [hk0]; exact putAt_a cs k0 _
     have q0 : ((k : Int) == (k0 : Int)) = true := by simp; omega
     obtain ⟨a0, a1, a2, a3, a4, a5, a6, -⟩ := cells7 (HP2.out.later HV.out.bel)
     go_wp2_with (at_builtin; refine stopw ?_)
     unfold Hid
     refine wpList_pushC elemLC ⟨r, m, x, d, ⟨f, g, b⟩⟩ rfl _ _ rfl rfl rfl (HV.out) (by rw [tab_len]; omega) (by omega) ?_
     intro v' wn hn1
     have HV' := hide (hn1.snoc HM.out)
     clear hn1 a0 a1 a2 a3 a4 a5 a6; go_wp2
     go_roundw
     case rel => exact ⟨k + 1, by omega, by go_num, HV'.out⟩
     case measure => simp [intOf]; omega
    ·have q0 : ((k : Int) == (k0 : Int)) = false := by simp; omega
     by_cases hk1 : k = k0 + 1
     ·have q1 : ((k : Int) == (k0 : Int) + 1) = true := by simp; omega
      have HM := hide (putAt_b (cs := cs) (k := k0) (c := ⟨r, m, x, d, ⟨f, g, b⟩⟩) HD2.out)
      subst hk1
      obtain ⟨a0, a1, a2, a3, a4, a5, a6, -⟩ := cells7 (HP2.out.later HV.out.bel)
      go_wp2_with fail
      refine (rrest_v r m x d f g b wr).mono ?_
      rintro e w4 ⟨rfl, hb4⟩
      have HV1 := hide (HV.out.later hb4)
      clear hb4 a0 a1 a2 a3 a4 a5 a6
      go_wp2_with (at_builtin; refine stopw ?_)
      unfold Hid
      refine wpList_pushC elemLC ⟨0, 0, 0, 0, ⟨f, g, b⟩⟩ rfl _ _ rfl rfl rfl (HV1.out) (by rw [tab_len]; omega) (by omega) ?_
      intro v' wn hn1
      have HV' := hide (hn1.snoc HM.out)
      clear hn1; go_wp2
      go_roundw
      case rel => exact ⟨k0 + 1 + 1, by omega, by go_num, HV'.out⟩
      case measure => simp [intOf]; omega
     ·have q1 : ((k : Int) == (k0 : Int) + 1) = false := by simp; omega
      have HM := hide (putAt_c (cs := cs) (c := ⟨r, m, x, d, ⟨f, g, b⟩⟩) (k := k0) (i := k) hk0 (by omega))
      obtain ⟨b1, o1, rfl, l1, -⟩ := HC2.out.at (i := k) (by rw [HN.out]; exact hlt)
      obtain ⟨⟨r', x', y', z', ⟨f', g', b'⟩⟩, hc⟩ : ∃ q, cAt cs k = q := ⟨_, rfl⟩
      rw [hc] at HM
      obtain ⟨a0, a1, a2, a3, a4, a5, a6, -⟩ := (HC2.out.below HV.out.bel).sevenC k (by rw [HN.out]; exact hlt) hc
      clear hc
      go_wp2_with (at_builtin; refine stopw ?_)
      unfold Hid
      refine wpList_pushC elemLC ⟨r', x', y', z', ⟨f', g', b'⟩⟩ rfl _ _ rfl rfl rfl (HV.out) (by rw [tab_len]; omega) (by omega) ?_
      intro v' wn hn1
      have HV' := hide (hn1.snoc HM.out)
      clear hn1 a0 a1 a2 a3 a4 a5 a6; go_wp2
      go_roundw
      case rel => exact ⟨k + 1, by omega, by go_num, HV'.out⟩
      case measure => simp [intOf]; omega
   ·obtain rfl : k = n := by omega
    obtain ⟨A3, c3, hv, hc3, hcap, hnil, hmax⟩ := HV.out.form
    rw [tab_len] at hv
    subst hv
    have HC3 : Hid (Cels .i64 wr A3 (putTab cs k0 ⟨r, m, x, d, ⟨f, g, b⟩⟩)) := by unfold Hid; rw [putTab_is, HN.out]; exact hc3
    clear hc3 hcap hnil hmax; go_wp2_with fail
    refine (rmend_any A3 k c3 (putTab cs k0 ⟨r, m, x, d, ⟨f, g, b⟩⟩) wr HC3.out (by rw [putTab_len, HN.out]) hl).mono ?_
    rintro e w4 ⟨v2, rfl, ho2⟩
    have HO2 := hide ((ho2.from (HV.out.bel) HV.out.le).from HB2.out HB2.out.size)
    clear ho2; go_wp2; go_ret2
    obtain ⟨A5, c5, hv5, hc5, -⟩ := HO2.out.form
    have e9 : putC cs (k0 : Int) ⟨r, m, x, d, ⟨f, g, b⟩⟩ = mendC (putTab cs k0 ⟨r, m, x, d, ⟨f, g, b⟩⟩) := put_yes HK.out
    exact ⟨A5, c5, by rw [HK.out, e9, ← hv5]; rfl, by rw [e9]; exact hc5, HO2.out.bel⟩
 ·obtain ⟨k0, rfl⟩ : ∃ k0 : Nat, at_ = (k0 : Int) := ⟨at_.toNat, by omega⟩
  have HK := hide hk
  have e0 : ((d : Int) == 0) = false := by simp; omega
  have e2 : ((d : Int) == 2) = false := by simp; omega
  have HD2 := hide h0; clear h0 hk h1; go_wp2; clear a0 a1 a2 a3 a4 a5 a6
  try generalize decide (n ≤ k0) = B1
  try generalize decide ((k0 : Int) < 0) = B2
  go_loopw [8, 9] (fun v i wr => ∃ k : Nat, k ≤ n ∧ i = .int .i64 k ∧ OwnC 166 .i64 w2.heap.size w2 wr v (tab k (putAt cs k0 ⟨r, m, x, d, ⟨f, g, b⟩⟩))) (fun _ i _ => n - (intOf i).toNat)
  case atStart => exact ⟨0, Nat.zero_le _, rfl, OwnC.start (Nat.le_refl _)⟩
  case round =>
   obtain ⟨k, hk, rfl, hown⟩ := hrel
   have HV := hide hown; clear hown
   by_cases hlt : k < n
   ·by_cases hk0 : k = k0
    ·have HM : Hid (putAt cs k0 ⟨r, m, x, d, ⟨f, g, b⟩⟩ k = ⟨r, m, x, d, ⟨f, g, b⟩⟩) := by unfold Hid; rw [hk0]; exact putAt_a cs k0 _
     have q0 : ((k : Int) == (k0 : Int)) = true := by simp; omega
     obtain ⟨a0, a1, a2, a3, a4, a5, a6, -⟩ := cells7 (HP2.out.later HV.out.bel)
     go_wp2_with (at_builtin; refine stopw ?_)
     unfold Hid
     refine wpList_pushC elemLC ⟨r, m, x, d, ⟨f, g, b⟩⟩ rfl _ _ rfl rfl rfl (HV.out) (by rw [tab_len]; omega) (by omega) ?_
     intro v' wn hn1
     have HV' := hide (hn1.snoc HM.out)
     clear hn1 a0 a1 a2 a3 a4 a5 a6; go_wp2
     go_roundw
     case rel => exact ⟨k + 1, by omega, by go_num, HV'.out⟩
     case measure => simp [intOf]; omega
    ·have q0 : ((k : Int) == (k0 : Int)) = false := by simp; omega
     have HM := hide (putAt_c (cs := cs) (c := ⟨r, m, x, d, ⟨f, g, b⟩⟩) (k := k0) (i := k) hk0 (by have := HD2.out; simp only; omega))
     by_cases hk1 : k = k0 + 1
     ·have q1 : ((k : Int) == (k0 : Int) + 1) = true := by simp; omega
      subst hk1
      obtain ⟨b1, o1, rfl, l1, -⟩ := HC2.out.at (i := k0 + 1) (by rw [HN.out]; exact hlt)
      obtain ⟨⟨r', x', y', z', ⟨f', g', b'⟩⟩, hc⟩ : ∃ q, cAt cs (k0 + 1) = q := ⟨_, rfl⟩
      rw [hc] at HM
      obtain ⟨a0, a1, a2, a3, a4, a5, a6, -⟩ := (HC2.out.below HV.out.bel).sevenC (k0 + 1) (by rw [HN.out]; exact hlt) hc
      clear hc
      obtain ⟨-, -, -, c3, -, -, -, -⟩ := cells7 (HP2.out.later HV.out.bel)
      go_wp2_with (at_builtin; refine stopw ?_)
      unfold Hid
      refine wpList_pushC elemLC ⟨r', x', y', z', ⟨f', g', b'⟩⟩ rfl _ _ rfl rfl rfl (HV.out) (by rw [tab_len]; omega) (by omega) ?_
      intro v' wn hn1
      have HV' := hide (hn1.snoc HM.out)
      clear hn1 a0 a1 a2 a3 a4 a5 a6 c3; go_wp2
      go_roundw
      case rel => exact ⟨k0 + 1 + 1, by omega, by go_num, HV'.out⟩
      case measure => simp [intOf]; omega
     ·have q1 : ((k : Int) == (k0 : Int) + 1) = false := by simp; omega
      obtain ⟨b1, o1, rfl, l1, -⟩ := HC2.out.at (i := k) (by rw [HN.out]; exact hlt)
      obtain ⟨⟨r', x', y', z', ⟨f', g', b'⟩⟩, hc⟩ : ∃ q, cAt cs k = q := ⟨_, rfl⟩
      rw [hc] at HM
      obtain ⟨a0, a1, a2, a3, a4, a5, a6, -⟩ := (HC2.out.below HV.out.bel).sevenC k (by rw [HN.out]; exact hlt) hc
      clear hc
      go_wp2_with (at_builtin; refine stopw ?_)
      unfold Hid
      refine wpList_pushC elemLC ⟨r', x', y', z', ⟨f', g', b'⟩⟩ rfl _ _ rfl rfl rfl (HV.out) (by rw [tab_len]; omega) (by omega) ?_
      intro v' wn hn1
      have HV' := hide (hn1.snoc HM.out)
      clear hn1 a0 a1 a2 a3 a4 a5 a6; go_wp2
      go_roundw
      case rel => exact ⟨k + 1, by omega, by go_num, HV'.out⟩
      case measure => simp [intOf]; omega
   ·obtain rfl : k = n := by omega
    obtain ⟨A3, c3, hv, hc3, hcap, hnil, hmax⟩ := HV.out.form
    rw [tab_len] at hv
    subst hv
    have HC3 : Hid (Cels .i64 wr A3 (putTab cs k0 ⟨r, m, x, d, ⟨f, g, b⟩⟩)) := by unfold Hid; rw [putTab_is, HN.out]; exact hc3
    clear hc3 hcap hnil hmax; go_wp2_with fail
    refine (rmend_any A3 k c3 (putTab cs k0 ⟨r, m, x, d, ⟨f, g, b⟩⟩) wr HC3.out (by rw [putTab_len, HN.out]) hl).mono ?_
    rintro e w4 ⟨v2, rfl, ho2⟩
    have HO2 := hide ((ho2.from (HV.out.bel) HV.out.le).from HB2.out HB2.out.size)
    clear ho2; go_wp2; go_ret2
    obtain ⟨A5, c5, hv5, hc5, -⟩ := HO2.out.form
    have e9 : putC cs (k0 : Int) ⟨r, m, x, d, ⟨f, g, b⟩⟩ = mendC (putTab cs k0 ⟨r, m, x, d, ⟨f, g, b⟩⟩) := put_yes HK.out
    exact ⟨A5, c5, by rw [HK.out, e9, ← hv5]; rfl, by rw [e9]; exact hc5, HO2.out.bel⟩
theorem flat_set (k : IntKind) (cs : List Cel) (j : Nat) (c : Cel) (h : j < cs.length) : (flatC k cs).take (j * 7) ++ ([.int k c.r, .int k c.m, .int k c.n, .int .u8 c.w, .int .u8 c.p.f, .int .u8 c.p.g, .int .u8 c.p.b] ++ (flatC k cs).drop (j * 7 + 7)) = flatC k (cs.set j c) := by
 rw [set_lay cs j c h, flat_lay]
 rfl
theorem OwnC.put {e : TypeId} {k : IntKind} {B : Nat} {w wr : World} {g n cap : Nat} {cs : List Cel} (h : OwnC e k B w wr (.slice (some ⟨g, 0, none⟩) n cap) cs) (hn : cs.length = n) (o j : Nat) (ho : o = j * 7) (hj : j < n) (c : Cel) :
  OwnC e k B w (((((((wr.setCell ⟨g, o, none⟩ (.int k c.r)).setCell ⟨g, o + 1, none⟩ (.int k c.m)).setCell ⟨g, o + 2, none⟩ (.int k c.n)).setCell ⟨g, o + 3, none⟩ (.int .u8 c.w)).setCell ⟨g, o + 4, none⟩ (.int .u8 c.p.f)).setCell ⟨g, o + 5, none⟩ (.int .u8 c.p.g)).setCell ⟨g, o + 6, none⟩ (.int .u8 c.p.b)) (.slice (some ⟨g, 0, none⟩) n cap) (cs.set j c) := by
 subst hn
 have hB : B ≤ g := (h.own.lt g rfl).1
 have s0 := (h.own.stored o (.int k c.r)).1
 have s1 := (s0.stored (o + 1) (.int k c.m)).1
 have s2 := (s1.stored (o + 2) (.int k c.n)).1
 have s3 := (s2.stored (o + 3) (.int .u8 c.w)).1
 have s4 := (s3.stored (o + 4) (.int .u8 c.p.f)).1
 have s5 := (s4.stored (o + 5) (.int .u8 c.p.g)).1
 have s6 := (s5.stored (o + 6) (.int .u8 c.p.b)).1
 clear s0 s1 s2 s3 s4 s5
 rw [set7 _ o (by rw [flatC_len]; omega)] at s6
 subst ho
 rw [flat_set k cs j c hj] at s6
 refine ⟨?_, (only_cell (j * 7) _ _ _ _ _ _ _).below h.bel h.le hB, ?_⟩
 ·rw [List.length_set]; exact s6
 ·have := h.le; simp only [World.size_setCell]; exact this
theorem rlmark_any (A : Option Addr) (n c : Nat) (at_ x : Int) (cs : List Cel) (w : World) (h : Cels .i64 w A cs) (hn : cs.length = n) (hl : n ≤ 1000000) (hA : A = none → c = 0) :
  Calls Tryz.prog 160 #[.slice A n c, .int .i64 at_, .int .i64 x] w (LineV2 .i64 (lmarkC cs at_ x).1 (lmarkC cs at_ x).2 w) := by
 have HC := hide h; have HN := hide hn; have HA := hide hA; clear h hn hA
 by_cases hin : 0 ≤ at_ ∧ at_ < (n : Int)
 ·obtain ⟨k, rfl⟩ : ∃ k : Nat, at_ = (k : Int) := ⟨at_.toNat, by omega⟩
  have hk : k < n := by omega
  clear hin
  obtain ⟨b0, o0, rfl, l0, -⟩ := HC.out.at (i := k) (by rw [HN.out]; exact hk)
  by_cases h0 : wAt cs k = 0
  ·have e0 : ((wAt cs k : Int) == 0) = true := by simp; omega
   cases hal : aloneC cs k
   ·obtain ⟨j, rfl⟩ : ∃ j, k = j + 1 := ⟨k - 1, by have := (alone_0 h0 hal).1; omega⟩
    have HJ := hide (mkAt_not h0 hal)
    have h2 : wAt cs j = 2 := (alone_0 h0 hal).2
    have c3 := HC.out.wide (j + 1) (by rw [HN.out]; exact hk)
    obtain ⟨⟨r, m, y, d, ⟨f, z, b⟩⟩, hc⟩ : ∃ q, cAt cs j = q := ⟨_, rfl⟩
    obtain ⟨⟨⟨r1, m1, y1, d1, ⟨f1, z1, b1⟩⟩, ok⟩, hm⟩ : ∃ q, markC (cAt cs j) x = q := ⟨_, rfl⟩
    have HE := hide (lmark_yes (by rw [HN.out]; omega) HJ.out hm)
    rw [hc] at hm
    have HM := hide hm; clear hm
    obtain ⟨v0, v1, v2, v3, v4, v5, v6, -⟩ := HC.out.sevenC j (by rw [HN.out]; omega) hc
    have e2 : ((d : Int) == 2) = true := by have q := wAt_of (by rw [HN.out]; omega) hc; simp; omega
    clear h0 hal h2; clear hc
    go_enter Tryz.func160, Tryz.ntmps160
    go_wp2_with fail
    refine (rcmark_v r m y d f z b x r1 m1 y1 d1 f1 z1 b1 ok HM.out w).mono ?_
    rintro e w2 ⟨rfl, hb⟩
    clear v0 v1 v2 v3 v4 v5 v6
    have hb8 := hb.alloc hb.size (.cells #[.int .i64 r1, .int .i64 m1, .int .i64 y1, .int .u8 d1, .int .u8 f1, .int .u8 z1, .int .u8 b1] 166)
    obtain ⟨W2, hW2⟩ := exq (w2.alloc (.cells #[.int .i64 r1, .int .i64 m1, .int .i64 y1, .int .u8 d1, .int .u8 f1, .int .u8 z1, .int .u8 b1] 166))
    rw [hW2] at hb8
    have HB2 := hide hb8
    have HP2 : Hid (Whole W2 w2.heap.size 166 [.int .i64 r1, .int .i64 m1, .int .i64 y1, .int .u8 d1, .int .u8 f1, .int .u8 z1, .int .u8 b1]) := by unfold Hid; rw [← hW2]; exact Whole.new _ _ _
    have HC2 := hide ((HC.out.below hb8).alloc (.cells #[] 166))
    have hsz : w2.heap.size + 1 = W2.heap.size := by rw [← hW2]; simp
    have HW2 := hide hW2; clear hb hb8 hW2
    go_wp2_with (at_builtin; refine stopw ?_)
    unfold Hid
    rw [HW2.out]
    refine wpList_catC elemLC rfl _ _ rfl rfl rfl (OwnC.empty W2 166 .i64) HC2.out HN.out HA.out (by simp; omega) (by omega) ?_
    intro v' w5 hown
    rw [List.nil_append] at hown
    obtain ⟨g5, c5, rfl⟩ : ∃ g5 c5, v' = .slice (some ⟨g5, 0, none⟩) n c5 := by
     rcases hown.own.2 with ⟨-, h0⟩ | ⟨g5, c5, cur, hv, -⟩
     ·rw [HN.out] at h0; omega
     ·exact ⟨g5, c5, by rw [hv, HN.out]⟩
    obtain ⟨A6, c6, hv6, hc6, -⟩ := hown.form
    injection hv6 with q1 q2 q3
    subst q1; clear q2 q3; have HO := hide hown
    have hfz : ∀ i, w5.frozen? ⟨g5, i, none⟩ = false := by
     rcases hown.own.2 with ⟨h0, -⟩ | ⟨g, cap, cur, hv, -, hh, -⟩
     ·cases h0
     ·cases hv; intro i; simp [World.frozen?, hh]
    obtain ⟨⟨r9, m9, y9, d9, ⟨f9, z9, b9⟩⟩, hc9⟩ : ∃ q, cAt cs j = q := ⟨_, rfl⟩
    obtain ⟨v0, v1, v2, v3, v4, v5, v6, -⟩ := hc6.sevenC j (by rw [HN.out]; omega) hc9
    simp only [Nat.zero_add] at v0 v1 v2 v3 v4 v5 v6
    obtain ⟨t0, t1, t2, t3, t4, t5, t6, -⟩ := cells7 (HP2.out.later hown.bel)
    clear hown hc6 hc9; go_wp2; go_ret2
    have hfin := HO.out.put HN.out (j * 7) j rfl (by omega) ⟨r1, m1, y1, d1, ⟨f1, z1, b1⟩⟩
    obtain ⟨A7, c7, hv7, hc7, -⟩ := hfin.form
    have hB7 := (hfin.from HB2.out HB2.out.size).bel
    injection hv7 with q1 q2 q3
    subst q1 q3
    exact ⟨_, c5, by rw [HE.out]; simp only [List.length_set]; rw [HN.out]; rfl, by rw [HE.out]; exact hc7, hB7⟩
   ·have HJ := hide (mkAt_alone h0 hal)
    have hp : k = 0 ∨ (k ≠ 0 ∧ wAt cs (k - 1) ≠ 2) := by
     by_cases q : k = 0
     ·exact .inl q
     ·refine .inr ⟨q, fun q2 => ?_⟩
      have : aloneC cs k = false := by unfold aloneC; rw [if_neg (by omega), if_pos h0]; simp [q2]; omega
      rw [this] at hal; cases hal
    rcases hp with hp | ⟨hp, hp2⟩
    ·subst hp
     obtain ⟨⟨r, m, y, d, ⟨f, z, b⟩⟩, hc⟩ : ∃ q, cAt cs 0 = q := ⟨_, rfl⟩
     obtain ⟨⟨⟨r1, m1, y1, d1, ⟨f1, z1, b1⟩⟩, ok⟩, hm⟩ : ∃ q, markC (cAt cs 0) x = q := ⟨_, rfl⟩
     have HE := hide (lmark_yes (by rw [HN.out]; omega) HJ.out hm)
     rw [hc] at hm
     have HM := hide hm; clear hm
     obtain ⟨v0, v1, v2, v3, v4, v5, v6, -⟩ := HC.out.sevenC 0 (by rw [HN.out]; omega) hc
     have e1 : ((d : Int) == 0) = true := by rw [← wAt_of (by rw [HN.out]; exact hk) hc]; exact e0
     simp only [Nat.zero_mul, Nat.add_zero] at v0 v1 v2 v3 v4 v5 v6
     clear h0 hal; clear hc
     go_enter Tryz.func160, Tryz.ntmps160
     go_wp2_with fail
     refine (rcmark_v r m y d f z b x r1 m1 y1 d1 f1 z1 b1 ok HM.out w).mono ?_
     rintro e w2 ⟨rfl, hb⟩
     clear v0 v1 v2 v3 v4 v5 v6
     have hb8 := hb.alloc hb.size (.cells #[.int .i64 r1, .int .i64 m1, .int .i64 y1, .int .u8 d1, .int .u8 f1, .int .u8 z1, .int .u8 b1] 166)
     obtain ⟨W2, hW2⟩ := exq (w2.alloc (.cells #[.int .i64 r1, .int .i64 m1, .int .i64 y1, .int .u8 d1, .int .u8 f1, .int .u8 z1, .int .u8 b1] 166))
     rw [hW2] at hb8
     have HB2 := hide hb8
     have HP2 : Hid (Whole W2 w2.heap.size 166 [.int .i64 r1, .int .i64 m1, .int .i64 y1, .int .u8 d1, .int .u8 f1, .int .u8 z1, .int .u8 b1]) := by unfold Hid; rw [← hW2]; exact Whole.new _ _ _
     have HC2 := hide ((HC.out.below hb8).alloc (.cells #[] 166))
     have hsz : w2.heap.size + 1 = W2.heap.size := by rw [← hW2]; simp
     have HW2 := hide hW2; clear hb hb8 hW2
     go_wp2_with (at_builtin; refine stopw ?_)
     unfold Hid
     rw [HW2.out]
     refine wpList_catC elemLC rfl _ _ rfl rfl rfl (OwnC.empty W2 166 .i64) HC2.out HN.out HA.out (by simp; omega) (by omega) ?_
     intro v' w5 hown
     rw [List.nil_append] at hown
     obtain ⟨g5, c5, rfl⟩ : ∃ g5 c5, v' = .slice (some ⟨g5, 0, none⟩) n c5 := by
      rcases hown.own.2 with ⟨-, h0⟩ | ⟨g5, c5, cur, hv, -⟩
      ·rw [HN.out] at h0; omega
      ·exact ⟨g5, c5, by rw [hv, HN.out]⟩
     obtain ⟨A6, c6, hv6, hc6, -⟩ := hown.form
     injection hv6 with q1 q2 q3
     subst q1; clear q2 q3; have HO := hide hown
     have hfz : ∀ i, w5.frozen? ⟨g5, i, none⟩ = false := by
      rcases hown.own.2 with ⟨h0, -⟩ | ⟨g, cap, cur, hv, -, hh, -⟩
      ·cases h0
      ·cases hv; intro i; simp [World.frozen?, hh]
     obtain ⟨⟨r9, m9, y9, d9, ⟨f9, z9, b9⟩⟩, hc9⟩ : ∃ q, cAt cs 0 = q := ⟨_, rfl⟩
     obtain ⟨v0, v1, v2, v3, v4, v5, v6, -⟩ := hc6.sevenC 0 (by rw [HN.out]; omega) hc9
     simp only [Nat.zero_mul, Nat.zero_add] at v0 v1 v2 v3 v4 v5 v6
     obtain ⟨t0, t1, t2, t3, t4, t5, t6, -⟩ := cells7 (HP2.out.later hown.bel)
     clear hown hc6 hc9; go_wp2; go_ret2
     have hfin := HO.out.put HN.out 0 0 rfl (by omega) ⟨r1, m1, y1, d1, ⟨f1, z1, b1⟩⟩
     obtain ⟨A7, c7, hv7, hc7, -⟩ := hfin.form
     have hB7 := (hfin.from HB2.out HB2.out.size).bel
     injection hv7 with q1 q2 q3
     subst q1 q3
     exact ⟨_, c5, by rw [HE.out]; simp only [List.length_set]; rw [HN.out]; rfl, by rw [HE.out]; exact hc7, hB7⟩
    ·obtain ⟨j, rfl⟩ : ∃ j, k = j + 1 := ⟨k - 1, by omega⟩
     rw [show j + 1 - 1 = j by omega] at hp2
     have c4 := HC.out.wide j (by rw [HN.out]; omega)
     have e4 : ((wAt cs j : Int) == 2) = false := by simp; omega
     obtain ⟨⟨r, m, y, d, ⟨f, z, b⟩⟩, hc⟩ : ∃ q, cAt cs (j + 1) = q := ⟨_, rfl⟩
     obtain ⟨⟨⟨r1, m1, y1, d1, ⟨f1, z1, b1⟩⟩, ok⟩, hm⟩ : ∃ q, markC (cAt cs (j + 1)) x = q := ⟨_, rfl⟩
     have HE := hide (lmark_yes (by rw [HN.out]; omega) HJ.out hm)
     rw [hc] at hm
     have HM := hide hm; clear hm
     obtain ⟨v0, v1, v2, v3, v4, v5, v6, -⟩ := HC.out.sevenC (j + 1) (by rw [HN.out]; omega) hc
     have e1 : ((d : Int) == 0) = true := by rw [← wAt_of (by rw [HN.out]; exact hk) hc]; exact e0
     clear h0 hal hp hp2; clear hc
     go_enter Tryz.func160, Tryz.ntmps160
     go_wp2_with fail
     refine (rcmark_v r m y d f z b x r1 m1 y1 d1 f1 z1 b1 ok HM.out w).mono ?_
     rintro e w2 ⟨rfl, hb⟩
     clear v0 v1 v2 v3 v4 v5 v6
     have hb8 := hb.alloc hb.size (.cells #[.int .i64 r1, .int .i64 m1, .int .i64 y1, .int .u8 d1, .int .u8 f1, .int .u8 z1, .int .u8 b1] 166)
     obtain ⟨W2, hW2⟩ := exq (w2.alloc (.cells #[.int .i64 r1, .int .i64 m1, .int .i64 y1, .int .u8 d1, .int .u8 f1, .int .u8 z1, .int .u8 b1] 166))
     rw [hW2] at hb8
     have HB2 := hide hb8
     have HP2 : Hid (Whole W2 w2.heap.size 166 [.int .i64 r1, .int .i64 m1, .int .i64 y1, .int .u8 d1, .int .u8 f1, .int .u8 z1, .int .u8 b1]) := by unfold Hid; rw [← hW2]; exact Whole.new _ _ _
     have HC2 := hide ((HC.out.below hb8).alloc (.cells #[] 166))
     have hsz : w2.heap.size + 1 = W2.heap.size := by rw [← hW2]; simp
     have HW2 := hide hW2; clear hb hb8 hW2
     go_wp2_with (at_builtin; refine stopw ?_)
     unfold Hid
     rw [HW2.out]
     refine wpList_catC elemLC rfl _ _ rfl rfl rfl (OwnC.empty W2 166 .i64) HC2.out HN.out HA.out (by simp; omega) (by omega) ?_
     intro v' w5 hown
     rw [List.nil_append] at hown
     obtain ⟨g5, c5, rfl⟩ : ∃ g5 c5, v' = .slice (some ⟨g5, 0, none⟩) n c5 := by
      rcases hown.own.2 with ⟨-, h0⟩ | ⟨g5, c5, cur, hv, -⟩
      ·rw [HN.out] at h0; omega
      ·exact ⟨g5, c5, by rw [hv, HN.out]⟩
     obtain ⟨A6, c6, hv6, hc6, -⟩ := hown.form
     injection hv6 with q1 q2 q3
     subst q1; clear q2 q3; have HO := hide hown
     have hfz : ∀ i, w5.frozen? ⟨g5, i, none⟩ = false := by
      rcases hown.own.2 with ⟨h0, -⟩ | ⟨g, cap, cur, hv, -, hh, -⟩
      ·cases h0
      ·cases hv; intro i; simp [World.frozen?, hh]
     obtain ⟨⟨r9, m9, y9, d9, ⟨f9, z9, b9⟩⟩, hc9⟩ : ∃ q, cAt cs (j + 1) = q := ⟨_, rfl⟩
     obtain ⟨v0, v1, v2, v3, v4, v5, v6, -⟩ := hc6.sevenC (j + 1) (by rw [HN.out]; omega) hc9
     simp only [Nat.zero_add] at v0 v1 v2 v3 v4 v5 v6
     obtain ⟨t0, t1, t2, t3, t4, t5, t6, -⟩ := cells7 (HP2.out.later hown.bel)
     clear hown hc6 hc9; go_wp2; go_ret2
     have hfin := HO.out.put HN.out ((j + 1) * 7) (j + 1) rfl (by omega) ⟨r1, m1, y1, d1, ⟨f1, z1, b1⟩⟩
     obtain ⟨A7, c7, hv7, hc7, -⟩ := hfin.form
     have hB7 := (hfin.from HB2.out HB2.out.size).bel
     injection hv7 with q1 q2 q3
     subst q1 q3
     exact ⟨_, c5, by rw [HE.out]; simp only [List.length_set]; rw [HN.out]; rfl, by rw [HE.out]; exact hc7, hB7⟩
  ·have HJ := hide (mkAt_same h0)
   obtain ⟨⟨r, m, y, d, ⟨f, z, b⟩⟩, hc⟩ : ∃ q, cAt cs k = q := ⟨_, rfl⟩
   obtain ⟨⟨⟨r1, m1, y1, d1, ⟨f1, z1, b1⟩⟩, ok⟩, hm⟩ : ∃ q, markC (cAt cs k) x = q := ⟨_, rfl⟩
   have HE := hide (lmark_yes (by rw [HN.out]; omega) HJ.out hm)
   rw [hc] at hm
   have HM := hide hm; clear hm
   obtain ⟨v0, v1, v2, v3, v4, v5, v6, -⟩ := HC.out.sevenC k (by rw [HN.out]; omega) hc
   have e1 : ((d : Int) == 0) = false := by have q := wAt_of (by rw [HN.out]; exact hk) hc; simp; omega
   clear h0; clear hc
   go_enter Tryz.func160, Tryz.ntmps160
   go_wp2_with fail
   refine (rcmark_v r m y d f z b x r1 m1 y1 d1 f1 z1 b1 ok HM.out w).mono ?_
   rintro e w2 ⟨rfl, hb⟩
   clear v0 v1 v2 v3 v4 v5 v6
   have hb8 := hb.alloc hb.size (.cells #[.int .i64 r1, .int .i64 m1, .int .i64 y1, .int .u8 d1, .int .u8 f1, .int .u8 z1, .int .u8 b1] 166)
   obtain ⟨W2, hW2⟩ := exq (w2.alloc (.cells #[.int .i64 r1, .int .i64 m1, .int .i64 y1, .int .u8 d1, .int .u8 f1, .int .u8 z1, .int .u8 b1] 166))
   rw [hW2] at hb8
   have HB2 := hide hb8
   have HP2 : Hid (Whole W2 w2.heap.size 166 [.int .i64 r1, .int .i64 m1, .int .i64 y1, .int .u8 d1, .int .u8 f1, .int .u8 z1, .int .u8 b1]) := by unfold Hid; rw [← hW2]; exact Whole.new _ _ _
   have HC2 := hide ((HC.out.below hb8).alloc (.cells #[] 166))
   have hsz : w2.heap.size + 1 = W2.heap.size := by rw [← hW2]; simp
   have HW2 := hide hW2; clear hb hb8 hW2
   go_wp2_with (at_builtin; refine stopw ?_)
   unfold Hid
   rw [HW2.out]
   refine wpList_catC elemLC rfl _ _ rfl rfl rfl (OwnC.empty W2 166 .i64) HC2.out HN.out HA.out (by simp; omega) (by omega) ?_
   intro v' w5 hown
   rw [List.nil_append] at hown
   obtain ⟨g5, c5, rfl⟩ : ∃ g5 c5, v' = .slice (some ⟨g5, 0, none⟩) n c5 := by
    rcases hown.own.2 with ⟨-, h0⟩ | ⟨g5, c5, cur, hv, -⟩
    ·rw [HN.out] at h0; omega
    ·exact ⟨g5, c5, by rw [hv, HN.out]⟩
   obtain ⟨A6, c6, hv6, hc6, -⟩ := hown.form
   injection hv6 with q1 q2 q3
   subst q1; clear q2 q3; have HO := hide hown
   have hfz : ∀ i, w5.frozen? ⟨g5, i, none⟩ = false := by
    rcases hown.own.2 with ⟨h0, -⟩ | ⟨g, cap, cur, hv, -, hh, -⟩
    ·cases h0
    ·cases hv; intro i; simp [World.frozen?, hh]
   obtain ⟨⟨r9, m9, y9, d9, ⟨f9, z9, b9⟩⟩, hc9⟩ : ∃ q, cAt cs k = q := ⟨_, rfl⟩
   obtain ⟨v0, v1, v2, v3, v4, v5, v6, -⟩ := hc6.sevenC k (by rw [HN.out]; omega) hc9
   simp only [Nat.zero_add] at v0 v1 v2 v3 v4 v5 v6
   obtain ⟨t0, t1, t2, t3, t4, t5, t6, -⟩ := cells7 (HP2.out.later hown.bel)
   clear hown hc6 hc9; go_wp2; go_ret2
   have hfin := HO.out.put HN.out (k * 7) k rfl (by omega) ⟨r1, m1, y1, d1, ⟨f1, z1, b1⟩⟩
   obtain ⟨A7, c7, hv7, hc7, -⟩ := hfin.form
   have hB7 := (hfin.from HB2.out HB2.out.size).bel
   injection hv7 with q1 q2 q3
   subst q1 q3
   exact ⟨_, c5, by rw [HE.out]; simp only [List.length_set]; rw [HN.out]; rfl, by rw [HE.out]; exact hc7, hB7⟩
 ·have HE := hide (lmark_no (r := x) (by rw [HN.out]; exact hin))
  by_cases h0 : at_ < 0
  ·clear hin
   go_enter Tryz.func160, Tryz.ntmps160
   go_wp2; go_ret2
   exact ⟨A, c, by rw [HE.out]; simp only; rw [HN.out]; rfl, by rw [HE.out]; exact HC.out, Below.refl _ _⟩
  ·have h1 : (n : Int) ≤ at_ := by omega
   clear hin
   go_enter Tryz.func160, Tryz.ntmps160
   go_wp2; go_ret2
   exact ⟨A, c, by rw [HE.out]; simp only; rw [HN.out]; rfl, by rw [HE.out]; exact HC.out, Below.refl _ _⟩
theorem neqCell (W : World) (r m n w f g b r' m' n' w' f' g' b' : Int) :
  (binOp .neq 73 (.agg #[.int .i32 r, .int .i32 m, .int .i32 n, .int .u8 w, .int .u8 f, .int .u8 g, .int .u8 b]) (.agg #[.int .i32 r', .int .i32 m', .int .i32 n', .int .u8 w', .int .u8 f', .int .u8 g', .int .u8 b'])).run Tryz.prog W = .ok (.bool (!(eqC r m n w f g b r' m' n' w' f' g' b'))) W := by
 rw [run_neq_struct, equalCell 9997]; rfl
theorem neqC (W : World) (r m n w f g b r' m' n' w' f' g' b' : Int) :
  (binOp .neq 166 (.agg #[.int .i64 r, .int .i64 m, .int .i64 n, .int .u8 w, .int .u8 f, .int .u8 g, .int .u8 b]) (.agg #[.int .i64 r', .int .i64 m', .int .i64 n', .int .u8 w', .int .u8 f', .int .u8 g', .int .u8 b'])).run Tryz.prog W = .ok (.bool (!(eqC r m n w f g b r' m' n' w' f' g' b'))) W := by
 rw [run_neq_struct, equalC 9997]; rfl
theorem eqC_cel (r m x : Int) (d f y b : Nat) (r' m' x' : Int) (d' f' y' b' : Nat) : eqC r m x (d : Int) (f : Int) (y : Int) (b : Int) r' m' x' (d' : Int) (f' : Int) (y' : Int) (b' : Int) = decide ((⟨r, m, x, d, ⟨f, y, b⟩⟩ : Cel) = ⟨r', m', x', d', ⟨f', y', b'⟩⟩) := by
 rw [eqC_iff, Bool.eq_iff_iff, decide_eq_true_iff, decide_eq_true_iff]
 simp only [Cel.mk.injEq, Pn.mk.injEq, Int.ofNat_inj]
theorem take_cel (a b : List Cel) (k : Nat) (ha : k < a.length) (hb : k < b.length) (h : a.take k = b.take k) (e : cAt a k = cAt b k) : a.take (k + 1) = b.take (k + 1) := by
 rw [List.take_succ_eq_append_getElem ha, List.take_succ_eq_append_getElem hb, h]
 have h1 : a[k] = cAt a k := Option.some.inj ((List.getElem?_eq_getElem ha).symm.trans (get_cAt a k ha))
 have h2 : b[k] = cAt b k := Option.some.inj ((List.getElem?_eq_getElem hb).symm.trans (get_cAt b k hb))
 rw [h1, h2, e]
theorem rsame6_any (A C : Option Addr) (n c m d : Nat) (xs ys : List Cel) (w : World) (ha : Cels .i64 w A xs) (hb : Cels .i64 w C ys) (hn : xs.length = n) (hm : ys.length = m) (hl : n ≤ 1000000) :
  Calls Tryz.prog 130 #[.slice A n c, .slice C m d] w (Said (decide (xs = ys)) w) := by
 have nC := @neqC
 have HN := hide hn; have HM := hide hm; have HA := hide ha; have HC := hide hb
 by_cases hnm : n = m
 ·have en : ((n : Int) != (m : Int)) = false := by simp; omega
  clear hn hm ha hb
  go_enter Tryz.func130, Tryz.ntmps130
  go_wp2
  go_loopw [5] (fun i wr => ∃ k : Nat, k ≤ n ∧ i = .int .i64 k ∧ Hid (xs.take k = ys.take k) ∧ Below w.heap.size w wr) (fun i _ => n - (intOf i).toNat)
  case atStart => exact ⟨0, Nat.zero_le _, rfl, (by unfold Hid; simp), Below.refl _ _⟩
  case round =>
   obtain ⟨k, hk, rfl, ht, hbel⟩ := hrel
   have HB := hide hbel; clear hbel
   by_cases hlt : k < n
   ·obtain ⟨b1, o1, rfl, l1, -⟩ := HA.out.at (i := k) (by rw [HN.out]; exact hlt)
    obtain ⟨b2, o2, rfl, l2, -⟩ := HC.out.at (i := k) (by rw [HM.out]; omega)
    by_cases he : cAt xs k = cAt ys k
    ·have HT := hide (take_cel xs ys k (by rw [HN.out]; exact hlt) (by rw [HM.out]; omega) ht.out he)
     obtain ⟨⟨r, x, y, z, ⟨f, g, b⟩⟩, hc⟩ : ∃ q, cAt xs k = q := ⟨_, rfl⟩
     have hc2 := he.symm.trans hc
     obtain ⟨u0, u1, u2, u3, u4, u5, u6, -⟩ := (HA.out.below HB.out).sevenC k (by rw [HN.out]; exact hlt) hc
     obtain ⟨v0, v1, v2, v3, v4, v5, v6, -⟩ := (HC.out.below HB.out).sevenC k (by rw [HM.out]; omega) hc2
     have hq := eqC_self r x y (z : Int) (f : Int) (g : Int) (b : Int)
     clear hc hc2 he ht; go_wp2
     go_quiet (fail)
     go_wp2
     go_roundw
     case rel => exact ⟨k + 1, by omega, by go_num, HT, HB.out.drewN _⟩
     case measure => simp [intOf]; omega
    ·have HF : Hid (decide (xs = ys) = false) := by unfold Hid; exact decide_eq_false (fun q => he (by rw [q]))
     obtain ⟨⟨r, x, y, z, ⟨f, g, b⟩⟩, hc⟩ : ∃ q, cAt xs k = q := ⟨_, rfl⟩
     obtain ⟨⟨r', x', y', z', ⟨f', g', b'⟩⟩, hc2⟩ : ∃ q, cAt ys k = q := ⟨_, rfl⟩
     rw [hc, hc2] at he
     obtain ⟨u0, u1, u2, u3, u4, u5, u6, -⟩ := (HA.out.below HB.out).sevenC k (by rw [HN.out]; exact hlt) hc
     obtain ⟨v0, v1, v2, v3, v4, v5, v6, -⟩ := (HC.out.below HB.out).sevenC k (by rw [HM.out]; omega) hc2
     have hq : eqC r x y (z : Int) (f : Int) (g : Int) (b : Int) r' x' y' (z' : Int) (f' : Int) (g' : Int) (b' : Int) = false := by rw [eqC_cel]; exact decide_eq_false he
     clear hc hc2 he ht; go_wp2
     go_quiet (fail)
     go_wp2; go_ret
     exact ⟨ret_bool HF.out.symm, HB.out.drewN _⟩
   ·have HF : Hid (decide (xs = ys) = true) := by
     unfold Hid
     refine decide_eq_true ?_
     have q := ht.out
     rwa [List.take_of_length_le (by rw [HN.out]; omega), List.take_of_length_le (by rw [HM.out]; omega)] at q
    clear ht; go_wp2; go_ret
    exact ⟨ret_bool HF.out.symm, HB.out⟩
 ·have en : ((n : Int) != (m : Int)) = true := by simp; omega
  have HF : Hid (decide (xs = ys) = false) := by unfold Hid; exact decide_eq_false (fun q => hnm (by rw [← hn, ← hm, q]))
  clear hn hm ha hb hnm
  go_enter Tryz.func130, Tryz.ntmps130
  go_wp2; go_ret
  exact ⟨ret_bool HF.out.symm, Below.refl _ _⟩
theorem celB_blank (p : Pn) : CelB (blankC p) := ⟨by show R32 32; unfold R32; omega, r32_0, r32_0, by show 1 < 256; omega⟩
theorem celB_rest (c : Cel) : CelB (restC c) := ⟨r32_0, r32_0, r32_0, by show 0 < 256; omega⟩
theorem LB_tab {n : Nat} {f : Nat → Cel} (h : ∀ i, i < n → CelB (f i)) : LB (tab n f) := by
 intro i hi
 rw [tab_len] at hi
 rw [tab_cAt n f i hi]
 exact h i hi
theorem LB_mend {cs : List Cel} (h : LB cs) : LB (mendC cs) := by
 refine LB_tab fun i hi => ?_
 unfold mendAt
 split
 ·exact celB_blank _
 ·exact h i hi
theorem LB_new (n : Int) : LB (newC n) := LB_tab fun i hi => celB_blank _
theorem LB_put {cs : List Cel} {a : Int} {c : Cel} (h : LB cs) (hc : CelB c) : LB (putC cs a c) := by
 unfold putC
 split
 ·refine LB_mend (LB_tab fun i hi => ?_)
  split
  ·exact hc
  ·split
   ·exact celB_rest _
   ·exact h i hi
 ·exact h
theorem LB_erase {cs : List Cel} {x y : Int} {p : Pn} (h : LB cs) : LB (eraseC cs x y p) := by
 refine LB_mend (LB_tab fun i hi => ?_)
 split
 ·exact celB_blank _
 ·exact h i hi
theorem LB_fit {cs : List Cel} {x : Int} (h : LB cs) : LB (fitC cs x) := by
 refine LB_mend (LB_tab fun i hi => ?_)
 split
 ·rename_i q; exact h i q
 ·exact celB_blank _
theorem celB_mark {c : Cel} {r : Int} (h : CelB c) (hr : R32 r) : CelB (markC c r).1 := by
 obtain ⟨r0, m0, n0, d0, p0⟩ := c
 obtain ⟨h1, h2, h3, h4⟩ := h
 obtain ⟨⟨⟨r1, m1, n1, d1, p1⟩, ok⟩, hm⟩ : ∃ q, markC ⟨r0, m0, n0, d0, p0⟩ r = q := ⟨_, rfl⟩
 rw [hm]
 exact mark_r32 hr h1 h2 h3 h4 hm
theorem LB_mark {cs : List Cel} {a r : Int} (h : LB cs) (hr : R32 r) : LB (lmarkC cs a r).1 := by
 unfold lmarkC
 split
 ·rename_i hin
  rw [set_tab]
  refine LB_tab fun i hi => ?_
  split
  ·refine celB_mark (h _ ?_) hr
   unfold mkAt; split <;> omega
  ·exact h i hi
 ·exact h
theorem lmark_len (cs : List Cel) (a r : Int) : (lmarkC cs a r).1.length = cs.length := by
 unfold lmarkC; split
 ·simp
 ·rfl
def LineN (k : IntKind) (n : Nat) (X : List Cel) (w : World) (e : Ending) (w' : World) : Prop := ∃ A c, e = .returned (.slice A n c) ∧ Cels k w' A X ∧ Below w.heap.size w w'
def LineN2 (k : IntKind) (n : Nat) (X : List Cel) (ok : Bool) (w : World) (e : Ending) (w' : World) : Prop := ∃ A c, e = .returned (.tuple #[.slice A n c, .bool ok]) ∧ Cels k w' A X ∧ Below w.heap.size w w'
theorem Lined.line {cs : List Cel} {n : Nat} {w : World} {e : Ending} {w' : World} (h : Lined cs w e w') (hn : cs.length = n) : LineN .i32 n cs w e w' := by
 obtain ⟨g, rfl, -, hw, hb⟩ := h
 subst hn
 exact ⟨_, _, rfl, hw.cels, hb⟩
theorem Lined2.line {cs : List Cel} {ok : Bool} {n : Nat} {w : World} {e : Ending} {w' : World} (h : Lined2 cs ok w e w') (hn : cs.length = n) : LineN2 .i32 n cs ok w e w' := by
 obtain ⟨g, rfl, -, hw, hb⟩ := h
 subst hn
 exact ⟨_, _, rfl, hw.cels, hb⟩
theorem LineV2.line {k : IntKind} {cs : List Cel} {ok : Bool} {n : Nat} {w : World} {e : Ending} {w' : World} (h : LineV2 k cs ok w e w') (hn : cs.length = n) : LineN2 k n cs ok w e w' := by
 obtain ⟨A, c, rfl, hc, hb⟩ := h
 subst hn
 exact ⟨_, _, rfl, hc, hb⟩
theorem MadeC.line {t : TypeId} {k : IntKind} {cs : List Cel} {n : Nat} {w : World} {e : Ending} {w' : World} (h : MadeC t k w cs e w') (hn : cs.length = n) : LineN k n cs w e w' := by
 obtain ⟨v, rfl, ho⟩ := h
 obtain ⟨A, c, rfl, hc, -⟩ := ho.form
 subst hn
 exact ⟨_, _, rfl, hc, ho.bel⟩
section
variable {A C : Option Addr} {n c m d : Nat} {cs xs ys : List Cel} {w : World}
theorem put_v (at_ : Int) (r q x : Int) (d' f g b : Nat) (ha : -9223372036854775808 ≤ at_ ∧ at_ < 9223372036854775808) {X : List Cel} {ok : Bool} (hX : putC cs at_ ⟨r, q, x, d', ⟨f, g, b⟩⟩ = X) (hok : putOk cs at_ ⟨r, q, x, d', ⟨f, g, b⟩⟩ = ok) (h : Cels .i32 w A cs) (hn : cs.length = n) (hl : n ≤ 1000000) (hd : d' < 256) (hS : Spans w) :
  Calls Tryz.prog 197 #[.slice A n c, .int .i64 at_, .agg #[.int .i32 r, .int .i32 q, .int .i32 x, .int .u8 d', .int .u8 f, .int .u8 g, .int .u8 b]] w (LineN2 .i32 n X ok w) := by
 subst hX hok
 exact (put_any A n c at_ r q x d' f g b hd cs w h hn hl hS ha).mono fun e w' q => q.line (by rw [put_len, hn])
theorem rput_v (at_ : Int) (r q x : Int) (d' f g b : Nat) (ha : -9223372036854775808 ≤ at_ ∧ at_ < 9223372036854775808) {X : List Cel} {ok : Bool} (hX : putC cs at_ ⟨r, q, x, d', ⟨f, g, b⟩⟩ = X) (hok : putOk cs at_ ⟨r, q, x, d', ⟨f, g, b⟩⟩ = ok) (h : Cels .i64 w A cs) (hn : cs.length = n) (hl : n ≤ 1000000) (hd : d' < 256) :
  Calls Tryz.prog 162 #[.slice A n c, .int .i64 at_, .agg #[.int .i64 r, .int .i64 q, .int .i64 x, .int .u8 d', .int .u8 f, .int .u8 g, .int .u8 b]] w (LineN2 .i64 n X ok w) := by
 subst hX hok
 exact (rput_any A n c at_ r q x d' f g b hd cs w h hn hl ha).mono fun e w' q => q.line (by rw [put_len, hn])
theorem lmark_v (at_ x : Int) {X : List Cel} {ok : Bool} (hX : lmarkC cs at_ x = (X, ok)) (h : Cels .i32 w A cs) (hn : cs.length = n) (hl : n ≤ 1000000) (hS : Spans w) :
  Calls Tryz.prog 195 #[.slice A n c, .int .i64 at_, .int .i32 x] w (LineN2 .i32 n X ok w) := by
 refine (lmark_any A n c at_ x cs w h hn hl hS).mono fun e w' q => ?_
 have := q.line (n := n) (by rw [lmark_len, hn])
 rwa [hX] at this
theorem rlmark_v (at_ x : Int) {X : List Cel} {ok : Bool} (hX : lmarkC cs at_ x = (X, ok)) (h : Cels .i64 w A cs) (hn : cs.length = n) (hl : n ≤ 1000000) (hA : A = none → c = 0) :
  Calls Tryz.prog 160 #[.slice A n c, .int .i64 at_, .int .i64 x] w (LineN2 .i64 n X ok w) := by
 refine (rlmark_any A n c at_ x cs w h hn hl hA).mono fun e w' q => ?_
 have := q.line (n := n) (by rw [lmark_len, hn])
 rwa [hX] at this
theorem erase_v (x y : Int) (f g b : Nat) {X : List Cel} (hX : eraseC cs x y ⟨f, g, b⟩ = X) (h : Cels .i32 w A cs) (hn : cs.length = n) (hl : n ≤ 1000000) : Calls Tryz.prog 200 #[.slice A n c, .int .i64 x, .int .i64 y, .agg #[.int .u8 f, .int .u8 g, .int .u8 b]] w (LineN .i32 n X w) := by
 subst hX
 exact (erase_any A n c x y f g b cs w h hn hl).mono fun e w' q => q.line (by rw [erase_len, hn])
theorem rerase_v (x y : Int) (f g b : Nat) {X : List Cel} (hX : eraseC cs x y ⟨f, g, b⟩ = X) (h : Cels .i64 w A cs) (hn : cs.length = n) (hl : n ≤ 1000000) : Calls Tryz.prog 164 #[.slice A n c, .int .i64 x, .int .i64 y, .agg #[.int .u8 f, .int .u8 g, .int .u8 b]] w (LineN .i64 n X w) := by
 subst hX
 exact (rerase_any A n c x y f g b cs w h hn hl).mono fun e w' q => q.line (by rw [erase_len, hn])
theorem fit_v (x : Int) {N : Nat} {X : List Cel} (hX : fitC cs x = X) (hN : lenN x = N) (h : Cels .i32 w A cs) (hn : cs.length = n) : Calls Tryz.prog 74 #[.slice A n c, .int .i64 x] w (LineN .i32 N X w) := by
 subst hX
 exact (lfit_any A n c x cs w h hn).mono fun e w' q => q.line (by rw [fit_len, hN])
theorem new_v (x : Int) {N : Nat} {X : List Cel} (hX : newC x = X) (hN : lenN x = N) (w : World) : Calls Tryz.prog 66 #[.int .i64 x] w (LineN .i32 N X w) := by
 subst hX
 exact (new_any x w).mono fun e w' q => q.line (by rw [new_len, hN])
end
end
end Go.Proofs.YtkijclgbpbhglaaGreatDoor
