/-
  Contracts and plain mathematics of EDoc5.
-/
import Derived.Test.YtkijclgbpbhglaaGreatDoorQd27
namespace Go.Proofs.YtkijclgbpbhglaaGreatDoor
set_option maxRecDepth 100000
set_option linter.unusedVariables false
set_option maxHeartbeats 8000000
section
open Go.ChangeShapes Go.WideShapes Go.ChangeAt Go.RowKit
theorem eraseTo_rc (g : Gd) (C : Nat) (k : Int) (bp : Pn) : ∀ n, (eraseTo g C k bp n).row = g.row ∧ (eraseTo g C k bp n).col = g.col := by
 intro n
 induction n with
 | zero => exact ⟨rfl, rfl⟩
 | succ n ih =>
  unfold eraseTo
  split
  ·have := erase_row (eraseTo g C k bp n) (n : Int) 0 (C : Int) bp; exact ⟨this.1.trans ih.1, this.2.trans ih.2⟩
  ·exact ih
def Kept (w : World) (R : Nat) (r : Int) (A : Option Addr) (n c : Nat) (e : Em) (row col : Int) (wr : World) (A5 : Option Addr) (cap5 : Nat) (N5 : Option Addr) (ln5 cn5 : Nat) (H5 : Option Addr) (lh5 ch5 : Nat) : Prop :=
 Whole wr w.heap.size 40 [.slice A5 R cap5, .int .i64 row, .int .i64 col, .int .i64 e.p.st, .slice N5 ln5 cn5, .slice H5 lh5 ch5, .int .u8 e.pen.f, .int .u8 e.pen.g, .int .u8 e.pen.b, .bool e.wrap] ∧ Whole wr (w.heap.size + 1) 60 [.int .i64 3, .int .i64 r, .slice A n c] ∧ Whole wr (w.heap.size + 1 + 1) 40 [.slice none 0 0, .int .i64 0, .int .i64 0, .int .i64 0, .slice none 0 0, .slice none 0 0, .int .u8 0, .int .u8 0, .int .u8 0, .bool false] ∧ Doc wr ⟨A5, cap5, N5, ln5, cn5, H5, lh5, ch5⟩ e ∧ Below w.heap.size w wr
section
variable {w w' w1 : World} {d : Dv} {R C : Nat} {e : Em}
theorem redo_K (h : Doc w d e) (hok : EOk e R C) (r : Int) (A : Option Addr) (n c : Nat) (ns : List Int) (hi : Ints .i64 w A ns) (hn : ns.length = n) (hr75 : r = 75) :
  Calls Tryz.prog 22 #[.agg #[.slice d.A R d.cap, .int .i64 e.g.row, .int .i64 e.g.col, .int .i64 e.p.st, .slice d.N d.ln d.cn, .slice d.H d.lh d.ch, .int .u8 e.pen.f, .int .u8 e.pen.g, .int .u8 e.pen.b, .bool e.wrap], .agg #[.int .i64 3, .int .i64 r, .slice A n c]] w (GaveM R (doE e C ⟨3, r, ns⟩) w) := by
 have g65 : (r == 65) = false := by rw [hr75]; decide
 have g66 : (r == 66) = false := by rw [hr75]; decide
 have g67 : (r == 67) = false := by rw [hr75]; decide
 have g68 : (r == 68) = false := by rw [hr75]; decide
 have g72 : (r == 72) = false := by rw [hr75]; decide
 have HR75 := hide hr75; clear hr75
 obtain ⟨W0, hW0⟩ := exq (((w.alloc (.cells #[.slice d.A R d.cap, .int .i64 e.g.row, .int .i64 e.g.col, .int .i64 e.p.st, .slice d.N d.ln d.cn, .slice d.H d.lh d.ch, .int .u8 e.pen.f, .int .u8 e.pen.g, .int .u8 e.pen.b, .bool e.wrap] 40)).alloc (.cells #[.int .i64 3, .int .i64 r, .slice A n c] 60)).alloc (.cells #[.slice none 0 0, .int .i64 0, .int .i64 0, .int .i64 0, .slice none 0 0, .slice none 0 0, .int .u8 0, .int .u8 0, .int .u8 0, .bool false] 40))
 have HB0 : Hid (Below w.heap.size w W0) := by unfold Hid; rw [← hW0]; exact (two_new _ _ _ _ _).alloc (by simp; omega) _
 have HP0 : Hid (Whole W0 w.heap.size 40 [.slice d.A R d.cap, .int .i64 e.g.row, .int .i64 e.g.col, .int .i64 e.p.st, .slice d.N d.ln d.cn, .slice d.H d.lh d.ch, .int .u8 e.pen.f, .int .u8 e.pen.g, .int .u8 e.pen.b, .bool e.wrap]) := by unfold Hid; rw [← hW0]; exact ((Whole.new _ _ _).alloc _).alloc _
 have HX0 : Hid (Whole W0 (w.heap.size + 1) 60 [.int .i64 3, .int .i64 r, .slice A n c]) := by unfold Hid; rw [← hW0]; exact (whole_snd _ _ _ _).alloc _
 have HQ0 : Hid (Whole W0 (w.heap.size + 1 + 1) 40 [.slice none 0 0, .int .i64 0, .int .i64 0, .int .i64 0, .slice none 0 0, .slice none 0 0, .int .u8 0, .int .u8 0, .int .u8 0, .bool false]) := by unfold Hid; rw [← hW0]; have := whole_snd (w.alloc (.cells #[.slice d.A R d.cap, .int .i64 e.g.row, .int .i64 e.g.col, .int .i64 e.p.st, .slice d.N d.ln d.cn, .slice d.H d.lh d.ch, .int .u8 e.pen.f, .int .u8 e.pen.g, .int .u8 e.pen.b, .bool e.wrap] 40)) (.cells #[.int .i64 3, .int .i64 r, .slice A n c] 60) 40 [.slice none 0 0, .int .i64 0, .int .i64 0, .int .i64 0, .slice none 0 0, .slice none 0 0, .int .u8 0, .int .u8 0, .int .u8 0, .bool false]; rwa [show (w.alloc (.cells #[.slice d.A R d.cap, .int .i64 e.g.row, .int .i64 e.g.col, .int .i64 e.p.st, .slice d.N d.ln d.cn, .slice d.H d.lh d.ch, .int .u8 e.pen.f, .int .u8 e.pen.g, .int .u8 e.pen.b, .bool e.wrap] 40)).heap.size = w.heap.size + 1 by simp] at this
 have HW0 := hide hW0
 have HD0 := hide (h.below HB0.out)
 have HI0 := hide (hi.below HB0.out)
 have HN := hide hn; have HOK := hide hok; clear hW0 h hi hn
 have hR1 := hok.g.r1
 have hR2 := hok.g.r2
 have hC1 := hok.g.c1
 have hC2 := hok.g.c2
 have hrow := hok.g.row
 have hcol := hok.g.col
 have HLen := hide hok.g.len
 have HC0 := hide (hok.g.each 0 hok.g.r1).1
 clear hok
 obtain ⟨a0, ha0⟩ : ∃ a, numP ns 0 1 = a := ⟨_, rfl⟩
 obtain ⟨m0, hm0⟩ : ∃ a, numP ns 1 1 = a := ⟨_, rfl⟩
 obtain ⟨kk, hkk⟩ : ∃ a, numP ns 0 0 = a := ⟨_, rfl⟩
 obtain ⟨a1, ha1⟩ : ∃ a, max a0 1 = a := ⟨_, rfl⟩
 obtain ⟨m1, hm1⟩ : ∃ a, max m0 1 = a := ⟨_, rfl⟩
 obtain ⟨o1, ho1⟩ : ∃ a, min a1 1000 = a := ⟨_, rfl⟩
 obtain ⟨o2, ho2⟩ : ∃ a, min m1 1000 = a := ⟨_, rfl⟩
 have HO1 : Hid (oneN (nAt ns 0 1) = o1) := by unfold Hid oneN; rw [← numP_nAt, show ((0 : Nat) : Int) = 0 from rfl, ha0, ha1, ho1]
 have HO2 : Hid (oneN (nAt ns 1 1) = o2) := by unfold Hid oneN; rw [← numP_nAt, show ((1 : Nat) : Int) = 1 from rfl, hm0, hm1, ho2]
 have HKK : Hid (nAt ns 0 0 = kk) := by unfold Hid; rw [← numP_nAt, show ((0 : Nat) : Int) = 0 from rfl, hkk]
 have b1 : 1 ≤ o1 := by omega
 have b2 : o1 ≤ 1000 := by omega
 have b3 : 1 ≤ o2 := by omega
 have b4 : o2 ≤ 1000 := by omega
 have HA0 := hide ha0; have HM0 := hide hm0; have HK0 := hide hkk; have HA1 := hide ha1; have HM1 := hide hm1; have HA2 := hide ho1; have HM2 := hide ho2; clear ha0 hm0 hkk ha1 hm1 ho1 ho2
 have hne : ¬ w.heap.size = w.heap.size + 1 + 1 := by omega
 have hne2 : ¬ w.heap.size + 1 + 1 = w.heap.size := by omega
 have hne3 : ¬ w.heap.size + 1 = w.heap.size := by omega
 go_enter Tryz.func22, Tryz.ntmps22
 go_wp2_with fail
 rw [HW0.out]
 refine (rgcols_any d.A R d.cap C e.g.row e.g.col e.g.ls W0 HD0.out.lns HLen.out hR1 HC0.out).mono ?_
 rintro x k1 ⟨rfl, hb1⟩
 have HX1 := hide (HX0.out.later hb1)
 have HI1 := hide (HI0.out.below hb1)
 have HB1 := hide hb1; clear hb1
 obtain ⟨x0, x1, x2, lX⟩ := cells3 HX1.out
 go_wp2
 refine rgL (fun w' => Below k1.heap.size k1 w') 8 [(0, 0), (0, 2), (0, 4), (1, 1), (1, 3), (1, 5), (1, 6), (1, 7), (3, 8)] bd1 ?_
 refine stL (hy := fun w hS => by obtain ⟨y0, y1, y2, -⟩ := cells3 (HX1.out.later hS); go_simp <;> with_reducible rfl) (h := ?_)
 refine stL (hy := fun w hS => by obtain ⟨y0, y1, y2, -⟩ := cells3 (HX1.out.later hS); go_simp <;> with_reducible rfl) (h := ?_)
 refine stL (hy := fun w hS => by obtain ⟨y0, y1, y2, -⟩ := cells3 (HX1.out.later hS); go_simp <;> with_reducible rfl) (h := ?_)
 refine alL fun K hK => ?_
 go_wp2_with fail
 refine (rpnum_any 3 r 0 1 A n c ns _ (HI1.out.drewN 1) HN.out).mono ?_
 rintro x k2 ⟨rfl, hb⟩
 rw [HA0.out]
 have B2 : Below k1.heap.size k1 k2 := bd1.trans hb
 clear hb; go_wp2
 refine hK.out _ _ (B2) ?_
 clear hK K
 refine alL fun K hK => ?_
 go_wp2_with fail
 refine (rpnum_any 3 r 1 1 A n c ns _ (HI1.out.below B2) HN.out).mono ?_
 rintro x k3 ⟨rfl, hb⟩
 rw [HM0.out]
 have B3 : Below k1.heap.size k1 k3 := B2.trans (hb.mono B2.size)
 clear hb; go_wp2
 refine hK.out _ _ (B3) ?_
 clear hK K
 refine alL fun K hK => ?_
 go_wp2_with fail
 refine (rpnum_any 3 r 0 0 A n c ns _ (HI1.out.below B3) HN.out).mono ?_
 rintro x k4 ⟨rfl, hb⟩
 rw [HK0.out]
 have B4 : Below k1.heap.size k1 k4 := B3.trans (hb.mono B3.size)
 clear hb; go_wp2
 refine hK.out _ _ (B4) ?_
 clear hK K
 refine alL fun K hK => ?_
 go_wp2
 refine hK.out _ _ (B4) ?_
 clear hK K
 refine alL fun K hK => ?_
 go_wp2
 refine hK.out _ _ (B4) ?_
 clear hK K
 refine laL fun K hK => ?_
 go_wp2
 refine hK.out _ _ ?_
 clear hK K
 refine chainL_nil ?_
 have HB04 : Hid (Below W0.heap.size W0 k4) := HB1.out.trans (B4.mono HB1.out.size)
 have HP4 := hide (HP0.out.later HB04.out)
 have HX4 := hide (HX0.out.later HB04.out)
 have HQ4 := hide (HQ0.out.later HB04.out)
 have HD4 := hide (HD0.out.below HB04.out)
 have HI4 := hide (HI0.out.below HB04.out)
 have HB4 : Hid (Below w.heap.size w k4) := HB0.out.trans (HB04.out.mono HB0.out.size)
 clear B2 B3 B4 x0 x1 x2 lX HW0 HP0 HX0 HQ0 HD0 HI0 HB04 HB0 HX1 HI1 HB1
 go_upto_region 3 with fail
 go_cut [22] from 21 to 22 (fun v wx => v = .bool (decide (a0 < 1)) ∧ wx = k4)
 case first =>
  by_cases hq : a0 < 1
  ·go_wp2
   go_meet
   case rel => exact ⟨by simp [hq], rfl⟩
  ·go_wp2
   go_meet
   case rel => exact ⟨by simp [hq], rfl⟩
 case rest =>
  obtain ⟨hv, hwc⟩ := hcut
  subst hv
  rw [hwc]
  clear hwc
  go_upto_if 22 with fail
  go_cut [6] from 21 to 22 (fun v wx => v = .int .i64 a1 ∧ wx = k4)
  case first =>
   by_cases hq : a0 < 1
   ·rw [decide_eq_true hq]
    go_wp2
    go_meet
    case rel => exact ⟨by rw [show a1 = 1 by have := HA1.out; omega], rfl⟩
   ·rw [decide_eq_false hq]
    go_wp2
    go_meet
    case rel => exact ⟨by rw [show a1 = a0 by have := HA1.out; omega], rfl⟩
  case rest =>
   obtain ⟨hv, hwc⟩ := hcut
   subst hv
   rw [hwc]
   clear hwc
   go_upto_region 5 with fail
   go_cut [24] from 23 to 24 (fun v wx => v = .bool (decide (1000 < a1)) ∧ wx = k4)
   case first =>
    by_cases hq : 1000 < a1
    ·go_wp2
     go_meet
     case rel => exact ⟨by simp [hq], rfl⟩
    ·go_wp2
     go_meet
     case rel => exact ⟨by simp [hq], rfl⟩
   case rest =>
    obtain ⟨hv, hwc⟩ := hcut
    subst hv
    rw [hwc]
    clear hwc
    go_upto_if 24 with fail
    go_cut [6] from 23 to 24 (fun v wx => v = .int .i64 o1 ∧ wx = k4)
    case first =>
     by_cases hq : 1000 < a1
     ·rw [decide_eq_true hq]
      go_wp2
      go_meet
      case rel => exact ⟨by rw [show o1 = 1000 by have := HA2.out; omega], rfl⟩
     ·rw [decide_eq_false hq]
      go_wp2
      go_meet
      case rel => exact ⟨by rw [show o1 = a1 by have := HA2.out; omega], rfl⟩
    case rest =>
     obtain ⟨hv, hwc⟩ := hcut
     subst hv
     rw [hwc]
     clear hwc
     go_upto_region 7 with fail
     go_cut [26] from 25 to 26 (fun v wx => v = .bool (decide (m0 < 1)) ∧ wx = k4)
     case first =>
      by_cases hq : m0 < 1
      ·go_wp2
       go_meet
       case rel => exact ⟨by simp [hq], rfl⟩
      ·go_wp2
       go_meet
       case rel => exact ⟨by simp [hq], rfl⟩
     case rest =>
      obtain ⟨hv, hwc⟩ := hcut
      subst hv
      rw [hwc]
      clear hwc
      go_upto_if 26 with fail
      go_cut [7] from 25 to 26 (fun v wx => v = .int .i64 m1 ∧ wx = k4)
      case first =>
       by_cases hq : m0 < 1
       ·rw [decide_eq_true hq]
        go_wp2
        go_meet
        case rel => exact ⟨by rw [show m1 = 1 by have := HM1.out; omega], rfl⟩
       ·rw [decide_eq_false hq]
        go_wp2
        go_meet
        case rel => exact ⟨by rw [show m1 = m0 by have := HM1.out; omega], rfl⟩
      case rest =>
       obtain ⟨hv, hwc⟩ := hcut
       subst hv
       rw [hwc]
       clear hwc
       go_upto_region 9 with fail
       go_cut [28] from 27 to 28 (fun v wx => v = .bool (decide (1000 < m1)) ∧ wx = k4)
       case first =>
        by_cases hq : 1000 < m1
        ·go_wp2
         go_meet
         case rel => exact ⟨by simp [hq], rfl⟩
        ·go_wp2
         go_meet
         case rel => exact ⟨by simp [hq], rfl⟩
       case rest =>
        obtain ⟨hv, hwc⟩ := hcut
        subst hv
        rw [hwc]
        clear hwc
        go_upto_if 28 with fail
        go_cut [7] from 27 to 28 (fun v wx => v = .int .i64 o2 ∧ wx = k4)
        case first =>
         by_cases hq : 1000 < m1
         ·rw [decide_eq_true hq]
          go_wp2
          go_meet
          case rel => exact ⟨by rw [show o2 = 1000 by have := HM2.out; omega], rfl⟩
         ·rw [decide_eq_false hq]
          go_wp2
          go_meet
          case rel => exact ⟨by rw [show o2 = m1 by have := HM2.out; omega], rfl⟩
        case rest =>
         obtain ⟨hv, hwc⟩ := hcut
         subst hv
         rw [hwc]
         clear hwc
         obtain ⟨g1, hg1⟩ := exq (e.g)
         have HG1 := hide hg1
         have HRJ : Hid (g1.row = e.g.row ∧ g1.col = e.g.col) := by unfold Hid; rw [← hg1]; exact ⟨rfl, rfl⟩
         have HOKJ : Hid (GOk g1 R C) := by unfold Hid; rw [← hg1]; exact HOK.out.g
         have HTT : Hid (doE e C ⟨3, r, ns⟩ = ⟨eraseOwn g1 C kk (blankP e.pen), e.p, e.pen, e.wrap⟩) := by unfold Hid; rw [← hg1, ← HKK.out, HR75.out]; unfold doE; simp
         have HKE : Hid (Kept w R r A n c ⟨g1, e.p, e.pen, e.wrap⟩ (e.g.row : Int) (e.g.col : Int) k4 d.A d.cap d.N d.ln d.cn d.H d.lh d.ch) := ⟨HP4.out, HX4.out, HQ4.out, by rw [← hg1]; exact HD4.out.as rfl rfl, HB4.out⟩
         have q74 : (r == 74) = false := by rw [HR75.out]; decide
         have q75 : (r == 75) = true := by rw [HR75.out]; decide
         clear hg1
         obtain ⟨x0, x1, x2, lX⟩ := cells3 HX4.out
         obtain ⟨p0, p1, p2, p3, p4, p5, p6, p7, p8, p9, lp⟩ := cells10 HP4.out
         go_wp2
         go_loopw [9] (fun i wr => ∃ j : Nat, j ≤ R ∧ i = .int .i64 j ∧ k4 = wr) (fun i _ => R - (intOf i).toNat)
         case atStart => exact ⟨0, Nat.zero_le _, rfl, rfl⟩
         case round =>
          obtain ⟨j, hj, rfl, rfl⟩ := hrel
          by_cases hlt : j < R
          ·have HLT := hide hlt
           go_wp2
           go_roundw
           case rel => exact ⟨j + 1, by have := HLT.out; omega, by have := HLT.out; go_num, by trivial⟩
           case measure => have := HLT.out; simp [intOf]; omega
          ·have HKE2 : Hid (Kept w R r A n c ⟨g1, e.p, e.pen, e.wrap⟩ (e.g.row : Int) (e.g.col : Int) k4 d.A d.cap d.N d.ln d.cn d.H d.lh d.ch) := HKE.out
           obtain ⟨A5, cap5, N5, ln5, cn5, H5, lh5, ch5, hke⟩ : ∃ A5 cap5 N5 ln5 cn5 H5 lh5 ch5, Kept w R r A n c ⟨g1, e.p, e.pen, e.wrap⟩ (e.g.row : Int) (e.g.col : Int) k4 A5 cap5 N5 ln5 cn5 H5 lh5 ch5 := ⟨_, _, _, _, _, _, _, _, HKE2.out⟩
           have HK := hide hke; clear hke HKE2 HKE HP4 HX4 HQ4 HD4 HB4 x0 x1 x2 lX p0 p1 p2 p3 p4 p5 p6 p7 p8 p9 lp
           by_cases k0 : kk = 0
           ·subst k0
            obtain ⟨g2, hg2⟩ := exq (eraseG g1 (e.g.row : Int) (e.g.col : Int) (C : Int) (blankP e.pen))
            have HGN := hide hg2
            have HRN : Hid (g2.row = e.g.row ∧ g2.col = e.g.col) := by unfold Hid; rw [← hg2]; have := erase_row g1 (e.g.row : Int) (e.g.col : Int) (C : Int) (blankP e.pen); exact ⟨this.1.trans HRJ.out.1, this.2.trans HRJ.out.2⟩
            have HT : Hid (doE e C ⟨3, r, ns⟩ = ⟨g2, e.p, e.pen, e.wrap⟩) := by unfold Hid; rw [HTT.out]; unfold eraseOwn; rw [HRJ.out.1, HRJ.out.2]; rw [if_pos rfl, hg2]
            clear hg2
            have hcall : Calls Tryz.prog 58 #[.agg #[.slice A5 R cap5, .int .i64 e.g.row, .int .i64 e.g.col, .int .i64 e.p.st, .slice N5 ln5 cn5, .slice H5 lh5 ch5, .int .u8 e.pen.f, .int .u8 e.pen.g, .int .u8 e.pen.b, .bool e.wrap], .int .i64 e.g.row, .int .i64 e.g.col, .int .i64 C] k4 (GaveM R ⟨g2, e.p, e.pen, e.wrap⟩ k4) := by
             have := rerase9_any (e := ⟨g1, e.p, e.pen, e.wrap⟩) HK.out.2.2.2.1 ⟨HOKJ.out, HOK.out.p, HOK.out.pen⟩ (e.g.row : Int) (e.g.col : Int) (C : Int)
             simp only [HRJ.out.1, HRJ.out.2] at this
             rw [show eraseG g1 (e.g.row : Int) (e.g.col : Int) (C : Int) (blankP (⟨g1, e.p, e.pen, e.wrap⟩ : Em).pen) = g2 from HGN.out] at this
             exact this
            obtain ⟨p0, p1, p2, p3, p4, p5, p6, p7, p8, p9, lp⟩ := cells10 HK.out.1
            go_wp2_with fail
            refine hcall.mono ?_
            rintro x k5 hx
            obtain ⟨A6, cap6, N6, ln6, cn6, H6, lh6, ch6, rfl, hd5, hb5⟩ := hx.lit
            simp only [HRN.out.1, HRN.out.2]
            clear hcall hx p0 p1 p2 p3 p4 p5 p6 p7 p8 p9 lp
            have hp5 := HK.out.1.later hb5
            obtain ⟨p0, p1, p2, p3, p4, p5, p6, p7, p8, p9, lp⟩ := cells10 hp5
            have zp5 := hp5.frozen
            obtain ⟨W6, hW6⟩ := exq (((((((((((k5.setCell ⟨w.heap.size, 0, none⟩ (.slice A6 R cap6)).setCell ⟨w.heap.size, 1, none⟩ (.int .i64 e.g.row)).setCell ⟨w.heap.size, 2, none⟩ (.int .i64 e.g.col)).setCell ⟨w.heap.size, 3, none⟩ (.int .i64 e.p.st)).setCell ⟨w.heap.size, 4, none⟩ (.slice N6 ln6 cn6)).setCell ⟨w.heap.size, 5, none⟩ (.slice H6 lh6 ch6)).setCell ⟨w.heap.size, 6, none⟩ (.int .u8 e.pen.f)).setCell ⟨w.heap.size, 7, none⟩ (.int .u8 e.pen.g)).setCell ⟨w.heap.size, 8, none⟩ (.int .u8 e.pen.b)).setCell ⟨w.heap.size, 9, none⟩ (.bool e.wrap)))
            have ho6 : Only w.heap.size k5 W6 := by rw [← hW6]; exact only10 _ _ _ _ _ _ _ _ _ _
            have hq5 := HK.out.2.2.1.later hb5
            have hx5 := HK.out.2.1.later hb5
            have hbb5 := HK.out.2.2.2.2.trans (hb5.mono HK.out.2.2.2.2.size)
            have HK6 : Hid (Kept w R r A n c ⟨g2, e.p, e.pen, e.wrap⟩ (e.g.row : Int) (e.g.col : Int) W6 A6 cap6 N6 ln6 cn6 H6 lh6 ch6) := ⟨by rw [← hW6]; exact put10 hp5 _ _ _ _ _ _ _ _ _ _, hx5.same (ho6.block _ hx5.lt (by simp)), hq5.same (ho6.block _ hq5.lt (by simp; omega)), hd5.only ho6 hp5, ho6.below hbb5 hbb5.size (Nat.le_refl _)⟩
            clear hp5 ho6 hq5 hx5 hbb5 hd5 hb5
            go_upto_region 42 with fail
            try rw [hW6]
            clear hW6; clear zp5 p0 p1 p2 p3 p4 p5 p6 p7 p8 p9 lp
            obtain ⟨p0, p1, p2, p3, p4, p5, p6, p7, p8, p9, lp⟩ := cells10 HK6.out.1
            obtain ⟨r0, r1, r2, r3, r4, r5, r6, r7, r8, r9, lr⟩ := cells10 HK6.out.2.2.1
            have zq := HK6.out.2.2.1.frozen
            go_wp2
            try rw [HT.out]
            simp only [← HRN.out.1, ← HRN.out.2]
            exact retDoc (e := ⟨g2, e.p, e.pen, e.wrap⟩) Tryz.results22 rfl rfl HK6.out.2.2.1 ⟨A6, cap6, N6, ln6, cn6, H6, lh6, ch6⟩ HK6.out.2.2.2.1 HK6.out.2.2.2.2 (by omega)
           ·by_cases k1 : kk = 1
            ·subst k1
             have e0 : ((1 : Int) == 0) = false := by decide
             obtain ⟨g2, hg2⟩ := exq (eraseG g1 (e.g.row : Int) 0 ((e.g.col : Int) + 1) (blankP e.pen))
             have HGN := hide hg2
             have HRN : Hid (g2.row = e.g.row ∧ g2.col = e.g.col) := by unfold Hid; rw [← hg2]; have := erase_row g1 (e.g.row : Int) 0 ((e.g.col : Int) + 1) (blankP e.pen); exact ⟨this.1.trans HRJ.out.1, this.2.trans HRJ.out.2⟩
             have HT : Hid (doE e C ⟨3, r, ns⟩ = ⟨g2, e.p, e.pen, e.wrap⟩) := by unfold Hid; rw [HTT.out]; unfold eraseOwn; rw [HRJ.out.1, HRJ.out.2]; rw [if_neg (by decide), if_pos rfl, hg2]
             clear hg2
             have hcall : Calls Tryz.prog 58 #[.agg #[.slice A5 R cap5, .int .i64 e.g.row, .int .i64 e.g.col, .int .i64 e.p.st, .slice N5 ln5 cn5, .slice H5 lh5 ch5, .int .u8 e.pen.f, .int .u8 e.pen.g, .int .u8 e.pen.b, .bool e.wrap], .int .i64 e.g.row, .int .i64 0, .int .i64 ((e.g.col : Int) + 1)] k4 (GaveM R ⟨g2, e.p, e.pen, e.wrap⟩ k4) := by
              have := rerase9_any (e := ⟨g1, e.p, e.pen, e.wrap⟩) HK.out.2.2.2.1 ⟨HOKJ.out, HOK.out.p, HOK.out.pen⟩ (e.g.row : Int) 0 ((e.g.col : Int) + 1)
              simp only [HRJ.out.1, HRJ.out.2] at this
              rw [show eraseG g1 (e.g.row : Int) 0 ((e.g.col : Int) + 1) (blankP (⟨g1, e.p, e.pen, e.wrap⟩ : Em).pen) = g2 from HGN.out] at this
              exact this
             obtain ⟨p0, p1, p2, p3, p4, p5, p6, p7, p8, p9, lp⟩ := cells10 HK.out.1
             go_wp2_with fail
             refine hcall.mono ?_
             rintro x k5 hx
             obtain ⟨A6, cap6, N6, ln6, cn6, H6, lh6, ch6, rfl, hd5, hb5⟩ := hx.lit
             simp only [HRN.out.1, HRN.out.2]
             clear hcall hx p0 p1 p2 p3 p4 p5 p6 p7 p8 p9 lp
             have hp5 := HK.out.1.later hb5
             obtain ⟨p0, p1, p2, p3, p4, p5, p6, p7, p8, p9, lp⟩ := cells10 hp5
             have zp5 := hp5.frozen
             obtain ⟨W6, hW6⟩ := exq (((((((((((k5.setCell ⟨w.heap.size, 0, none⟩ (.slice A6 R cap6)).setCell ⟨w.heap.size, 1, none⟩ (.int .i64 e.g.row)).setCell ⟨w.heap.size, 2, none⟩ (.int .i64 e.g.col)).setCell ⟨w.heap.size, 3, none⟩ (.int .i64 e.p.st)).setCell ⟨w.heap.size, 4, none⟩ (.slice N6 ln6 cn6)).setCell ⟨w.heap.size, 5, none⟩ (.slice H6 lh6 ch6)).setCell ⟨w.heap.size, 6, none⟩ (.int .u8 e.pen.f)).setCell ⟨w.heap.size, 7, none⟩ (.int .u8 e.pen.g)).setCell ⟨w.heap.size, 8, none⟩ (.int .u8 e.pen.b)).setCell ⟨w.heap.size, 9, none⟩ (.bool e.wrap)))
             have ho6 : Only w.heap.size k5 W6 := by rw [← hW6]; exact only10 _ _ _ _ _ _ _ _ _ _
             have hq5 := HK.out.2.2.1.later hb5
             have hx5 := HK.out.2.1.later hb5
             have hbb5 := HK.out.2.2.2.2.trans (hb5.mono HK.out.2.2.2.2.size)
             have HK6 : Hid (Kept w R r A n c ⟨g2, e.p, e.pen, e.wrap⟩ (e.g.row : Int) (e.g.col : Int) W6 A6 cap6 N6 ln6 cn6 H6 lh6 ch6) := ⟨by rw [← hW6]; exact put10 hp5 _ _ _ _ _ _ _ _ _ _, hx5.same (ho6.block _ hx5.lt (by simp)), hq5.same (ho6.block _ hq5.lt (by simp; omega)), hd5.only ho6 hp5, ho6.below hbb5 hbb5.size (Nat.le_refl _)⟩
             clear hp5 ho6 hq5 hx5 hbb5 hd5 hb5
             go_upto_region 44 with fail
             try rw [hW6]
             clear hW6; clear zp5 p0 p1 p2 p3 p4 p5 p6 p7 p8 p9 lp
             obtain ⟨p0, p1, p2, p3, p4, p5, p6, p7, p8, p9, lp⟩ := cells10 HK6.out.1
             obtain ⟨r0, r1, r2, r3, r4, r5, r6, r7, r8, r9, lr⟩ := cells10 HK6.out.2.2.1
             have zq := HK6.out.2.2.1.frozen
             go_wp2
             try rw [HT.out]
             simp only [← HRN.out.1, ← HRN.out.2]
             exact retDoc (e := ⟨g2, e.p, e.pen, e.wrap⟩) Tryz.results22 rfl rfl HK6.out.2.2.1 ⟨A6, cap6, N6, ln6, cn6, H6, lh6, ch6⟩ HK6.out.2.2.2.1 HK6.out.2.2.2.2 (by omega)
            ·by_cases k2 : kk = 2
             ·subst k2
              obtain ⟨g2, hg2⟩ := exq (eraseG g1 (e.g.row : Int) 0 (C : Int) (blankP e.pen))
              have HGN := hide hg2
              have HRN : Hid (g2.row = e.g.row ∧ g2.col = e.g.col) := by unfold Hid; rw [← hg2]; have := erase_row g1 (e.g.row : Int) 0 (C : Int) (blankP e.pen); exact ⟨this.1.trans HRJ.out.1, this.2.trans HRJ.out.2⟩
              have HT : Hid (doE e C ⟨3, r, ns⟩ = ⟨g2, e.p, e.pen, e.wrap⟩) := by unfold Hid; rw [HTT.out]; unfold eraseOwn; rw [HRJ.out.1, HRJ.out.2]; rw [if_neg (by decide), if_neg (by decide), if_pos rfl, hg2]
              clear hg2
              have hcall : Calls Tryz.prog 58 #[.agg #[.slice A5 R cap5, .int .i64 e.g.row, .int .i64 e.g.col, .int .i64 e.p.st, .slice N5 ln5 cn5, .slice H5 lh5 ch5, .int .u8 e.pen.f, .int .u8 e.pen.g, .int .u8 e.pen.b, .bool e.wrap], .int .i64 e.g.row, .int .i64 0, .int .i64 C] k4 (GaveM R ⟨g2, e.p, e.pen, e.wrap⟩ k4) := by
               have := rerase9_any (e := ⟨g1, e.p, e.pen, e.wrap⟩) HK.out.2.2.2.1 ⟨HOKJ.out, HOK.out.p, HOK.out.pen⟩ (e.g.row : Int) 0 (C : Int)
               simp only [HRJ.out.1, HRJ.out.2] at this
               rw [show eraseG g1 (e.g.row : Int) 0 (C : Int) (blankP (⟨g1, e.p, e.pen, e.wrap⟩ : Em).pen) = g2 from HGN.out] at this
               exact this
              obtain ⟨p0, p1, p2, p3, p4, p5, p6, p7, p8, p9, lp⟩ := cells10 HK.out.1
              go_wp2_with fail
              refine hcall.mono ?_
              rintro x k5 hx
              obtain ⟨A6, cap6, N6, ln6, cn6, H6, lh6, ch6, rfl, hd5, hb5⟩ := hx.lit
              simp only [HRN.out.1, HRN.out.2]
              clear hcall hx p0 p1 p2 p3 p4 p5 p6 p7 p8 p9 lp
              have hp5 := HK.out.1.later hb5
              obtain ⟨p0, p1, p2, p3, p4, p5, p6, p7, p8, p9, lp⟩ := cells10 hp5
              have zp5 := hp5.frozen
              obtain ⟨W6, hW6⟩ := exq (((((((((((k5.setCell ⟨w.heap.size, 0, none⟩ (.slice A6 R cap6)).setCell ⟨w.heap.size, 1, none⟩ (.int .i64 e.g.row)).setCell ⟨w.heap.size, 2, none⟩ (.int .i64 e.g.col)).setCell ⟨w.heap.size, 3, none⟩ (.int .i64 e.p.st)).setCell ⟨w.heap.size, 4, none⟩ (.slice N6 ln6 cn6)).setCell ⟨w.heap.size, 5, none⟩ (.slice H6 lh6 ch6)).setCell ⟨w.heap.size, 6, none⟩ (.int .u8 e.pen.f)).setCell ⟨w.heap.size, 7, none⟩ (.int .u8 e.pen.g)).setCell ⟨w.heap.size, 8, none⟩ (.int .u8 e.pen.b)).setCell ⟨w.heap.size, 9, none⟩ (.bool e.wrap)))
              have ho6 : Only w.heap.size k5 W6 := by rw [← hW6]; exact only10 _ _ _ _ _ _ _ _ _ _
              have hq5 := HK.out.2.2.1.later hb5
              have hx5 := HK.out.2.1.later hb5
              have hbb5 := HK.out.2.2.2.2.trans (hb5.mono HK.out.2.2.2.2.size)
              have HK6 : Hid (Kept w R r A n c ⟨g2, e.p, e.pen, e.wrap⟩ (e.g.row : Int) (e.g.col : Int) W6 A6 cap6 N6 ln6 cn6 H6 lh6 ch6) := ⟨by rw [← hW6]; exact put10 hp5 _ _ _ _ _ _ _ _ _ _, hx5.same (ho6.block _ hx5.lt (by simp)), hq5.same (ho6.block _ hq5.lt (by simp; omega)), hd5.only ho6 hp5, ho6.below hbb5 hbb5.size (Nat.le_refl _)⟩
              clear hp5 ho6 hq5 hx5 hbb5 hd5 hb5
              go_upto_region 53 with fail
              try rw [hW6]
              clear hW6; clear zp5 p0 p1 p2 p3 p4 p5 p6 p7 p8 p9 lp
              obtain ⟨p0, p1, p2, p3, p4, p5, p6, p7, p8, p9, lp⟩ := cells10 HK6.out.1
              obtain ⟨r0, r1, r2, r3, r4, r5, r6, r7, r8, r9, lr⟩ := cells10 HK6.out.2.2.1
              have zq := HK6.out.2.2.1.frozen
              go_wp2
              try rw [HT.out]
              simp only [← HRN.out.1, ← HRN.out.2]
              exact retDoc (e := ⟨g2, e.p, e.pen, e.wrap⟩) Tryz.results22 rfl rfl HK6.out.2.2.1 ⟨A6, cap6, N6, ln6, cn6, H6, lh6, ch6⟩ HK6.out.2.2.2.1 HK6.out.2.2.2.2 (by omega)
             ·have e0 : (kk == 0) = false := by simp [k0]
              have e1 : (kk == 1) = false := by simp [k1]
              have e2 : (kk == 2) = false := by simp [k2]
              have HT : Hid (doE e C ⟨3, r, ns⟩ = ⟨g1, e.p, e.pen, e.wrap⟩) := by unfold Hid; rw [HTT.out]; unfold eraseOwn; rw [if_neg k0, if_neg k1, if_neg k2]
              obtain ⟨p0, p1, p2, p3, p4, p5, p6, p7, p8, p9, lp⟩ := cells10 HK.out.1
              obtain ⟨r0, r1, r2, r3, r4, r5, r6, r7, r8, r9, lr⟩ := cells10 HK.out.2.2.1
              have zq := HK.out.2.2.1.frozen
              go_wp2
              try rw [HT.out]
              simp only [← HRJ.out.1, ← HRJ.out.2]
              exact retDoc (e := ⟨g1, e.p, e.pen, e.wrap⟩) Tryz.results22 rfl rfl HK.out.2.2.1 ⟨A5, cap5, N5, ln5, cn5, H5, lh5, ch5⟩ HK.out.2.2.2.1 HK.out.2.2.2.2 (by omega)
theorem redo_J (h : Doc w d e) (hok : EOk e R C) (r : Int) (A : Option Addr) (n c : Nat) (ns : List Int) (hi : Ints .i64 w A ns) (hn : ns.length = n) (hr74 : r = 74) :
  Calls Tryz.prog 22 #[.agg #[.slice d.A R d.cap, .int .i64 e.g.row, .int .i64 e.g.col, .int .i64 e.p.st, .slice d.N d.ln d.cn, .slice d.H d.lh d.ch, .int .u8 e.pen.f, .int .u8 e.pen.g, .int .u8 e.pen.b, .bool e.wrap], .agg #[.int .i64 3, .int .i64 r, .slice A n c]] w (GaveM R (doE e C ⟨3, r, ns⟩) w) := by
 have g65 : (r == 65) = false := by rw [hr74]; decide
 have g66 : (r == 66) = false := by rw [hr74]; decide
 have g67 : (r == 67) = false := by rw [hr74]; decide
 have g68 : (r == 68) = false := by rw [hr74]; decide
 have g72 : (r == 72) = false := by rw [hr74]; decide
 have HR74 := hide hr74; clear hr74
 obtain ⟨W0, hW0⟩ := exq (((w.alloc (.cells #[.slice d.A R d.cap, .int .i64 e.g.row, .int .i64 e.g.col, .int .i64 e.p.st, .slice d.N d.ln d.cn, .slice d.H d.lh d.ch, .int .u8 e.pen.f, .int .u8 e.pen.g, .int .u8 e.pen.b, .bool e.wrap] 40)).alloc (.cells #[.int .i64 3, .int .i64 r, .slice A n c] 60)).alloc (.cells #[.slice none 0 0, .int .i64 0, .int .i64 0, .int .i64 0, .slice none 0 0, .slice none 0 0, .int .u8 0, .int .u8 0, .int .u8 0, .bool false] 40))
 have HB0 : Hid (Below w.heap.size w W0) := by unfold Hid; rw [← hW0]; exact (two_new _ _ _ _ _).alloc (by simp; omega) _
 have HP0 : Hid (Whole W0 w.heap.size 40 [.slice d.A R d.cap, .int .i64 e.g.row, .int .i64 e.g.col, .int .i64 e.p.st, .slice d.N d.ln d.cn, .slice d.H d.lh d.ch, .int .u8 e.pen.f, .int .u8 e.pen.g, .int .u8 e.pen.b, .bool e.wrap]) := by unfold Hid; rw [← hW0]; exact ((Whole.new _ _ _).alloc _).alloc _
 have HX0 : Hid (Whole W0 (w.heap.size + 1) 60 [.int .i64 3, .int .i64 r, .slice A n c]) := by unfold Hid; rw [← hW0]; exact (whole_snd _ _ _ _).alloc _
 have HQ0 : Hid (Whole W0 (w.heap.size + 1 + 1) 40 [.slice none 0 0, .int .i64 0, .int .i64 0, .int .i64 0, .slice none 0 0, .slice none 0 0, .int .u8 0, .int .u8 0, .int .u8 0, .bool false]) := by unfold Hid; rw [← hW0]; have := whole_snd (w.alloc (.cells #[.slice d.A R d.cap, .int .i64 e.g.row, .int .i64 e.g.col, .int .i64 e.p.st, .slice d.N d.ln d.cn, .slice d.H d.lh d.ch, .int .u8 e.pen.f, .int .u8 e.pen.g, .int .u8 e.pen.b, .bool e.wrap] 40)) (.cells #[.int .i64 3, .int .i64 r, .slice A n c] 60) 40 [.slice none 0 0, .int .i64 0, .int .i64 0, .int .i64 0, .slice none 0 0, .slice none 0 0, .int .u8 0, .int .u8 0, .int .u8 0, .bool false]; rwa [show (w.alloc (.cells #[.slice d.A R d.cap, .int .i64 e.g.row, .int .i64 e.g.col, .int .i64 e.p.st, .slice d.N d.ln d.cn, .slice d.H d.lh d.ch, .int .u8 e.pen.f, .int .u8 e.pen.g, .int .u8 e.pen.b, .bool e.wrap] 40)).heap.size = w.heap.size + 1 by simp] at this
 have HW0 := hide hW0
 have HD0 := hide (h.below HB0.out)
 have HI0 := hide (hi.below HB0.out)
 have HN := hide hn; have HOK := hide hok; clear hW0 h hi hn
 have hR1 := hok.g.r1
 have hR2 := hok.g.r2
 have hC1 := hok.g.c1
 have hC2 := hok.g.c2
 have hrow := hok.g.row
 have hcol := hok.g.col
 have HLen := hide hok.g.len
 have HC0 := hide (hok.g.each 0 hok.g.r1).1
 clear hok
 obtain ⟨a0, ha0⟩ : ∃ a, numP ns 0 1 = a := ⟨_, rfl⟩
 obtain ⟨m0, hm0⟩ : ∃ a, numP ns 1 1 = a := ⟨_, rfl⟩
 obtain ⟨kk, hkk⟩ : ∃ a, numP ns 0 0 = a := ⟨_, rfl⟩
 obtain ⟨a1, ha1⟩ : ∃ a, max a0 1 = a := ⟨_, rfl⟩
 obtain ⟨m1, hm1⟩ : ∃ a, max m0 1 = a := ⟨_, rfl⟩
 obtain ⟨o1, ho1⟩ : ∃ a, min a1 1000 = a := ⟨_, rfl⟩
 obtain ⟨o2, ho2⟩ : ∃ a, min m1 1000 = a := ⟨_, rfl⟩
 have HO1 : Hid (oneN (nAt ns 0 1) = o1) := by unfold Hid oneN; rw [← numP_nAt, show ((0 : Nat) : Int) = 0 from rfl, ha0, ha1, ho1]
 have HO2 : Hid (oneN (nAt ns 1 1) = o2) := by unfold Hid oneN; rw [← numP_nAt, show ((1 : Nat) : Int) = 1 from rfl, hm0, hm1, ho2]
 have HKK : Hid (nAt ns 0 0 = kk) := by unfold Hid; rw [← numP_nAt, show ((0 : Nat) : Int) = 0 from rfl, hkk]
 have b1 : 1 ≤ o1 := by omega
 have b2 : o1 ≤ 1000 := by omega
 have b3 : 1 ≤ o2 := by omega
 have b4 : o2 ≤ 1000 := by omega
 have HA0 := hide ha0; have HM0 := hide hm0; have HK0 := hide hkk; have HA1 := hide ha1; have HM1 := hide hm1; have HA2 := hide ho1; have HM2 := hide ho2; clear ha0 hm0 hkk ha1 hm1 ho1 ho2
 have hne : ¬ w.heap.size = w.heap.size + 1 + 1 := by omega
 have hne2 : ¬ w.heap.size + 1 + 1 = w.heap.size := by omega
 have hne3 : ¬ w.heap.size + 1 = w.heap.size := by omega
 go_enter Tryz.func22, Tryz.ntmps22
 go_wp2_with fail
 rw [HW0.out]
 refine (rgcols_any d.A R d.cap C e.g.row e.g.col e.g.ls W0 HD0.out.lns HLen.out hR1 HC0.out).mono ?_
 rintro x k1 ⟨rfl, hb1⟩
 have HX1 := hide (HX0.out.later hb1)
 have HI1 := hide (HI0.out.below hb1)
 have HB1 := hide hb1; clear hb1
 obtain ⟨x0, x1, x2, lX⟩ := cells3 HX1.out
 go_wp2
 refine rgL (fun w' => Below k1.heap.size k1 w') 8 [(0, 0), (0, 2), (0, 4), (1, 1), (1, 3), (1, 5), (1, 6), (1, 7), (3, 8)] bd1 ?_
 refine stL (hy := fun w hS => by obtain ⟨y0, y1, y2, -⟩ := cells3 (HX1.out.later hS); go_simp <;> with_reducible rfl) (h := ?_)
 refine stL (hy := fun w hS => by obtain ⟨y0, y1, y2, -⟩ := cells3 (HX1.out.later hS); go_simp <;> with_reducible rfl) (h := ?_)
 refine stL (hy := fun w hS => by obtain ⟨y0, y1, y2, -⟩ := cells3 (HX1.out.later hS); go_simp <;> with_reducible rfl) (h := ?_)
 refine alL fun K hK => ?_
 go_wp2_with fail
 refine (rpnum_any 3 r 0 1 A n c ns _ (HI1.out.drewN 1) HN.out).mono ?_
 rintro x k2 ⟨rfl, hb⟩
 rw [HA0.out]
 have B2 : Below k1.heap.size k1 k2 := bd1.trans hb
 clear hb; go_wp2
 refine hK.out _ _ (B2) ?_
 clear hK K
 refine alL fun K hK => ?_
 go_wp2_with fail
 refine (rpnum_any 3 r 1 1 A n c ns _ (HI1.out.below B2) HN.out).mono ?_
 rintro x k3 ⟨rfl, hb⟩
 rw [HM0.out]
 have B3 : Below k1.heap.size k1 k3 := B2.trans (hb.mono B2.size)
 clear hb; go_wp2
 refine hK.out _ _ (B3) ?_
 clear hK K
 refine alL fun K hK => ?_
 go_wp2_with fail
 refine (rpnum_any 3 r 0 0 A n c ns _ (HI1.out.below B3) HN.out).mono ?_
 rintro x k4 ⟨rfl, hb⟩
 rw [HK0.out]
 have B4 : Below k1.heap.size k1 k4 := B3.trans (hb.mono B3.size)
 clear hb; go_wp2
 refine hK.out _ _ (B4) ?_
 clear hK K
 refine alL fun K hK => ?_
 go_wp2
 refine hK.out _ _ (B4) ?_
 clear hK K
 refine alL fun K hK => ?_
 go_wp2
 refine hK.out _ _ (B4) ?_
 clear hK K
 refine laL fun K hK => ?_
 go_wp2
 refine hK.out _ _ ?_
 clear hK K
 refine chainL_nil ?_
 have HB04 : Hid (Below W0.heap.size W0 k4) := HB1.out.trans (B4.mono HB1.out.size)
 have HP4 := hide (HP0.out.later HB04.out)
 have HX4 := hide (HX0.out.later HB04.out)
 have HQ4 := hide (HQ0.out.later HB04.out)
 have HD4 := hide (HD0.out.below HB04.out)
 have HI4 := hide (HI0.out.below HB04.out)
 have HB4 : Hid (Below w.heap.size w k4) := HB0.out.trans (HB04.out.mono HB0.out.size)
 clear B2 B3 B4 x0 x1 x2 lX HW0 HP0 HX0 HQ0 HD0 HI0 HB04 HB0 HX1 HI1 HB1
 go_upto_region 3 with fail
 go_cut [22] from 21 to 22 (fun v wx => v = .bool (decide (a0 < 1)) ∧ wx = k4)
 case first =>
  by_cases hq : a0 < 1
  ·go_wp2
   go_meet
   case rel => exact ⟨by simp [hq], rfl⟩
  ·go_wp2
   go_meet
   case rel => exact ⟨by simp [hq], rfl⟩
 case rest =>
  obtain ⟨hv, hwc⟩ := hcut
  subst hv
  rw [hwc]
  clear hwc
  go_upto_if 22 with fail
  go_cut [6] from 21 to 22 (fun v wx => v = .int .i64 a1 ∧ wx = k4)
  case first =>
   by_cases hq : a0 < 1
   ·rw [decide_eq_true hq]
    go_wp2
    go_meet
    case rel => exact ⟨by rw [show a1 = 1 by have := HA1.out; omega], rfl⟩
   ·rw [decide_eq_false hq]
    go_wp2
    go_meet
    case rel => exact ⟨by rw [show a1 = a0 by have := HA1.out; omega], rfl⟩
  case rest =>
   obtain ⟨hv, hwc⟩ := hcut
   subst hv
   rw [hwc]
   clear hwc
   go_upto_region 5 with fail
   go_cut [24] from 23 to 24 (fun v wx => v = .bool (decide (1000 < a1)) ∧ wx = k4)
   case first =>
    by_cases hq : 1000 < a1
    ·go_wp2
     go_meet
     case rel => exact ⟨by simp [hq], rfl⟩
    ·go_wp2
     go_meet
     case rel => exact ⟨by simp [hq], rfl⟩
   case rest =>
    obtain ⟨hv, hwc⟩ := hcut
    subst hv
    rw [hwc]
    clear hwc
    go_upto_if 24 with fail
    go_cut [6] from 23 to 24 (fun v wx => v = .int .i64 o1 ∧ wx = k4)
    case first =>
     by_cases hq : 1000 < a1
     ·rw [decide_eq_true hq]
      go_wp2
      go_meet
      case rel => exact ⟨by rw [show o1 = 1000 by have := HA2.out; omega], rfl⟩
     ·rw [decide_eq_false hq]
      go_wp2
      go_meet
      case rel => exact ⟨by rw [show o1 = a1 by have := HA2.out; omega], rfl⟩
    case rest =>
     obtain ⟨hv, hwc⟩ := hcut
     subst hv
     rw [hwc]
     clear hwc
     go_upto_region 7 with fail
     go_cut [26] from 25 to 26 (fun v wx => v = .bool (decide (m0 < 1)) ∧ wx = k4)
     case first =>
      by_cases hq : m0 < 1
      ·go_wp2
       go_meet
       case rel => exact ⟨by simp [hq], rfl⟩
      ·go_wp2
       go_meet
       case rel => exact ⟨by simp [hq], rfl⟩
     case rest =>
      obtain ⟨hv, hwc⟩ := hcut
      subst hv
      rw [hwc]
      clear hwc
      go_upto_if 26 with fail
      go_cut [7] from 25 to 26 (fun v wx => v = .int .i64 m1 ∧ wx = k4)
      case first =>
       by_cases hq : m0 < 1
       ·rw [decide_eq_true hq]
        go_wp2
        go_meet
        case rel => exact ⟨by rw [show m1 = 1 by have := HM1.out; omega], rfl⟩
       ·rw [decide_eq_false hq]
        go_wp2
        go_meet
        case rel => exact ⟨by rw [show m1 = m0 by have := HM1.out; omega], rfl⟩
      case rest =>
       obtain ⟨hv, hwc⟩ := hcut
       subst hv
       rw [hwc]
       clear hwc
       go_upto_region 9 with fail
       go_cut [28] from 27 to 28 (fun v wx => v = .bool (decide (1000 < m1)) ∧ wx = k4)
       case first =>
        by_cases hq : 1000 < m1
        ·go_wp2
         go_meet
         case rel => exact ⟨by simp [hq], rfl⟩
        ·go_wp2
         go_meet
         case rel => exact ⟨by simp [hq], rfl⟩
       case rest =>
        obtain ⟨hv, hwc⟩ := hcut
        subst hv
        rw [hwc]
        clear hwc
        go_upto_if 28 with fail
        go_cut [7] from 27 to 28 (fun v wx => v = .int .i64 o2 ∧ wx = k4)
        case first =>
         by_cases hq : 1000 < m1
         ·rw [decide_eq_true hq]
          go_wp2
          go_meet
          case rel => exact ⟨by rw [show o2 = 1000 by have := HM2.out; omega], rfl⟩
         ·rw [decide_eq_false hq]
          go_wp2
          go_meet
          case rel => exact ⟨by rw [show o2 = m1 by have := HM2.out; omega], rfl⟩
        case rest =>
         obtain ⟨hv, hwc⟩ := hcut
         subst hv
         rw [hwc]
         clear hwc
         have HT0 : Hid (doE e C ⟨3, r, ns⟩ = ⟨eraseOwn (eraseTo e.g C kk (blankP e.pen) R) C kk (blankP e.pen), e.p, e.pen, e.wrap⟩) := by unfold Hid; rw [← HKK.out, HR74.out, ← HLen.out]; unfold doE; simp
         have q74 : (r == 74) = true := by rw [HR74.out]; decide
         have HKE : Hid (Kept w R r A n c ⟨eraseTo e.g C kk (blankP e.pen) 0, e.p, e.pen, e.wrap⟩ (e.g.row : Int) (e.g.col : Int) k4 d.A d.cap d.N d.ln d.cn d.H d.lh d.ch) := ⟨HP4.out, HX4.out, HQ4.out, HD4.out.as rfl rfl, HB4.out⟩
         clear HA0 HM0 HK0 HA1 HM1 HA2 HM2 HO1 HO2 b1 b2 b3 b4
         obtain ⟨x0, x1, x2, lX⟩ := cells3 HX4.out
         obtain ⟨p0, p1, p2, p3, p4, p5, p6, p7, p8, p9, lp⟩ := cells10 HP4.out
         by_cases k0 : kk = 0
         ·subst k0
          go_wp2
          go_loopw [9] (fun i wr => ∃ (j : Nat) (A5 : Option Addr) (cap5 : Nat) (N5 : Option Addr) (ln5 cn5 : Nat) (H5 : Option Addr) (lh5 ch5 : Nat), j ≤ R ∧ i = .int .i64 j ∧ Kept w R r A n c ⟨eraseTo e.g C 0 (blankP e.pen) j, e.p, e.pen, e.wrap⟩ (e.g.row : Int) (e.g.col : Int) wr A5 cap5 N5 ln5 cn5 H5 lh5 ch5) (fun i _ => R - (intOf i).toNat)
          case atStart => exact ⟨0, d.A, d.cap, d.N, d.ln, d.cn, d.H, d.lh, d.ch, Nat.zero_le _, rfl, HKE.out⟩
          case round =>
           obtain ⟨j, A5, cap5, N5, ln5, cn5, H5, lh5, ch5, hj, rfl, hke⟩ := hrel
           have HK := hide hke; clear hke; clear x0 x1 x2 lX p0 p1 p2 p3 p4 p5 p6 p7 p8 p9 lp
           obtain ⟨x0, x1, x2, lX⟩ := cells3 HK.out.2.1
           obtain ⟨p0, p1, p2, p3, p4, p5, p6, p7, p8, p9, lp⟩ := cells10 HK.out.1
           by_cases hlt : j < R
           ·have HLT := hide hlt
            obtain ⟨gj, hgj⟩ : ∃ g, eraseTo e.g C 0 (blankP e.pen) j = g := ⟨_, rfl⟩
            have HRJ : Hid (gj.row = e.g.row ∧ gj.col = e.g.col) := by unfold Hid; rw [← hgj]; exact eraseTo_rc _ _ _ _ _
            have HOKJ : Hid (GOk gj R C) := by unfold Hid; rw [← hgj]; exact eraseTo_ok HOK.out.g _ _ _
            rw [hgj] at HK
            by_cases hb : e.g.row < j
            ·obtain ⟨gn, hgn⟩ : ∃ g, eraseG gj (j : Int) 0 (C : Int) (blankP e.pen) = g := ⟨_, rfl⟩
             have HGN := hide hgn
             have HN1 : Hid (eraseTo e.g C 0 (blankP e.pen) (j + 1) = gn) := by unfold Hid; conv => lhs; unfold eraseTo; rw [show allRow 0 e.g.row j = true by unfold allRow; simp; exact hb, if_pos rfl, hgj, hgn]
             have HRN : Hid (gn.row = e.g.row ∧ gn.col = e.g.col) := by unfold Hid; rw [← HN1.out]; exact eraseTo_rc _ _ _ _ _
             clear hgj hgn p0 p1 p2 p3 p4 p5 p6 p7 p8 p9 lp
             have hcall : Calls Tryz.prog 58 #[.agg #[.slice A5 R cap5, .int .i64 e.g.row, .int .i64 e.g.col, .int .i64 e.p.st, .slice N5 ln5 cn5, .slice H5 lh5 ch5, .int .u8 e.pen.f, .int .u8 e.pen.g, .int .u8 e.pen.b, .bool e.wrap], .int .i64 j, .int .i64 0, .int .i64 C] wr (GaveM R ⟨gn, e.p, e.pen, e.wrap⟩ wr) := by
              have := rerase9_any (e := ⟨gj, e.p, e.pen, e.wrap⟩) HK.out.2.2.2.1 ⟨HOKJ.out, HOK.out.p, HOK.out.pen⟩ (j : Int) 0 (C : Int)
              simp only [HRJ.out.1, HRJ.out.2] at this
              rw [show eraseG gj (j : Int) 0 (C : Int) (blankP (⟨gj, e.p, e.pen, e.wrap⟩ : Em).pen) = gn from HGN.out] at this
              exact this
             obtain ⟨p0, p1, p2, p3, p4, p5, p6, p7, p8, p9, lp⟩ := cells10 HK.out.1
             go_wp2_with fail
             refine hcall.mono ?_
             rintro x k5 hx
             obtain ⟨A6, cap6, N6, ln6, cn6, H6, lh6, ch6, rfl, hd5, hb5⟩ := hx.lit
             simp only [HRN.out.1, HRN.out.2]
             clear hcall hx p0 p1 p2 p3 p4 p5 p6 p7 p8 p9 lp
             have hp5 := HK.out.1.later hb5
             obtain ⟨p0, p1, p2, p3, p4, p5, p6, p7, p8, p9, lp⟩ := cells10 hp5
             have zp5 := hp5.frozen
             obtain ⟨W6, hW6⟩ := exq (((((((((((k5.setCell ⟨w.heap.size, 0, none⟩ (.slice A6 R cap6)).setCell ⟨w.heap.size, 1, none⟩ (.int .i64 e.g.row)).setCell ⟨w.heap.size, 2, none⟩ (.int .i64 e.g.col)).setCell ⟨w.heap.size, 3, none⟩ (.int .i64 e.p.st)).setCell ⟨w.heap.size, 4, none⟩ (.slice N6 ln6 cn6)).setCell ⟨w.heap.size, 5, none⟩ (.slice H6 lh6 ch6)).setCell ⟨w.heap.size, 6, none⟩ (.int .u8 e.pen.f)).setCell ⟨w.heap.size, 7, none⟩ (.int .u8 e.pen.g)).setCell ⟨w.heap.size, 8, none⟩ (.int .u8 e.pen.b)).setCell ⟨w.heap.size, 9, none⟩ (.bool e.wrap)))
             have ho6 : Only w.heap.size k5 W6 := by rw [← hW6]; exact only10 _ _ _ _ _ _ _ _ _ _
             have hq5 := HK.out.2.2.1.later hb5
             have hx5 := HK.out.2.1.later hb5
             have hbb5 := HK.out.2.2.2.2.trans (hb5.mono HK.out.2.2.2.2.size)
             have HK6 : Hid (Kept w R r A n c ⟨gn, e.p, e.pen, e.wrap⟩ (e.g.row : Int) (e.g.col : Int) W6 A6 cap6 N6 ln6 cn6 H6 lh6 ch6) := ⟨by rw [← hW6]; exact put10 hp5 _ _ _ _ _ _ _ _ _ _, hx5.same (ho6.block _ hx5.lt (by simp)), hq5.same (ho6.block _ hq5.lt (by simp; omega)), hd5.only ho6 hp5, ho6.below hbb5 hbb5.size (Nat.le_refl _)⟩
             clear hp5 ho6 hq5 hx5 hbb5 hd5 hb5; go_wp2
             try rw [hW6]
             go_roundw
             case rel => exact ⟨j + 1, A6, cap6, N6, ln6, cn6, H6, lh6, ch6, by have := HLT.out; omega, by have := HLT.out; go_num, by rw [HN1.out]; exact HK6.out⟩
             case measure => have := HLT.out; simp [intOf]; omega
            ·have HN1 : Hid (eraseTo e.g C 0 (blankP e.pen) (j + 1) = gj) := by unfold Hid; conv => lhs; unfold eraseTo; rw [show allRow 0 e.g.row j = false by unfold allRow; simp; omega, if_neg (by decide), hgj]
             clear hgj; go_wp2
             go_roundw
             case rel => exact ⟨j + 1, A5, cap5, N5, ln5, cn5, H5, lh5, ch5, by have := HLT.out; omega, by have := HLT.out; go_num, by rw [HN1.out]; exact HK.out⟩
             case measure => have := HLT.out; simp [intOf]; omega
           ·obtain rfl : j = R := by omega
            obtain ⟨g1, hg1⟩ : ∃ g, eraseTo e.g C 0 (blankP e.pen) j = g := ⟨_, rfl⟩
            have HRJ : Hid (g1.row = e.g.row ∧ g1.col = e.g.col) := by unfold Hid; rw [← hg1]; exact eraseTo_rc _ _ _ _ _
            have HOKJ : Hid (GOk g1 j C) := by unfold Hid; rw [← hg1]; exact eraseTo_ok HOK.out.g _ _ _
            rw [hg1] at HK HT0
            have HTT : Hid (doE e C ⟨3, r, ns⟩ = ⟨eraseOwn g1 C 0 (blankP e.pen), e.p, e.pen, e.wrap⟩) := HT0.out
            clear hg1 x0 x1 x2 lX p0 p1 p2 p3 p4 p5 p6 p7 p8 p9 lp
            obtain ⟨g2, hg2⟩ := exq (eraseG g1 (e.g.row : Int) (e.g.col : Int) (C : Int) (blankP e.pen))
            have HGN := hide hg2
            have HRN : Hid (g2.row = e.g.row ∧ g2.col = e.g.col) := by unfold Hid; rw [← hg2]; have := erase_row g1 (e.g.row : Int) (e.g.col : Int) (C : Int) (blankP e.pen); exact ⟨this.1.trans HRJ.out.1, this.2.trans HRJ.out.2⟩
            have HT : Hid (doE e C ⟨3, r, ns⟩ = ⟨g2, e.p, e.pen, e.wrap⟩) := by unfold Hid; rw [HTT.out]; unfold eraseOwn; rw [HRJ.out.1, HRJ.out.2]; rw [if_pos rfl, hg2]
            clear hg2
            have hcall : Calls Tryz.prog 58 #[.agg #[.slice A5 j cap5, .int .i64 e.g.row, .int .i64 e.g.col, .int .i64 e.p.st, .slice N5 ln5 cn5, .slice H5 lh5 ch5, .int .u8 e.pen.f, .int .u8 e.pen.g, .int .u8 e.pen.b, .bool e.wrap], .int .i64 e.g.row, .int .i64 e.g.col, .int .i64 C] wr (GaveM j ⟨g2, e.p, e.pen, e.wrap⟩ wr) := by
             have := rerase9_any (e := ⟨g1, e.p, e.pen, e.wrap⟩) HK.out.2.2.2.1 ⟨HOKJ.out, HOK.out.p, HOK.out.pen⟩ (e.g.row : Int) (e.g.col : Int) (C : Int)
             simp only [HRJ.out.1, HRJ.out.2] at this
             rw [show eraseG g1 (e.g.row : Int) (e.g.col : Int) (C : Int) (blankP (⟨g1, e.p, e.pen, e.wrap⟩ : Em).pen) = g2 from HGN.out] at this
             exact this
            obtain ⟨p0, p1, p2, p3, p4, p5, p6, p7, p8, p9, lp⟩ := cells10 HK.out.1
            go_wp2_with fail
            refine hcall.mono ?_
            rintro x k5 hx
            obtain ⟨A6, cap6, N6, ln6, cn6, H6, lh6, ch6, rfl, hd5, hb5⟩ := hx.lit
            simp only [HRN.out.1, HRN.out.2]
            clear hcall hx p0 p1 p2 p3 p4 p5 p6 p7 p8 p9 lp
            have hp5 := HK.out.1.later hb5
            obtain ⟨p0, p1, p2, p3, p4, p5, p6, p7, p8, p9, lp⟩ := cells10 hp5
            have zp5 := hp5.frozen
            obtain ⟨W6, hW6⟩ := exq (((((((((((k5.setCell ⟨w.heap.size, 0, none⟩ (.slice A6 j cap6)).setCell ⟨w.heap.size, 1, none⟩ (.int .i64 e.g.row)).setCell ⟨w.heap.size, 2, none⟩ (.int .i64 e.g.col)).setCell ⟨w.heap.size, 3, none⟩ (.int .i64 e.p.st)).setCell ⟨w.heap.size, 4, none⟩ (.slice N6 ln6 cn6)).setCell ⟨w.heap.size, 5, none⟩ (.slice H6 lh6 ch6)).setCell ⟨w.heap.size, 6, none⟩ (.int .u8 e.pen.f)).setCell ⟨w.heap.size, 7, none⟩ (.int .u8 e.pen.g)).setCell ⟨w.heap.size, 8, none⟩ (.int .u8 e.pen.b)).setCell ⟨w.heap.size, 9, none⟩ (.bool e.wrap)))
            have ho6 : Only w.heap.size k5 W6 := by rw [← hW6]; exact only10 _ _ _ _ _ _ _ _ _ _
            have hq5 := HK.out.2.2.1.later hb5
            have hx5 := HK.out.2.1.later hb5
            have hbb5 := HK.out.2.2.2.2.trans (hb5.mono HK.out.2.2.2.2.size)
            have HK6 : Hid (Kept w j r A n c ⟨g2, e.p, e.pen, e.wrap⟩ (e.g.row : Int) (e.g.col : Int) W6 A6 cap6 N6 ln6 cn6 H6 lh6 ch6) := ⟨by rw [← hW6]; exact put10 hp5 _ _ _ _ _ _ _ _ _ _, hx5.same (ho6.block _ hx5.lt (by simp)), hq5.same (ho6.block _ hq5.lt (by simp; omega)), hd5.only ho6 hp5, ho6.below hbb5 hbb5.size (Nat.le_refl _)⟩
            clear hp5 ho6 hq5 hx5 hbb5 hd5 hb5
            go_upto_region 42 with fail
            try rw [hW6]
            clear hW6; clear zp5 p0 p1 p2 p3 p4 p5 p6 p7 p8 p9 lp
            obtain ⟨p0, p1, p2, p3, p4, p5, p6, p7, p8, p9, lp⟩ := cells10 HK6.out.1
            obtain ⟨r0, r1, r2, r3, r4, r5, r6, r7, r8, r9, lr⟩ := cells10 HK6.out.2.2.1
            have zq := HK6.out.2.2.1.frozen
            go_wp2
            try rw [HT.out]
            simp only [← HRN.out.1, ← HRN.out.2]
            exact retDoc (e := ⟨g2, e.p, e.pen, e.wrap⟩) Tryz.results22 rfl rfl HK6.out.2.2.1 ⟨A6, cap6, N6, ln6, cn6, H6, lh6, ch6⟩ HK6.out.2.2.2.1 HK6.out.2.2.2.2 (by omega)
         ·by_cases k1 : kk = 1
          ·subst k1
           go_wp2
           go_loopw [9] (fun i wr => ∃ (j : Nat) (A5 : Option Addr) (cap5 : Nat) (N5 : Option Addr) (ln5 cn5 : Nat) (H5 : Option Addr) (lh5 ch5 : Nat), j ≤ R ∧ i = .int .i64 j ∧ Kept w R r A n c ⟨eraseTo e.g C 1 (blankP e.pen) j, e.p, e.pen, e.wrap⟩ (e.g.row : Int) (e.g.col : Int) wr A5 cap5 N5 ln5 cn5 H5 lh5 ch5) (fun i _ => R - (intOf i).toNat)
           case atStart => exact ⟨0, d.A, d.cap, d.N, d.ln, d.cn, d.H, d.lh, d.ch, Nat.zero_le _, rfl, HKE.out⟩
           case round =>
            obtain ⟨j, A5, cap5, N5, ln5, cn5, H5, lh5, ch5, hj, rfl, hke⟩ := hrel
            have HK := hide hke; clear hke; clear x0 x1 x2 lX p0 p1 p2 p3 p4 p5 p6 p7 p8 p9 lp
            obtain ⟨x0, x1, x2, lX⟩ := cells3 HK.out.2.1
            obtain ⟨p0, p1, p2, p3, p4, p5, p6, p7, p8, p9, lp⟩ := cells10 HK.out.1
            by_cases hlt : j < R
            ·have HLT := hide hlt
             obtain ⟨gj, hgj⟩ : ∃ g, eraseTo e.g C 1 (blankP e.pen) j = g := ⟨_, rfl⟩
             have HRJ : Hid (gj.row = e.g.row ∧ gj.col = e.g.col) := by unfold Hid; rw [← hgj]; exact eraseTo_rc _ _ _ _ _
             have HOKJ : Hid (GOk gj R C) := by unfold Hid; rw [← hgj]; exact eraseTo_ok HOK.out.g _ _ _
             rw [hgj] at HK
             by_cases hb : j < e.g.row
             ·obtain ⟨gn, hgn⟩ : ∃ g, eraseG gj (j : Int) 0 (C : Int) (blankP e.pen) = g := ⟨_, rfl⟩
              have HGN := hide hgn
              have HN1 : Hid (eraseTo e.g C 1 (blankP e.pen) (j + 1) = gn) := by unfold Hid; conv => lhs; unfold eraseTo; rw [show allRow 1 e.g.row j = true by unfold allRow; simp; exact hb, if_pos rfl, hgj, hgn]
              have HRN : Hid (gn.row = e.g.row ∧ gn.col = e.g.col) := by unfold Hid; rw [← HN1.out]; exact eraseTo_rc _ _ _ _ _
              clear hgj hgn p0 p1 p2 p3 p4 p5 p6 p7 p8 p9 lp
              have hcall : Calls Tryz.prog 58 #[.agg #[.slice A5 R cap5, .int .i64 e.g.row, .int .i64 e.g.col, .int .i64 e.p.st, .slice N5 ln5 cn5, .slice H5 lh5 ch5, .int .u8 e.pen.f, .int .u8 e.pen.g, .int .u8 e.pen.b, .bool e.wrap], .int .i64 j, .int .i64 0, .int .i64 C] wr (GaveM R ⟨gn, e.p, e.pen, e.wrap⟩ wr) := by
               have := rerase9_any (e := ⟨gj, e.p, e.pen, e.wrap⟩) HK.out.2.2.2.1 ⟨HOKJ.out, HOK.out.p, HOK.out.pen⟩ (j : Int) 0 (C : Int)
               simp only [HRJ.out.1, HRJ.out.2] at this
               rw [show eraseG gj (j : Int) 0 (C : Int) (blankP (⟨gj, e.p, e.pen, e.wrap⟩ : Em).pen) = gn from HGN.out] at this
               exact this
              obtain ⟨p0, p1, p2, p3, p4, p5, p6, p7, p8, p9, lp⟩ := cells10 HK.out.1
              go_wp2_with fail
              refine hcall.mono ?_
              rintro x k5 hx
              obtain ⟨A6, cap6, N6, ln6, cn6, H6, lh6, ch6, rfl, hd5, hb5⟩ := hx.lit
              simp only [HRN.out.1, HRN.out.2]
              clear hcall hx p0 p1 p2 p3 p4 p5 p6 p7 p8 p9 lp
              have hp5 := HK.out.1.later hb5
              obtain ⟨p0, p1, p2, p3, p4, p5, p6, p7, p8, p9, lp⟩ := cells10 hp5
              have zp5 := hp5.frozen
              obtain ⟨W6, hW6⟩ := exq (((((((((((k5.setCell ⟨w.heap.size, 0, none⟩ (.slice A6 R cap6)).setCell ⟨w.heap.size, 1, none⟩ (.int .i64 e.g.row)).setCell ⟨w.heap.size, 2, none⟩ (.int .i64 e.g.col)).setCell ⟨w.heap.size, 3, none⟩ (.int .i64 e.p.st)).setCell ⟨w.heap.size, 4, none⟩ (.slice N6 ln6 cn6)).setCell ⟨w.heap.size, 5, none⟩ (.slice H6 lh6 ch6)).setCell ⟨w.heap.size, 6, none⟩ (.int .u8 e.pen.f)).setCell ⟨w.heap.size, 7, none⟩ (.int .u8 e.pen.g)).setCell ⟨w.heap.size, 8, none⟩ (.int .u8 e.pen.b)).setCell ⟨w.heap.size, 9, none⟩ (.bool e.wrap)))
              have ho6 : Only w.heap.size k5 W6 := by rw [← hW6]; exact only10 _ _ _ _ _ _ _ _ _ _
              have hq5 := HK.out.2.2.1.later hb5
              have hx5 := HK.out.2.1.later hb5
              have hbb5 := HK.out.2.2.2.2.trans (hb5.mono HK.out.2.2.2.2.size)
              have HK6 : Hid (Kept w R r A n c ⟨gn, e.p, e.pen, e.wrap⟩ (e.g.row : Int) (e.g.col : Int) W6 A6 cap6 N6 ln6 cn6 H6 lh6 ch6) := ⟨by rw [← hW6]; exact put10 hp5 _ _ _ _ _ _ _ _ _ _, hx5.same (ho6.block _ hx5.lt (by simp)), hq5.same (ho6.block _ hq5.lt (by simp; omega)), hd5.only ho6 hp5, ho6.below hbb5 hbb5.size (Nat.le_refl _)⟩
              clear hp5 ho6 hq5 hx5 hbb5 hd5 hb5; go_wp2
              try rw [hW6]
              go_roundw
              case rel => exact ⟨j + 1, A6, cap6, N6, ln6, cn6, H6, lh6, ch6, by have := HLT.out; omega, by have := HLT.out; go_num, by rw [HN1.out]; exact HK6.out⟩
              case measure => have := HLT.out; simp [intOf]; omega
             ·have HN1 : Hid (eraseTo e.g C 1 (blankP e.pen) (j + 1) = gj) := by unfold Hid; conv => lhs; unfold eraseTo; rw [show allRow 1 e.g.row j = false by unfold allRow; simp; omega, if_neg (by decide), hgj]
              clear hgj; go_wp2
              go_roundw
              case rel => exact ⟨j + 1, A5, cap5, N5, ln5, cn5, H5, lh5, ch5, by have := HLT.out; omega, by have := HLT.out; go_num, by rw [HN1.out]; exact HK.out⟩
              case measure => have := HLT.out; simp [intOf]; omega
            ·obtain rfl : j = R := by omega
             obtain ⟨g1, hg1⟩ : ∃ g, eraseTo e.g C 1 (blankP e.pen) j = g := ⟨_, rfl⟩
             have HRJ : Hid (g1.row = e.g.row ∧ g1.col = e.g.col) := by unfold Hid; rw [← hg1]; exact eraseTo_rc _ _ _ _ _
             have HOKJ : Hid (GOk g1 j C) := by unfold Hid; rw [← hg1]; exact eraseTo_ok HOK.out.g _ _ _
             rw [hg1] at HK HT0
             have HTT : Hid (doE e C ⟨3, r, ns⟩ = ⟨eraseOwn g1 C 1 (blankP e.pen), e.p, e.pen, e.wrap⟩) := HT0.out
             clear hg1 x0 x1 x2 lX p0 p1 p2 p3 p4 p5 p6 p7 p8 p9 lp
             obtain ⟨g2, hg2⟩ := exq (eraseG g1 (e.g.row : Int) 0 ((e.g.col : Int) + 1) (blankP e.pen))
             have HGN := hide hg2
             have HRN : Hid (g2.row = e.g.row ∧ g2.col = e.g.col) := by unfold Hid; rw [← hg2]; have := erase_row g1 (e.g.row : Int) 0 ((e.g.col : Int) + 1) (blankP e.pen); exact ⟨this.1.trans HRJ.out.1, this.2.trans HRJ.out.2⟩
             have HT : Hid (doE e C ⟨3, r, ns⟩ = ⟨g2, e.p, e.pen, e.wrap⟩) := by unfold Hid; rw [HTT.out]; unfold eraseOwn; rw [HRJ.out.1, HRJ.out.2]; rw [if_neg (by decide), if_pos rfl, hg2]
             clear hg2
             have hcall : Calls Tryz.prog 58 #[.agg #[.slice A5 j cap5, .int .i64 e.g.row, .int .i64 e.g.col, .int .i64 e.p.st, .slice N5 ln5 cn5, .slice H5 lh5 ch5, .int .u8 e.pen.f, .int .u8 e.pen.g, .int .u8 e.pen.b, .bool e.wrap], .int .i64 e.g.row, .int .i64 0, .int .i64 ((e.g.col : Int) + 1)] wr (GaveM j ⟨g2, e.p, e.pen, e.wrap⟩ wr) := by
              have := rerase9_any (e := ⟨g1, e.p, e.pen, e.wrap⟩) HK.out.2.2.2.1 ⟨HOKJ.out, HOK.out.p, HOK.out.pen⟩ (e.g.row : Int) 0 ((e.g.col : Int) + 1)
              simp only [HRJ.out.1, HRJ.out.2] at this
              rw [show eraseG g1 (e.g.row : Int) 0 ((e.g.col : Int) + 1) (blankP (⟨g1, e.p, e.pen, e.wrap⟩ : Em).pen) = g2 from HGN.out] at this
              exact this
             obtain ⟨p0, p1, p2, p3, p4, p5, p6, p7, p8, p9, lp⟩ := cells10 HK.out.1
             go_wp2_with fail
             refine hcall.mono ?_
             rintro x k5 hx
             obtain ⟨A6, cap6, N6, ln6, cn6, H6, lh6, ch6, rfl, hd5, hb5⟩ := hx.lit
             simp only [HRN.out.1, HRN.out.2]
             clear hcall hx p0 p1 p2 p3 p4 p5 p6 p7 p8 p9 lp
             have hp5 := HK.out.1.later hb5
             obtain ⟨p0, p1, p2, p3, p4, p5, p6, p7, p8, p9, lp⟩ := cells10 hp5
             have zp5 := hp5.frozen
             obtain ⟨W6, hW6⟩ := exq (((((((((((k5.setCell ⟨w.heap.size, 0, none⟩ (.slice A6 j cap6)).setCell ⟨w.heap.size, 1, none⟩ (.int .i64 e.g.row)).setCell ⟨w.heap.size, 2, none⟩ (.int .i64 e.g.col)).setCell ⟨w.heap.size, 3, none⟩ (.int .i64 e.p.st)).setCell ⟨w.heap.size, 4, none⟩ (.slice N6 ln6 cn6)).setCell ⟨w.heap.size, 5, none⟩ (.slice H6 lh6 ch6)).setCell ⟨w.heap.size, 6, none⟩ (.int .u8 e.pen.f)).setCell ⟨w.heap.size, 7, none⟩ (.int .u8 e.pen.g)).setCell ⟨w.heap.size, 8, none⟩ (.int .u8 e.pen.b)).setCell ⟨w.heap.size, 9, none⟩ (.bool e.wrap)))
             have ho6 : Only w.heap.size k5 W6 := by rw [← hW6]; exact only10 _ _ _ _ _ _ _ _ _ _
             have hq5 := HK.out.2.2.1.later hb5
             have hx5 := HK.out.2.1.later hb5
             have hbb5 := HK.out.2.2.2.2.trans (hb5.mono HK.out.2.2.2.2.size)
             have HK6 : Hid (Kept w j r A n c ⟨g2, e.p, e.pen, e.wrap⟩ (e.g.row : Int) (e.g.col : Int) W6 A6 cap6 N6 ln6 cn6 H6 lh6 ch6) := ⟨by rw [← hW6]; exact put10 hp5 _ _ _ _ _ _ _ _ _ _, hx5.same (ho6.block _ hx5.lt (by simp)), hq5.same (ho6.block _ hq5.lt (by simp; omega)), hd5.only ho6 hp5, ho6.below hbb5 hbb5.size (Nat.le_refl _)⟩
             clear hp5 ho6 hq5 hx5 hbb5 hd5 hb5
             go_upto_region 44 with fail
             try rw [hW6]
             clear hW6; clear zp5 p0 p1 p2 p3 p4 p5 p6 p7 p8 p9 lp
             obtain ⟨p0, p1, p2, p3, p4, p5, p6, p7, p8, p9, lp⟩ := cells10 HK6.out.1
             obtain ⟨r0, r1, r2, r3, r4, r5, r6, r7, r8, r9, lr⟩ := cells10 HK6.out.2.2.1
             have zq := HK6.out.2.2.1.frozen
             go_wp2
             try rw [HT.out]
             simp only [← HRN.out.1, ← HRN.out.2]
             exact retDoc (e := ⟨g2, e.p, e.pen, e.wrap⟩) Tryz.results22 rfl rfl HK6.out.2.2.1 ⟨A6, cap6, N6, ln6, cn6, H6, lh6, ch6⟩ HK6.out.2.2.2.1 HK6.out.2.2.2.2 (by omega)
          ·by_cases k2 : kk = 2
           ·subst k2
            go_wp2
            go_loopw [9] (fun i wr => ∃ (j : Nat) (A5 : Option Addr) (cap5 : Nat) (N5 : Option Addr) (ln5 cn5 : Nat) (H5 : Option Addr) (lh5 ch5 : Nat), j ≤ R ∧ i = .int .i64 j ∧ Kept w R r A n c ⟨eraseTo e.g C 2 (blankP e.pen) j, e.p, e.pen, e.wrap⟩ (e.g.row : Int) (e.g.col : Int) wr A5 cap5 N5 ln5 cn5 H5 lh5 ch5) (fun i _ => R - (intOf i).toNat)
            case atStart => exact ⟨0, d.A, d.cap, d.N, d.ln, d.cn, d.H, d.lh, d.ch, Nat.zero_le _, rfl, HKE.out⟩
            case round =>
             obtain ⟨j, A5, cap5, N5, ln5, cn5, H5, lh5, ch5, hj, rfl, hke⟩ := hrel
             have HK := hide hke; clear hke; clear x0 x1 x2 lX p0 p1 p2 p3 p4 p5 p6 p7 p8 p9 lp
             obtain ⟨x0, x1, x2, lX⟩ := cells3 HK.out.2.1
             obtain ⟨p0, p1, p2, p3, p4, p5, p6, p7, p8, p9, lp⟩ := cells10 HK.out.1
             by_cases hlt : j < R
             ·have HLT := hide hlt
              obtain ⟨gj, hgj⟩ : ∃ g, eraseTo e.g C 2 (blankP e.pen) j = g := ⟨_, rfl⟩
              have HRJ : Hid (gj.row = e.g.row ∧ gj.col = e.g.col) := by unfold Hid; rw [← hgj]; exact eraseTo_rc _ _ _ _ _
              have HOKJ : Hid (GOk gj R C) := by unfold Hid; rw [← hgj]; exact eraseTo_ok HOK.out.g _ _ _
              rw [hgj] at HK
              obtain ⟨gn, hgn⟩ : ∃ g, eraseG gj (j : Int) 0 (C : Int) (blankP e.pen) = g := ⟨_, rfl⟩
              have HGN := hide hgn
              have HN1 : Hid (eraseTo e.g C 2 (blankP e.pen) (j + 1) = gn) := by unfold Hid; conv => lhs; unfold eraseTo; rw [show allRow 2 e.g.row j = true by unfold allRow; simp, if_pos rfl, hgj, hgn]
              have HRN : Hid (gn.row = e.g.row ∧ gn.col = e.g.col) := by unfold Hid; rw [← HN1.out]; exact eraseTo_rc _ _ _ _ _
              clear hgj hgn p0 p1 p2 p3 p4 p5 p6 p7 p8 p9 lp
              have hcall : Calls Tryz.prog 58 #[.agg #[.slice A5 R cap5, .int .i64 e.g.row, .int .i64 e.g.col, .int .i64 e.p.st, .slice N5 ln5 cn5, .slice H5 lh5 ch5, .int .u8 e.pen.f, .int .u8 e.pen.g, .int .u8 e.pen.b, .bool e.wrap], .int .i64 j, .int .i64 0, .int .i64 C] wr (GaveM R ⟨gn, e.p, e.pen, e.wrap⟩ wr) := by
               have := rerase9_any (e := ⟨gj, e.p, e.pen, e.wrap⟩) HK.out.2.2.2.1 ⟨HOKJ.out, HOK.out.p, HOK.out.pen⟩ (j : Int) 0 (C : Int)
               simp only [HRJ.out.1, HRJ.out.2] at this
               rw [show eraseG gj (j : Int) 0 (C : Int) (blankP (⟨gj, e.p, e.pen, e.wrap⟩ : Em).pen) = gn from HGN.out] at this
               exact this
              obtain ⟨p0, p1, p2, p3, p4, p5, p6, p7, p8, p9, lp⟩ := cells10 HK.out.1
              go_wp2_with fail
              refine hcall.mono ?_
              rintro x k5 hx
              obtain ⟨A6, cap6, N6, ln6, cn6, H6, lh6, ch6, rfl, hd5, hb5⟩ := hx.lit
              simp only [HRN.out.1, HRN.out.2]
              clear hcall hx p0 p1 p2 p3 p4 p5 p6 p7 p8 p9 lp
              have hp5 := HK.out.1.later hb5
              obtain ⟨p0, p1, p2, p3, p4, p5, p6, p7, p8, p9, lp⟩ := cells10 hp5
              have zp5 := hp5.frozen
              obtain ⟨W6, hW6⟩ := exq (((((((((((k5.setCell ⟨w.heap.size, 0, none⟩ (.slice A6 R cap6)).setCell ⟨w.heap.size, 1, none⟩ (.int .i64 e.g.row)).setCell ⟨w.heap.size, 2, none⟩ (.int .i64 e.g.col)).setCell ⟨w.heap.size, 3, none⟩ (.int .i64 e.p.st)).setCell ⟨w.heap.size, 4, none⟩ (.slice N6 ln6 cn6)).setCell ⟨w.heap.size, 5, none⟩ (.slice H6 lh6 ch6)).setCell ⟨w.heap.size, 6, none⟩ (.int .u8 e.pen.f)).setCell ⟨w.heap.size, 7, none⟩ (.int .u8 e.pen.g)).setCell ⟨w.heap.size, 8, none⟩ (.int .u8 e.pen.b)).setCell ⟨w.heap.size, 9, none⟩ (.bool e.wrap)))
              have ho6 : Only w.heap.size k5 W6 := by rw [← hW6]; exact only10 _ _ _ _ _ _ _ _ _ _
              have hq5 := HK.out.2.2.1.later hb5
              have hx5 := HK.out.2.1.later hb5
              have hbb5 := HK.out.2.2.2.2.trans (hb5.mono HK.out.2.2.2.2.size)
              have HK6 : Hid (Kept w R r A n c ⟨gn, e.p, e.pen, e.wrap⟩ (e.g.row : Int) (e.g.col : Int) W6 A6 cap6 N6 ln6 cn6 H6 lh6 ch6) := ⟨by rw [← hW6]; exact put10 hp5 _ _ _ _ _ _ _ _ _ _, hx5.same (ho6.block _ hx5.lt (by simp)), hq5.same (ho6.block _ hq5.lt (by simp; omega)), hd5.only ho6 hp5, ho6.below hbb5 hbb5.size (Nat.le_refl _)⟩
              clear hp5 ho6 hq5 hx5 hbb5 hd5 hb5; go_wp2
              try rw [hW6]
              go_roundw
              case rel => exact ⟨j + 1, A6, cap6, N6, ln6, cn6, H6, lh6, ch6, by have := HLT.out; omega, by have := HLT.out; go_num, by rw [HN1.out]; exact HK6.out⟩
              case measure => have := HLT.out; simp [intOf]; omega
             ·obtain rfl : j = R := by omega
              obtain ⟨g1, hg1⟩ : ∃ g, eraseTo e.g C 2 (blankP e.pen) j = g := ⟨_, rfl⟩
              have HRJ : Hid (g1.row = e.g.row ∧ g1.col = e.g.col) := by unfold Hid; rw [← hg1]; exact eraseTo_rc _ _ _ _ _
              have HOKJ : Hid (GOk g1 j C) := by unfold Hid; rw [← hg1]; exact eraseTo_ok HOK.out.g _ _ _
              rw [hg1] at HK HT0
              have HTT : Hid (doE e C ⟨3, r, ns⟩ = ⟨eraseOwn g1 C 2 (blankP e.pen), e.p, e.pen, e.wrap⟩) := HT0.out
              clear hg1 x0 x1 x2 lX p0 p1 p2 p3 p4 p5 p6 p7 p8 p9 lp
              obtain ⟨g2, hg2⟩ := exq (eraseG g1 (e.g.row : Int) 0 (C : Int) (blankP e.pen))
              have HGN := hide hg2
              have HRN : Hid (g2.row = e.g.row ∧ g2.col = e.g.col) := by unfold Hid; rw [← hg2]; have := erase_row g1 (e.g.row : Int) 0 (C : Int) (blankP e.pen); exact ⟨this.1.trans HRJ.out.1, this.2.trans HRJ.out.2⟩
              have HT : Hid (doE e C ⟨3, r, ns⟩ = ⟨g2, e.p, e.pen, e.wrap⟩) := by unfold Hid; rw [HTT.out]; unfold eraseOwn; rw [HRJ.out.1, HRJ.out.2]; rw [if_neg (by decide), if_neg (by decide), if_pos rfl, hg2]
              clear hg2
              have hcall : Calls Tryz.prog 58 #[.agg #[.slice A5 j cap5, .int .i64 e.g.row, .int .i64 e.g.col, .int .i64 e.p.st, .slice N5 ln5 cn5, .slice H5 lh5 ch5, .int .u8 e.pen.f, .int .u8 e.pen.g, .int .u8 e.pen.b, .bool e.wrap], .int .i64 e.g.row, .int .i64 0, .int .i64 C] wr (GaveM j ⟨g2, e.p, e.pen, e.wrap⟩ wr) := by
               have := rerase9_any (e := ⟨g1, e.p, e.pen, e.wrap⟩) HK.out.2.2.2.1 ⟨HOKJ.out, HOK.out.p, HOK.out.pen⟩ (e.g.row : Int) 0 (C : Int)
               simp only [HRJ.out.1, HRJ.out.2] at this
               rw [show eraseG g1 (e.g.row : Int) 0 (C : Int) (blankP (⟨g1, e.p, e.pen, e.wrap⟩ : Em).pen) = g2 from HGN.out] at this
               exact this
              obtain ⟨p0, p1, p2, p3, p4, p5, p6, p7, p8, p9, lp⟩ := cells10 HK.out.1
              go_wp2_with fail
              refine hcall.mono ?_
              rintro x k5 hx
              obtain ⟨A6, cap6, N6, ln6, cn6, H6, lh6, ch6, rfl, hd5, hb5⟩ := hx.lit
              simp only [HRN.out.1, HRN.out.2]
              clear hcall hx p0 p1 p2 p3 p4 p5 p6 p7 p8 p9 lp
              have hp5 := HK.out.1.later hb5
              obtain ⟨p0, p1, p2, p3, p4, p5, p6, p7, p8, p9, lp⟩ := cells10 hp5
              have zp5 := hp5.frozen
              obtain ⟨W6, hW6⟩ := exq (((((((((((k5.setCell ⟨w.heap.size, 0, none⟩ (.slice A6 j cap6)).setCell ⟨w.heap.size, 1, none⟩ (.int .i64 e.g.row)).setCell ⟨w.heap.size, 2, none⟩ (.int .i64 e.g.col)).setCell ⟨w.heap.size, 3, none⟩ (.int .i64 e.p.st)).setCell ⟨w.heap.size, 4, none⟩ (.slice N6 ln6 cn6)).setCell ⟨w.heap.size, 5, none⟩ (.slice H6 lh6 ch6)).setCell ⟨w.heap.size, 6, none⟩ (.int .u8 e.pen.f)).setCell ⟨w.heap.size, 7, none⟩ (.int .u8 e.pen.g)).setCell ⟨w.heap.size, 8, none⟩ (.int .u8 e.pen.b)).setCell ⟨w.heap.size, 9, none⟩ (.bool e.wrap)))
              have ho6 : Only w.heap.size k5 W6 := by rw [← hW6]; exact only10 _ _ _ _ _ _ _ _ _ _
              have hq5 := HK.out.2.2.1.later hb5
              have hx5 := HK.out.2.1.later hb5
              have hbb5 := HK.out.2.2.2.2.trans (hb5.mono HK.out.2.2.2.2.size)
              have HK6 : Hid (Kept w j r A n c ⟨g2, e.p, e.pen, e.wrap⟩ (e.g.row : Int) (e.g.col : Int) W6 A6 cap6 N6 ln6 cn6 H6 lh6 ch6) := ⟨by rw [← hW6]; exact put10 hp5 _ _ _ _ _ _ _ _ _ _, hx5.same (ho6.block _ hx5.lt (by simp)), hq5.same (ho6.block _ hq5.lt (by simp; omega)), hd5.only ho6 hp5, ho6.below hbb5 hbb5.size (Nat.le_refl _)⟩
              clear hp5 ho6 hq5 hx5 hbb5 hd5 hb5
              go_upto_region 53 with fail
              try rw [hW6]
              clear hW6; clear zp5 p0 p1 p2 p3 p4 p5 p6 p7 p8 p9 lp
              obtain ⟨p0, p1, p2, p3, p4, p5, p6, p7, p8, p9, lp⟩ := cells10 HK6.out.1
              obtain ⟨r0, r1, r2, r3, r4, r5, r6, r7, r8, r9, lr⟩ := cells10 HK6.out.2.2.1
              have zq := HK6.out.2.2.1.frozen
              go_wp2
              try rw [HT.out]
              simp only [← HRN.out.1, ← HRN.out.2]
              exact retDoc (e := ⟨g2, e.p, e.pen, e.wrap⟩) Tryz.results22 rfl rfl HK6.out.2.2.1 ⟨A6, cap6, N6, ln6, cn6, H6, lh6, ch6⟩ HK6.out.2.2.2.1 HK6.out.2.2.2.2 (by omega)
           ·have e0 : (kk == 0) = false := by simp [k0]
            have e1 : (kk == 1) = false := by simp [k1]
            have e2 : (kk == 2) = false := by simp [k2]
            go_wp2
            go_loopw [9] (fun i wr => ∃ (j : Nat) (A5 : Option Addr) (cap5 : Nat) (N5 : Option Addr) (ln5 cn5 : Nat) (H5 : Option Addr) (lh5 ch5 : Nat), j ≤ R ∧ i = .int .i64 j ∧ Kept w R r A n c ⟨eraseTo e.g C kk (blankP e.pen) j, e.p, e.pen, e.wrap⟩ (e.g.row : Int) (e.g.col : Int) wr A5 cap5 N5 ln5 cn5 H5 lh5 ch5) (fun i _ => R - (intOf i).toNat)
            case atStart => exact ⟨0, d.A, d.cap, d.N, d.ln, d.cn, d.H, d.lh, d.ch, Nat.zero_le _, rfl, HKE.out⟩
            case round =>
             obtain ⟨j, A5, cap5, N5, ln5, cn5, H5, lh5, ch5, hj, rfl, hke⟩ := hrel
             have HK := hide hke; clear hke; clear x0 x1 x2 lX p0 p1 p2 p3 p4 p5 p6 p7 p8 p9 lp
             obtain ⟨x0, x1, x2, lX⟩ := cells3 HK.out.2.1
             obtain ⟨p0, p1, p2, p3, p4, p5, p6, p7, p8, p9, lp⟩ := cells10 HK.out.1
             by_cases hlt : j < R
             ·have HLT := hide hlt
              obtain ⟨gj, hgj⟩ : ∃ g, eraseTo e.g C kk (blankP e.pen) j = g := ⟨_, rfl⟩
              have HRJ : Hid (gj.row = e.g.row ∧ gj.col = e.g.col) := by unfold Hid; rw [← hgj]; exact eraseTo_rc _ _ _ _ _
              have HOKJ : Hid (GOk gj R C) := by unfold Hid; rw [← hgj]; exact eraseTo_ok HOK.out.g _ _ _
              rw [hgj] at HK
              have HN1 : Hid (eraseTo e.g C kk (blankP e.pen) (j + 1) = gj) := by unfold Hid; conv => lhs; unfold eraseTo; rw [show allRow kk e.g.row j = false by unfold allRow; simp [k0, k1, k2], if_neg (by decide), hgj]
              clear hgj; go_wp2
              go_roundw
              case rel => exact ⟨j + 1, A5, cap5, N5, ln5, cn5, H5, lh5, ch5, by have := HLT.out; omega, by have := HLT.out; go_num, by rw [HN1.out]; exact HK.out⟩
              case measure => have := HLT.out; simp [intOf]; omega
             ·obtain rfl : j = R := by omega
              obtain ⟨g1, hg1⟩ : ∃ g, eraseTo e.g C kk (blankP e.pen) j = g := ⟨_, rfl⟩
              have HRJ : Hid (g1.row = e.g.row ∧ g1.col = e.g.col) := by unfold Hid; rw [← hg1]; exact eraseTo_rc _ _ _ _ _
              have HOKJ : Hid (GOk g1 j C) := by unfold Hid; rw [← hg1]; exact eraseTo_ok HOK.out.g _ _ _
              rw [hg1] at HK HT0
              have HTT : Hid (doE e C ⟨3, r, ns⟩ = ⟨eraseOwn g1 C kk (blankP e.pen), e.p, e.pen, e.wrap⟩) := HT0.out
              clear hg1 x0 x1 x2 lX p0 p1 p2 p3 p4 p5 p6 p7 p8 p9 lp
              have HT : Hid (doE e C ⟨3, r, ns⟩ = ⟨g1, e.p, e.pen, e.wrap⟩) := by unfold Hid; rw [HTT.out]; unfold eraseOwn; rw [if_neg k0, if_neg k1, if_neg k2]
              obtain ⟨p0, p1, p2, p3, p4, p5, p6, p7, p8, p9, lp⟩ := cells10 HK.out.1
              obtain ⟨r0, r1, r2, r3, r4, r5, r6, r7, r8, r9, lr⟩ := cells10 HK.out.2.2.1
              have zq := HK.out.2.2.1.frozen
              go_wp2
              try rw [HT.out]
              simp only [← HRJ.out.1, ← HRJ.out.2]
              exact retDoc (e := ⟨g1, e.p, e.pen, e.wrap⟩) Tryz.results22 rfl rfl HK.out.2.2.1 ⟨A5, cap5, N5, ln5, cn5, H5, lh5, ch5⟩ HK.out.2.2.2.1 HK.out.2.2.2.2 (by omega)
end
end
end Go.Proofs.YtkijclgbpbhglaaGreatDoor
