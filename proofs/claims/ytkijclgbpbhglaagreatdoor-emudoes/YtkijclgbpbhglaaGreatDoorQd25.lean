/-
  Contracts and plain mathematics of EDoc3, EScr.
-/
import Derived.Test.YtkijclgbpbhglaaGreatDoorQd22
import Derived.Test.YtkijclgbpbhglaaGreatDoorQd24
import Derived.Deep.DeepCutAuto
import Derived.Deep.CutRange
import Derived.Test.YtkijclgbpbhglaaGreatDoorQd18
import Derived.Test.YtkijclgbpbhglaaGreatDoorQd11
namespace Go.Proofs.YtkijclgbpbhglaaGreatDoor
set_option maxRecDepth 100000
set_option linter.unusedVariables false
set_option maxHeartbeats 8000000
section
open Go.ChangeShapes Go.WideShapes Go.ChangeAt Go.RowKit
section
variable {w w' w1 : World} {d : Dv} {R C : Nat} {e : Em}
theorem redo_plain (h : Doc w d e) (hok : EOk e R C) (kd r : Int) (A : Option Addr) (n c : Nat) (ns : List Int) (hi : Ints .i64 w A ns) (hn : ns.length = n) (hr : R32 r) (h3 : kd = 3 → ¬ r = 74 ∧ ¬ r = 75 ∧ ¬ r = 109) :
  Calls Tryz.prog 22 #[.agg #[.slice d.A R d.cap, .int .i64 e.g.row, .int .i64 e.g.col, .int .i64 e.p.st, .slice d.N d.ln d.cn, .slice d.H d.lh d.ch, .int .u8 e.pen.f, .int .u8 e.pen.g, .int .u8 e.pen.b, .bool e.wrap], .agg #[.int .i64 kd, .int .i64 r, .slice A n c]] w (GaveM R (doE e C ⟨kd, r, ns⟩) w) := by
 have HR := hide hr
 obtain ⟨W0, hW0⟩ := exq (((w.alloc (.cells #[.slice d.A R d.cap, .int .i64 e.g.row, .int .i64 e.g.col, .int .i64 e.p.st, .slice d.N d.ln d.cn, .slice d.H d.lh d.ch, .int .u8 e.pen.f, .int .u8 e.pen.g, .int .u8 e.pen.b, .bool e.wrap] 40)).alloc (.cells #[.int .i64 kd, .int .i64 r, .slice A n c] 60)).alloc (.cells #[.slice none 0 0, .int .i64 0, .int .i64 0, .int .i64 0, .slice none 0 0, .slice none 0 0, .int .u8 0, .int .u8 0, .int .u8 0, .bool false] 40))
 have HB0 : Hid (Below w.heap.size w W0) := by unfold Hid; rw [← hW0]; exact (two_new _ _ _ _ _).alloc (by simp; omega) _
 have HP0 : Hid (Whole W0 w.heap.size 40 [.slice d.A R d.cap, .int .i64 e.g.row, .int .i64 e.g.col, .int .i64 e.p.st, .slice d.N d.ln d.cn, .slice d.H d.lh d.ch, .int .u8 e.pen.f, .int .u8 e.pen.g, .int .u8 e.pen.b, .bool e.wrap]) := by unfold Hid; rw [← hW0]; exact ((Whole.new _ _ _).alloc _).alloc _
 have HX0 : Hid (Whole W0 (w.heap.size + 1) 60 [.int .i64 kd, .int .i64 r, .slice A n c]) := by unfold Hid; rw [← hW0]; exact (whole_snd _ _ _ _).alloc _
 have HQ0 : Hid (Whole W0 (w.heap.size + 1 + 1) 40 [.slice none 0 0, .int .i64 0, .int .i64 0, .int .i64 0, .slice none 0 0, .slice none 0 0, .int .u8 0, .int .u8 0, .int .u8 0, .bool false]) := by unfold Hid; rw [← hW0]; have := whole_snd (w.alloc (.cells #[.slice d.A R d.cap, .int .i64 e.g.row, .int .i64 e.g.col, .int .i64 e.p.st, .slice d.N d.ln d.cn, .slice d.H d.lh d.ch, .int .u8 e.pen.f, .int .u8 e.pen.g, .int .u8 e.pen.b, .bool e.wrap] 40)) (.cells #[.int .i64 kd, .int .i64 r, .slice A n c] 60) 40 [.slice none 0 0, .int .i64 0, .int .i64 0, .int .i64 0, .slice none 0 0, .slice none 0 0, .int .u8 0, .int .u8 0, .int .u8 0, .bool false]; rwa [show (w.alloc (.cells #[.slice d.A R d.cap, .int .i64 e.g.row, .int .i64 e.g.col, .int .i64 e.p.st, .slice d.N d.ln d.cn, .slice d.H d.lh d.ch, .int .u8 e.pen.f, .int .u8 e.pen.g, .int .u8 e.pen.b, .bool e.wrap] 40)).heap.size = w.heap.size + 1 by simp] at this
 have HW0 := hide hW0
 have HD0 := hide (h.below HB0.out)
 have HI0 := hide (hi.below HB0.out)
 have HN := hide hn; have HOK := hide hok; clear hW0 h hi hn
 have hR1 := hok.g.r1
 have hR2 := hok.g.r2
 have hC1 := hok.g.c1
 have hC2 := hok.g.c2
 have hrow := hok.g.row
 have hcol := hok.g.col
 have HLen := hide hok.g.len
 have HC0 := hide (hok.g.each 0 hok.g.r1).1
 clear hok
 obtain ⟨a0, ha0⟩ : ∃ a, numP ns 0 1 = a := ⟨_, rfl⟩
 obtain ⟨m0, hm0⟩ : ∃ a, numP ns 1 1 = a := ⟨_, rfl⟩
 obtain ⟨kk, hkk⟩ : ∃ a, numP ns 0 0 = a := ⟨_, rfl⟩
 obtain ⟨a1, ha1⟩ : ∃ a, max a0 1 = a := ⟨_, rfl⟩
 obtain ⟨m1, hm1⟩ : ∃ a, max m0 1 = a := ⟨_, rfl⟩
 obtain ⟨o1, ho1⟩ : ∃ a, min a1 1000 = a := ⟨_, rfl⟩
 obtain ⟨o2, ho2⟩ : ∃ a, min m1 1000 = a := ⟨_, rfl⟩
 have HO1 : Hid (oneN (nAt ns 0 1) = o1) := by unfold Hid oneN; rw [← numP_nAt, show ((0 : Nat) : Int) = 0 from rfl, ha0, ha1, ho1]
 have HO2 : Hid (oneN (nAt ns 1 1) = o2) := by unfold Hid oneN; rw [← numP_nAt, show ((1 : Nat) : Int) = 1 from rfl, hm0, hm1, ho2]
 have HKK : Hid (nAt ns 0 0 = kk) := by unfold Hid; rw [← numP_nAt, show ((0 : Nat) : Int) = 0 from rfl, hkk]
 have b1 : 1 ≤ o1 := by omega
 have b2 : o1 ≤ 1000 := by omega
 have b3 : 1 ≤ o2 := by omega
 have b4 : o2 ≤ 1000 := by omega
 have HA0 := hide ha0; have HM0 := hide hm0; have HK0 := hide hkk; have HA1 := hide ha1; have HM1 := hide hm1; have HA2 := hide ho1; have HM2 := hide ho2; clear ha0 hm0 hkk ha1 hm1 ho1 ho2
 have hne : ¬ w.heap.size = w.heap.size + 1 + 1 := by omega
 have hne2 : ¬ w.heap.size + 1 + 1 = w.heap.size := by omega
 have hne3 : ¬ w.heap.size + 1 = w.heap.size := by omega
 go_enter Tryz.func22, Tryz.ntmps22
 go_wp2_with fail
 rw [HW0.out]
 refine (rgcols_any d.A R d.cap C e.g.row e.g.col e.g.ls W0 HD0.out.lns HLen.out hR1 HC0.out).mono ?_
 rintro x k1 ⟨rfl, hb1⟩
 have HX1 := hide (HX0.out.later hb1)
 have HI1 := hide (HI0.out.below hb1)
 have HB1 := hide hb1; clear hb1
 obtain ⟨x0, x1, x2, lX⟩ := cells3 HX1.out
 go_wp2
 refine rgL (fun w' => Below k1.heap.size k1 w') 8 [(0, 0), (0, 2), (0, 4), (1, 1), (1, 3), (1, 5), (1, 6), (1, 7), (3, 8)] bd1 ?_
 refine stL (hy := fun w hS => by obtain ⟨y0, y1, y2, -⟩ := cells3 (HX1.out.later hS); go_simp <;> with_reducible rfl) (h := ?_)
 refine stL (hy := fun w hS => by obtain ⟨y0, y1, y2, -⟩ := cells3 (HX1.out.later hS); go_simp <;> with_reducible rfl) (h := ?_)
 refine stL (hy := fun w hS => by obtain ⟨y0, y1, y2, -⟩ := cells3 (HX1.out.later hS); go_simp <;> with_reducible rfl) (h := ?_)
 refine alL fun K hK => ?_
 go_wp2_with fail
 refine (rpnum_any kd r 0 1 A n c ns _ (HI1.out.drewN 1) HN.out).mono ?_
 rintro x k2 ⟨rfl, hb⟩
 rw [HA0.out]
 have B2 : Below k1.heap.size k1 k2 := bd1.trans hb
 clear hb; go_wp2
 refine hK.out _ _ (B2) ?_
 clear hK K
 refine alL fun K hK => ?_
 go_wp2_with fail
 refine (rpnum_any kd r 1 1 A n c ns _ (HI1.out.below B2) HN.out).mono ?_
 rintro x k3 ⟨rfl, hb⟩
 rw [HM0.out]
 have B3 : Below k1.heap.size k1 k3 := B2.trans (hb.mono B2.size)
 clear hb; go_wp2
 refine hK.out _ _ (B3) ?_
 clear hK K
 refine alL fun K hK => ?_
 go_wp2_with fail
 refine (rpnum_any kd r 0 0 A n c ns _ (HI1.out.below B3) HN.out).mono ?_
 rintro x k4 ⟨rfl, hb⟩
 rw [HK0.out]
 have B4 : Below k1.heap.size k1 k4 := B3.trans (hb.mono B3.size)
 clear hb; go_wp2
 refine hK.out _ _ (B4) ?_
 clear hK K
 refine alL fun K hK => ?_
 go_wp2
 refine hK.out _ _ (B4) ?_
 clear hK K
 refine alL fun K hK => ?_
 go_wp2
 refine hK.out _ _ (B4) ?_
 clear hK K
 refine laL fun K hK => ?_
 go_wp2
 refine hK.out _ _ ?_
 clear hK K
 refine chainL_nil ?_
 have HB04 : Hid (Below W0.heap.size W0 k4) := HB1.out.trans (B4.mono HB1.out.size)
 have HP4 := hide (HP0.out.later HB04.out)
 have HX4 := hide (HX0.out.later HB04.out)
 have HQ4 := hide (HQ0.out.later HB04.out)
 have HD4 := hide (HD0.out.below HB04.out)
 have HI4 := hide (HI0.out.below HB04.out)
 have HB4 : Hid (Below w.heap.size w k4) := HB0.out.trans (HB04.out.mono HB0.out.size)
 clear B2 B3 B4 x0 x1 x2 lX HW0 HP0 HX0 HQ0 HD0 HI0 HB04 HB0 HX1 HI1 HB1
 go_upto_region 3 with fail
 go_cut [22] from 21 to 22 (fun v wx => v = .bool (decide (a0 < 1)) ∧ wx = k4)
 case first =>
  by_cases hq : a0 < 1
  ·go_wp2
   go_meet
   case rel => exact ⟨by simp [hq], rfl⟩
  ·go_wp2
   go_meet
   case rel => exact ⟨by simp [hq], rfl⟩
 case rest =>
  obtain ⟨hv, hwc⟩ := hcut
  subst hv
  rw [hwc]
  clear hwc
  go_upto_if 22 with fail
  go_cut [6] from 21 to 22 (fun v wx => v = .int .i64 a1 ∧ wx = k4)
  case first =>
   by_cases hq : a0 < 1
   ·rw [decide_eq_true hq]
    go_wp2
    go_meet
    case rel => exact ⟨by rw [show a1 = 1 by have := HA1.out; omega], rfl⟩
   ·rw [decide_eq_false hq]
    go_wp2
    go_meet
    case rel => exact ⟨by rw [show a1 = a0 by have := HA1.out; omega], rfl⟩
  case rest =>
   obtain ⟨hv, hwc⟩ := hcut
   subst hv
   rw [hwc]
   clear hwc
   go_upto_region 5 with fail
   go_cut [24] from 23 to 24 (fun v wx => v = .bool (decide (1000 < a1)) ∧ wx = k4)
   case first =>
    by_cases hq : 1000 < a1
    ·go_wp2
     go_meet
     case rel => exact ⟨by simp [hq], rfl⟩
    ·go_wp2
     go_meet
     case rel => exact ⟨by simp [hq], rfl⟩
   case rest =>
    obtain ⟨hv, hwc⟩ := hcut
    subst hv
    rw [hwc]
    clear hwc
    go_upto_if 24 with fail
    go_cut [6] from 23 to 24 (fun v wx => v = .int .i64 o1 ∧ wx = k4)
    case first =>
     by_cases hq : 1000 < a1
     ·rw [decide_eq_true hq]
      go_wp2
      go_meet
      case rel => exact ⟨by rw [show o1 = 1000 by have := HA2.out; omega], rfl⟩
     ·rw [decide_eq_false hq]
      go_wp2
      go_meet
      case rel => exact ⟨by rw [show o1 = a1 by have := HA2.out; omega], rfl⟩
    case rest =>
     obtain ⟨hv, hwc⟩ := hcut
     subst hv
     rw [hwc]
     clear hwc
     go_upto_region 7 with fail
     go_cut [26] from 25 to 26 (fun v wx => v = .bool (decide (m0 < 1)) ∧ wx = k4)
     case first =>
      by_cases hq : m0 < 1
      ·go_wp2
       go_meet
       case rel => exact ⟨by simp [hq], rfl⟩
      ·go_wp2
       go_meet
       case rel => exact ⟨by simp [hq], rfl⟩
     case rest =>
      obtain ⟨hv, hwc⟩ := hcut
      subst hv
      rw [hwc]
      clear hwc
      go_upto_if 26 with fail
      go_cut [7] from 25 to 26 (fun v wx => v = .int .i64 m1 ∧ wx = k4)
      case first =>
       by_cases hq : m0 < 1
       ·rw [decide_eq_true hq]
        go_wp2
        go_meet
        case rel => exact ⟨by rw [show m1 = 1 by have := HM1.out; omega], rfl⟩
       ·rw [decide_eq_false hq]
        go_wp2
        go_meet
        case rel => exact ⟨by rw [show m1 = m0 by have := HM1.out; omega], rfl⟩
      case rest =>
       obtain ⟨hv, hwc⟩ := hcut
       subst hv
       rw [hwc]
       clear hwc
       go_upto_region 9 with fail
       go_cut [28] from 27 to 28 (fun v wx => v = .bool (decide (1000 < m1)) ∧ wx = k4)
       case first =>
        by_cases hq : 1000 < m1
        ·go_wp2
         go_meet
         case rel => exact ⟨by simp [hq], rfl⟩
        ·go_wp2
         go_meet
         case rel => exact ⟨by simp [hq], rfl⟩
       case rest =>
        obtain ⟨hv, hwc⟩ := hcut
        subst hv
        rw [hwc]
        clear hwc
        go_upto_if 28 with fail
        go_cut [7] from 27 to 28 (fun v wx => v = .int .i64 o2 ∧ wx = k4)
        case first =>
         by_cases hq : 1000 < m1
         ·rw [decide_eq_true hq]
          go_wp2
          go_meet
          case rel => exact ⟨by rw [show o2 = 1000 by have := HM2.out; omega], rfl⟩
         ·rw [decide_eq_false hq]
          go_wp2
          go_meet
          case rel => exact ⟨by rw [show o2 = m1 by have := HM2.out; omega], rfl⟩
        case rest =>
         obtain ⟨hv, hwc⟩ := hcut
         subst hv
         rw [hwc]
         clear hwc
         by_cases k1 : kd = 1
         ·subst k1
          have HT : Hid (doE e C ⟨1, r, ns⟩ = typedE e C r) := by unfold Hid doE; simp
          obtain ⟨p0, p1, p2, p3, p4, p5, p6, p7, p8, p9, lp⟩ := cells10 HP4.out
          obtain ⟨x0, x1, x2, lX⟩ := cells3 HX4.out
          go_wp2_with fail
          refine (rtyped_any HD4.out HOK.out r HR.out).mono ?_
          rintro x k5 hx
          obtain ⟨A5, cap5, N5, ln5, cn5, H5, lh5, ch5, rfl, hd5, hb5⟩ := hx.lit
          have HQ5 := hide (HQ4.out.later hb5)
          have HD5 := hide hd5
          have HB5 : Hid (Below w.heap.size w k5) := HB4.out.trans (hb5.mono HB4.out.size)
          clear hx hd5 hb5 x0 x1 x2 lX p0 p1 p2 p3 p4 p5 p6 p7 p8 p9 lp
          obtain ⟨r0, r1, r2, r3, r4, r5, r6, r7, r8, r9, lr⟩ := cells10 HQ5.out
          have zq := HQ5.out.frozen
          go_wp2
          try rw [HT.out]
          exact retDoc (e := (typedE e C r)) Tryz.results22 rfl rfl HQ5.out ⟨A5, cap5, N5, ln5, cn5, H5, lh5, ch5⟩ HD5.out HB5.out (by omega)
         ·by_cases k2 : kd = 2
          ·subst k2
           by_cases q13 : r = 13
           ·subst q13
            have HT : Hid (doE e C ⟨2, 13, ns⟩ = moveE e C (e.g.row : Int) 0) := by unfold Hid doE; simp
            obtain ⟨p0, p1, p2, p3, p4, p5, p6, p7, p8, p9, lp⟩ := cells10 HP4.out
            obtain ⟨x0, x1, x2, lX⟩ := cells3 HX4.out
            go_wp2_with fail
            refine (rmove_any HD4.out HOK.out (e.g.row : Int) 0).mono ?_
            rintro x k5 hx
            obtain ⟨A5, cap5, N5, ln5, cn5, H5, lh5, ch5, rfl, hd5, hb5⟩ := hx.lit
            have HQ5 := hide (HQ4.out.later hb5)
            have HD5 := hide hd5
            have HB5 : Hid (Below w.heap.size w k5) := HB4.out.trans (hb5.mono HB4.out.size)
            clear hx hd5 hb5 x0 x1 x2 lX p0 p1 p2 p3 p4 p5 p6 p7 p8 p9 lp
            obtain ⟨r0, r1, r2, r3, r4, r5, r6, r7, r8, r9, lr⟩ := cells10 HQ5.out
            have zq := HQ5.out.frozen
            go_wp2
            try rw [HT.out]
            exact retDoc (e := (moveE e C (e.g.row : Int) 0)) Tryz.results22 rfl rfl HQ5.out ⟨A5, cap5, N5, ln5, cn5, H5, lh5, ch5⟩ HD5.out HB5.out (by omega)
           ·by_cases q10 : r = 10
            ·subst q10
             have HT : Hid (doE e C ⟨2, 10, ns⟩ = ⟨feedG e.g C (blankP e.pen), e.p, e.pen, false⟩) := by unfold Hid doE; simp
             obtain ⟨p0, p1, p2, p3, p4, p5, p6, p7, p8, p9, lp⟩ := cells10 HP4.out
             obtain ⟨x0, x1, x2, lX⟩ := cells3 HX4.out
             obtain ⟨g5, hg5⟩ := exq (feedG e.g C (blankP e.pen))
             have hfd : Calls Tryz.prog 57 #[.agg #[.slice d.A R d.cap, .int .i64 e.g.row, .int .i64 e.g.col, .int .i64 e.p.st, .slice d.N d.ln d.cn, .slice d.H d.lh d.ch, .int .u8 e.pen.f, .int .u8 e.pen.g, .int .u8 e.pen.b, .bool e.wrap]] k4 (GaveM R ⟨g5, e.p, e.pen, e.wrap⟩ k4) := by have := rfeed9_any HD4.out HOK.out; rw [hg5] at this; exact this
             have HG5 := hide hg5; clear hg5; go_wp2_with fail
             refine hfd.mono ?_
             rintro x k5 hx
             obtain ⟨A5, cap5, N5, ln5, cn5, H5, lh5, ch5, rfl, hd5, hb5⟩ := hx.lit
             clear hfd hx x0 x1 x2 lX p0 p1 p2 p3 p4 p5 p6 p7 p8 p9 lp
             have hp5 := HP4.out.later hb5
             obtain ⟨p0, p1, p2, p3, p4, p5, p6, p7, p8, p9, lp⟩ := cells10 hp5
             have zp5 := hp5.frozen
             go_upto_region 17 with fail
             obtain ⟨W6, hW6⟩ := exq (((((((((((k5.setCell ⟨w.heap.size, 0, none⟩ (.slice A5 R cap5)).setCell ⟨w.heap.size, 1, none⟩ (.int .i64 g5.row)).setCell ⟨w.heap.size, 2, none⟩ (.int .i64 g5.col)).setCell ⟨w.heap.size, 3, none⟩ (.int .i64 e.p.st)).setCell ⟨w.heap.size, 4, none⟩ (.slice N5 ln5 cn5)).setCell ⟨w.heap.size, 5, none⟩ (.slice H5 lh5 ch5)).setCell ⟨w.heap.size, 6, none⟩ (.int .u8 e.pen.f)).setCell ⟨w.heap.size, 7, none⟩ (.int .u8 e.pen.g)).setCell ⟨w.heap.size, 8, none⟩ (.int .u8 e.pen.b)).setCell ⟨w.heap.size, 9, none⟩ (.bool e.wrap)))
             have ho6 : Only w.heap.size k5 W6 := by rw [← hW6]; exact only10 _ _ _ _ _ _ _ _ _ _
             have hp6 : Whole W6 w.heap.size 40 [.slice A5 R cap5, .int .i64 g5.row, .int .i64 g5.col, .int .i64 e.p.st, .slice N5 ln5 cn5, .slice H5 lh5 ch5, .int .u8 e.pen.f, .int .u8 e.pen.g, .int .u8 e.pen.b, .bool e.wrap] := by rw [← hW6]; exact put10 hp5 _ _ _ _ _ _ _ _ _ _
             have hd6 : Doc W6 ⟨A5, cap5, N5, ln5, cn5, H5, lh5, ch5⟩ ⟨g5, e.p, e.pen, e.wrap⟩ := hd5.only ho6 hp5
             have hq5 := HQ4.out.later hb5
             have hq6 : Whole W6 (w.heap.size + 1 + 1) 40 [.slice none 0 0, .int .i64 0, .int .i64 0, .int .i64 0, .slice none 0 0, .slice none 0 0, .int .u8 0, .int .u8 0, .int .u8 0, .bool false] := hq5.same (ho6.block _ hq5.lt (by simp; omega))
             have hx5 := HX4.out.later hb5
             have hx6 := hx5.same (ho6.block _ hx5.lt (by simp))
             have hbb5 := HB4.out.trans (hb5.mono HB4.out.size)
             have HB6 : Hid (Below w.heap.size w W6) := ho6.below hbb5 hbb5.size (Nat.le_refl _)
             try rw [hW6]
             have HB7 : Hid (Below w.heap.size w (W6.setCell ⟨w.heap.size, 9, none⟩ (.bool false))) := HB6.out.setCell (Nat.le_refl _) _
             have HD7 : Hid (Doc (W6.setCell ⟨w.heap.size, 9, none⟩ (.bool false)) ⟨A5, cap5, N5, ln5, cn5, H5, lh5, ch5⟩ ⟨g5, e.p, e.pen, false⟩) := (hd6.only (Only.put 9 _) hp6).as rfl rfl
             have HQ7 : Hid (Whole (W6.setCell ⟨w.heap.size, 9, none⟩ (.bool false)) (w.heap.size + 1 + 1) 40 [.slice none 0 0, .int .i64 0, .int .i64 0, .int .i64 0, .slice none 0 0, .slice none 0 0, .int .u8 0, .int .u8 0, .int .u8 0, .bool false]) := hq6.other hne2
             clear zp5 hbb5 hx5 hq5 hd6 ho6 hW6 hp5 hd5 hb5 p0 p1 p2 p3 p4 p5 p6 p7 p8 p9 lp
             obtain ⟨p0, p1, p2, p3, p4, p5, p6, p7, p8, p9, lp⟩ := cells10 hp6
             obtain ⟨r0, r1, r2, r3, r4, r5, r6, r7, r8, r9, lr⟩ := cells10 hq6
             obtain ⟨x0, x1, x2, lX⟩ := cells3 hx6
             have zp := hp6.frozen
             have zq := hq6.frozen
             clear hp6 hq6 hx6; go_wp2
             try rw [HT.out, HG5.out]
             exact retDoc (e := ⟨g5, e.p, e.pen, false⟩) Tryz.results22 rfl rfl HQ7.out ⟨A5, cap5, N5, ln5, cn5, H5, lh5, ch5⟩ HD7.out HB7.out (by omega)
            ·by_cases q8 : r = 8
             ·subst q8
              have HT : Hid (doE e C ⟨2, 8, ns⟩ = moveE e C (e.g.row : Int) ((e.g.col : Int) - 1)) := by unfold Hid doE; simp
              obtain ⟨p0, p1, p2, p3, p4, p5, p6, p7, p8, p9, lp⟩ := cells10 HP4.out
              obtain ⟨x0, x1, x2, lX⟩ := cells3 HX4.out
              go_wp2_with fail
              refine (rmove_any HD4.out HOK.out (e.g.row : Int) ((e.g.col : Int) - 1)).mono ?_
              rintro x k5 hx
              obtain ⟨A5, cap5, N5, ln5, cn5, H5, lh5, ch5, rfl, hd5, hb5⟩ := hx.lit
              have HQ5 := hide (HQ4.out.later hb5)
              have HD5 := hide hd5
              have HB5 : Hid (Below w.heap.size w k5) := HB4.out.trans (hb5.mono HB4.out.size)
              clear hx hd5 hb5 x0 x1 x2 lX p0 p1 p2 p3 p4 p5 p6 p7 p8 p9 lp
              obtain ⟨r0, r1, r2, r3, r4, r5, r6, r7, r8, r9, lr⟩ := cells10 HQ5.out
              have zq := HQ5.out.frozen
              go_wp2
              try rw [HT.out]
              exact retDoc (e := (moveE e C (e.g.row : Int) ((e.g.col : Int) - 1))) Tryz.results22 rfl rfl HQ5.out ⟨A5, cap5, N5, ln5, cn5, H5, lh5, ch5⟩ HD5.out HB5.out (by omega)
             ·have HT : Hid (doE e C ⟨2, r, ns⟩ = e) := by unfold Hid doE; simp [q13, q10, q8]
              have g1 : (r == 13) = false := by simp [q13]
              have g2 : (r == 10) = false := by simp [q10]
              have g3 : (r == 8) = false := by simp [q8]
              obtain ⟨p0, p1, p2, p3, p4, p5, p6, p7, p8, p9, lp⟩ := cells10 HP4.out
              obtain ⟨x0, x1, x2, lX⟩ := cells3 HX4.out
              obtain ⟨r0, r1, r2, r3, r4, r5, r6, r7, r8, r9, lr⟩ := cells10 HQ4.out
              have zq := HQ4.out.frozen
              go_wp2
              try rw [HT.out]
              exact retDoc (e := e) Tryz.results22 rfl rfl HQ4.out d HD4.out HB4.out (by omega)
          ·by_cases k3 : kd = 3
           ·subst k3
            have hx := h3 rfl
            by_cases q65 : r = 65
            ·subst q65
             have HT : Hid (doE e C ⟨3, 65, ns⟩ = moveE e C ((e.g.row : Int) - o1) (e.g.col : Int)) := by rw [← HO1.out]; unfold Hid doE; simp
             obtain ⟨p0, p1, p2, p3, p4, p5, p6, p7, p8, p9, lp⟩ := cells10 HP4.out
             obtain ⟨x0, x1, x2, lX⟩ := cells3 HX4.out
             go_wp2_with fail
             refine (rmove_any HD4.out HOK.out ((e.g.row : Int) - o1) (e.g.col : Int)).mono ?_
             rintro x k5 hx
             obtain ⟨A5, cap5, N5, ln5, cn5, H5, lh5, ch5, rfl, hd5, hb5⟩ := hx.lit
             have HQ5 := hide (HQ4.out.later hb5)
             have HD5 := hide hd5
             have HB5 : Hid (Below w.heap.size w k5) := HB4.out.trans (hb5.mono HB4.out.size)
             clear hx hd5 hb5 x0 x1 x2 lX p0 p1 p2 p3 p4 p5 p6 p7 p8 p9 lp
             obtain ⟨r0, r1, r2, r3, r4, r5, r6, r7, r8, r9, lr⟩ := cells10 HQ5.out
             have zq := HQ5.out.frozen
             go_wp2
             try rw [HT.out]
             exact retDoc (e := (moveE e C ((e.g.row : Int) - o1) (e.g.col : Int))) Tryz.results22 rfl rfl HQ5.out ⟨A5, cap5, N5, ln5, cn5, H5, lh5, ch5⟩ HD5.out HB5.out (by omega)
            ·by_cases q66 : r = 66
             ·subst q66
              have HT : Hid (doE e C ⟨3, 66, ns⟩ = moveE e C ((e.g.row : Int) + o1) (e.g.col : Int)) := by rw [← HO1.out]; unfold Hid doE; simp
              obtain ⟨p0, p1, p2, p3, p4, p5, p6, p7, p8, p9, lp⟩ := cells10 HP4.out
              obtain ⟨x0, x1, x2, lX⟩ := cells3 HX4.out
              go_wp2_with fail
              refine (rmove_any HD4.out HOK.out ((e.g.row : Int) + o1) (e.g.col : Int)).mono ?_
              rintro x k5 hx
              obtain ⟨A5, cap5, N5, ln5, cn5, H5, lh5, ch5, rfl, hd5, hb5⟩ := hx.lit
              have HQ5 := hide (HQ4.out.later hb5)
              have HD5 := hide hd5
              have HB5 : Hid (Below w.heap.size w k5) := HB4.out.trans (hb5.mono HB4.out.size)
              clear hx hd5 hb5 x0 x1 x2 lX p0 p1 p2 p3 p4 p5 p6 p7 p8 p9 lp
              obtain ⟨r0, r1, r2, r3, r4, r5, r6, r7, r8, r9, lr⟩ := cells10 HQ5.out
              have zq := HQ5.out.frozen
              go_wp2
              try rw [HT.out]
              exact retDoc (e := (moveE e C ((e.g.row : Int) + o1) (e.g.col : Int))) Tryz.results22 rfl rfl HQ5.out ⟨A5, cap5, N5, ln5, cn5, H5, lh5, ch5⟩ HD5.out HB5.out (by omega)
             ·by_cases q67 : r = 67
              ·subst q67
               have HT : Hid (doE e C ⟨3, 67, ns⟩ = moveE e C (e.g.row : Int) ((e.g.col : Int) + o1)) := by rw [← HO1.out]; unfold Hid doE; simp
               obtain ⟨p0, p1, p2, p3, p4, p5, p6, p7, p8, p9, lp⟩ := cells10 HP4.out
               obtain ⟨x0, x1, x2, lX⟩ := cells3 HX4.out
               go_wp2_with fail
               refine (rmove_any HD4.out HOK.out (e.g.row : Int) ((e.g.col : Int) + o1)).mono ?_
               rintro x k5 hx
               obtain ⟨A5, cap5, N5, ln5, cn5, H5, lh5, ch5, rfl, hd5, hb5⟩ := hx.lit
               have HQ5 := hide (HQ4.out.later hb5)
               have HD5 := hide hd5
               have HB5 : Hid (Below w.heap.size w k5) := HB4.out.trans (hb5.mono HB4.out.size)
               clear hx hd5 hb5 x0 x1 x2 lX p0 p1 p2 p3 p4 p5 p6 p7 p8 p9 lp
               obtain ⟨r0, r1, r2, r3, r4, r5, r6, r7, r8, r9, lr⟩ := cells10 HQ5.out
               have zq := HQ5.out.frozen
               go_wp2
               try rw [HT.out]
               exact retDoc (e := (moveE e C (e.g.row : Int) ((e.g.col : Int) + o1))) Tryz.results22 rfl rfl HQ5.out ⟨A5, cap5, N5, ln5, cn5, H5, lh5, ch5⟩ HD5.out HB5.out (by omega)
              ·by_cases q68 : r = 68
               ·subst q68
                have HT : Hid (doE e C ⟨3, 68, ns⟩ = moveE e C (e.g.row : Int) ((e.g.col : Int) - o1)) := by rw [← HO1.out]; unfold Hid doE; simp
                obtain ⟨p0, p1, p2, p3, p4, p5, p6, p7, p8, p9, lp⟩ := cells10 HP4.out
                obtain ⟨x0, x1, x2, lX⟩ := cells3 HX4.out
                go_wp2_with fail
                refine (rmove_any HD4.out HOK.out (e.g.row : Int) ((e.g.col : Int) - o1)).mono ?_
                rintro x k5 hx
                obtain ⟨A5, cap5, N5, ln5, cn5, H5, lh5, ch5, rfl, hd5, hb5⟩ := hx.lit
                have HQ5 := hide (HQ4.out.later hb5)
                have HD5 := hide hd5
                have HB5 : Hid (Below w.heap.size w k5) := HB4.out.trans (hb5.mono HB4.out.size)
                clear hx hd5 hb5 x0 x1 x2 lX p0 p1 p2 p3 p4 p5 p6 p7 p8 p9 lp
                obtain ⟨r0, r1, r2, r3, r4, r5, r6, r7, r8, r9, lr⟩ := cells10 HQ5.out
                have zq := HQ5.out.frozen
                go_wp2
                try rw [HT.out]
                exact retDoc (e := (moveE e C (e.g.row : Int) ((e.g.col : Int) - o1))) Tryz.results22 rfl rfl HQ5.out ⟨A5, cap5, N5, ln5, cn5, H5, lh5, ch5⟩ HD5.out HB5.out (by omega)
               ·by_cases q72 : r = 72
                ·subst q72
                 have HT : Hid (doE e C ⟨3, 72, ns⟩ = moveE e C (o1 - 1) (o2 - 1)) := by rw [← HO1.out, ← HO2.out]; unfold Hid doE; simp
                 obtain ⟨p0, p1, p2, p3, p4, p5, p6, p7, p8, p9, lp⟩ := cells10 HP4.out
                 obtain ⟨x0, x1, x2, lX⟩ := cells3 HX4.out
                 go_wp2_with fail
                 refine (rmove_any HD4.out HOK.out (o1 - 1) (o2 - 1)).mono ?_
                 rintro x k5 hx
                 obtain ⟨A5, cap5, N5, ln5, cn5, H5, lh5, ch5, rfl, hd5, hb5⟩ := hx.lit
                 have HQ5 := hide (HQ4.out.later hb5)
                 have HD5 := hide hd5
                 have HB5 : Hid (Below w.heap.size w k5) := HB4.out.trans (hb5.mono HB4.out.size)
                 clear hx hd5 hb5 x0 x1 x2 lX p0 p1 p2 p3 p4 p5 p6 p7 p8 p9 lp
                 obtain ⟨r0, r1, r2, r3, r4, r5, r6, r7, r8, r9, lr⟩ := cells10 HQ5.out
                 have zq := HQ5.out.frozen
                 go_wp2
                 try rw [HT.out]
                 exact retDoc (e := (moveE e C (o1 - 1) (o2 - 1))) Tryz.results22 rfl rfl HQ5.out ⟨A5, cap5, N5, ln5, cn5, H5, lh5, ch5⟩ HD5.out HB5.out (by omega)
                ·have HT : Hid (doE e C ⟨3, r, ns⟩ = e) := by unfold Hid doE; simp [q65, q66, q67, q68, q72, hx.1, hx.2.1, hx.2.2]
                 have g65 : (r == 65) = false := by simp [q65]
                 have g66 : (r == 66) = false := by simp [q66]
                 have g67 : (r == 67) = false := by simp [q67]
                 have g68 : (r == 68) = false := by simp [q68]
                 have g72 : (r == 72) = false := by simp [q72]
                 have g74 : (r == 74) = false := by simp [hx.1]
                 have g75 : (r == 75) = false := by simp [hx.2.1]
                 have g109 : (r == 109) = false := by simp [hx.2.2]
                 obtain ⟨p0, p1, p2, p3, p4, p5, p6, p7, p8, p9, lp⟩ := cells10 HP4.out
                 obtain ⟨x0, x1, x2, lX⟩ := cells3 HX4.out
                 obtain ⟨r0, r1, r2, r3, r4, r5, r6, r7, r8, r9, lr⟩ := cells10 HQ4.out
                 have zq := HQ4.out.frozen
                 go_wp2
                 try rw [HT.out]
                 exact retDoc (e := e) Tryz.results22 rfl rfl HQ4.out d HD4.out HB4.out (by omega)
           ·have HT : Hid (doE e C ⟨kd, r, ns⟩ = e) := by unfold Hid doE; simp [k1, k2, k3]
            have g1 : (kd == 1) = false := by simp [k1]
            have g2 : (kd == 2) = false := by simp [k2]
            have g3 : (kd != 3) = true := by simp [k3]
            obtain ⟨p0, p1, p2, p3, p4, p5, p6, p7, p8, p9, lp⟩ := cells10 HP4.out
            obtain ⟨x0, x1, x2, lX⟩ := cells3 HX4.out
            obtain ⟨r0, r1, r2, r3, r4, r5, r6, r7, r8, r9, lr⟩ := cells10 HQ4.out
            have zq := HQ4.out.frozen
            go_wp2
            try rw [HT.out]
            exact retDoc (e := e) Tryz.results22 rfl rfl HQ4.out d HD4.out HB4.out (by omega)
end
def DoneE (b : Bl) (L R C : Nat) (e' : Em) (w : World) (x : Ending) (w' : World) : Prop := x = .returned (.tuple #[]) ∧ ∃ L', At b w L w' L' R C e'
section
variable {w : World} {b : Bl} {L R C : Nat} {e : Em}
theorem room_any (h : Emu w b L R C e) : Calls Tryz.prog 146 #[.pointer (some ⟨b.E, 0, none⟩)] w (Num .i64 ((C : Int) - (e.g.col : Int)) w) := by
 have hR1 := h.ok.g.r1
 have hR2 := h.ok.g.r2
 have hC1 := h.ok.g.c1
 have hC2 := h.ok.g.c2
 have hrow := h.ok.g.row
 have hcol := h.ok.g.col
 obtain ⟨c0, c1, c2, c3, c4, c5, lE⟩ := h.six
 have HE := hide h; clear h
 go_enter Tryz.func146, Tryz.ntmps146
 go_wp2
 refine rgL (fun w' => Below w.heap.size w w') 11 [(0, 0), (0, 5), (0, 1), (0, 2), (0, 6), (0, 7), (0, 3), (0, 8), (1, 4), (1, 9), (1, 10), (3, 11)] bd1 ?_
 iterate 6 refine stL (h := ?_)
 refine stL (hy := fun w hS => by obtain ⟨c0, c1, c2, c3, c4, c5, -⟩ := (HE.out.later hS).six; go_simp <;> with_reducible rfl) (h := ?_)
 refine stL (hy := fun w hS => by obtain ⟨c0, c1, c2, c3, c4, c5, -⟩ := (HE.out.later hS).six; go_simp <;> with_reducible rfl) (h := ?_)
 refine alL fun K hK => ?_
 go_wp2_with fail
 refine (cols_any (HE.out.later bd1).grd hR1).mono ?_
 rintro x k0 ⟨rfl, rfl⟩
 go_wp2
 refine hK.out _ _ bd1 ?_
 clear hK K
 refine alL fun K hK => ?_
 go_wp2_with fail
 refine (col_any (HE.out.later bd1).grd).mono ?_
 rintro x k0 ⟨rfl, rfl⟩
 go_wp2
 refine hK.out _ _ bd1 ?_
 clear hK K
 refine alL fun K hK => ?_
 go_wp2
 refine hK.out _ _ bd1 ?_
 clear hK K
 refine laL fun K hK => ?_
 go_wp2
 refine hK.out _ _ ?_
 clear hK K
 refine chainL_nil ?_
 go_wp2; go_ret
 exact ⟨rfl, (Below.refl _ _).drewN 1⟩
theorem step_any (h : Emu w b L R C e) (rows cols : Int) (hr : -1000 ≤ rows ∧ rows ≤ 1000) (hc : -1000 ≤ cols ∧ cols ≤ 1000) : Calls Tryz.prog 101 #[.pointer (some ⟨b.E, 0, none⟩), .int .i64 rows, .int .i64 cols] w (DoneE b L R C { e with g := moveG e.g ((e.g.row : Int) + rows) ((e.g.col : Int) + cols) C } w) := by
 have hR1 := h.ok.g.r1
 have hR2 := h.ok.g.r2
 have hC1 := h.ok.g.c1
 have hC2 := h.ok.g.c2
 have hrow := h.ok.g.row
 have hcol := h.ok.g.col
 obtain ⟨c0, c1, c2, c3, c4, c5, lE⟩ := h.six
 have HE := hide h; clear h
 go_enter Tryz.func101, Tryz.ntmps101
 go_wp2
 refine rgL (fun w' => Below w.heap.size w w') 18 [(0, 0), (0, 4), (0, 9), (0, 11), (0, 16), (0, 1), (0, 2), (0, 5), (0, 6), (0, 12), (0, 13), (0, 3), (0, 7), (0, 14), (1, 8), (0, 10), (1, 15), (1, 17), (3, 18)] bd1 ?_
 iterate 11 refine stL (h := ?_)
 refine stL (hy := fun w hS => by obtain ⟨c0, c1, c2, c3, c4, c5, -⟩ := (HE.out.later hS).six; go_simp <;> with_reducible rfl) (h := ?_)
 refine stL (hy := fun w hS => by obtain ⟨c0, c1, c2, c3, c4, c5, -⟩ := (HE.out.later hS).six; go_simp <;> with_reducible rfl) (h := ?_)
 refine stL (hy := fun w hS => by obtain ⟨c0, c1, c2, c3, c4, c5, -⟩ := (HE.out.later hS).six; go_simp <;> with_reducible rfl) (h := ?_)
 refine alL fun K hK => ?_
 go_wp2_with fail
 refine (row_any (HE.out.later bd1).grd).mono ?_
 rintro x k0 ⟨rfl, rfl⟩
 go_wp2
 refine hK.out _ _ bd1 ?_
 clear hK K
 refine stL (h := ?_)
 refine alL fun K hK => ?_
 go_wp2_with fail
 refine (col_any (HE.out.later bd1).grd).mono ?_
 rintro x k0 ⟨rfl, rfl⟩
 go_wp2
 refine hK.out _ _ bd1 ?_
 clear hK K
 refine alL fun K hK => ?_
 go_wp2
 refine hK.out _ _ bd1 ?_
 clear hK K
 refine laL fun K hK => ?_
 go_wp2_with fail
 refine (move_any (HE.out.later bd1).grd hR1 hR2 hC1 hC2 ((e.g.row : Int) + rows) ((e.g.col : Int) + cols)).mono ?_
 rintro x k1 ⟨rfl, hg, ho⟩
 have HA := hide (At.first bd1 ((HE.out.later bd1).trn0 hg (Trn.of_onlyG ho) (HE.out.ok.g.move _ _)))
 clear hg ho; go_wp2
 refine hK.out _ _ ?_
 clear hK K
 refine chainL_nil ?_
 go_wp2
 refine bodyPost_end (v := .tuple #[]) (by simp [results, Tryz.results101]) rfl ⟨rfl, _, HA.out⟩
theorem tocol_any (h : Emu w b L R C e) (c : Int) : Calls Tryz.prog 98 #[.pointer (some ⟨b.E, 0, none⟩), .int .i64 c] w (DoneE b L R C { e with g := moveG e.g (e.g.row : Int) c C } w) := by
 have hR1 := h.ok.g.r1
 have hR2 := h.ok.g.r2
 have hC1 := h.ok.g.c1
 have hC2 := h.ok.g.c2
 have hrow := h.ok.g.row
 have hcol := h.ok.g.col
 obtain ⟨c0, c1, c2, c3, c4, c5, lE⟩ := h.six
 have HE := hide h; clear h
 go_enter Tryz.func98, Tryz.ntmps98
 go_wp2
 refine rgL (fun w' => Below w.heap.size w w') 10 [(0, 0), (0, 4), (0, 9), (0, 1), (0, 2), (0, 5), (0, 6), (0, 3), (1, 7), (1, 8), (3, 10)] bd1 ?_
 iterate 7 refine stL (h := ?_)
 refine stL (hy := fun w hS => by obtain ⟨c0, c1, c2, c3, c4, c5, -⟩ := (HE.out.later hS).six; go_simp <;> with_reducible rfl) (h := ?_)
 refine alL fun K hK => ?_
 go_wp2
 refine hK.out _ _ bd1 ?_
 clear hK K
 refine alL fun K hK => ?_
 go_wp2_with fail
 refine (row_any (HE.out.later bd1).grd).mono ?_
 rintro x k0 ⟨rfl, rfl⟩
 go_wp2
 refine hK.out _ _ bd1 ?_
 clear hK K
 refine laL fun K hK => ?_
 go_wp2_with fail
 refine (move_any (HE.out.later bd1).grd hR1 hR2 hC1 hC2 (e.g.row : Int) c).mono ?_
 rintro x k1 ⟨rfl, hg, ho⟩
 have HA := hide (At.first bd1 ((HE.out.later bd1).trn0 hg (Trn.of_onlyG ho) (HE.out.ok.g.move _ _)))
 clear hg ho; go_wp2
 refine hK.out _ _ ?_
 clear hK K
 refine chainL_nil ?_
 go_wp2
 refine bodyPost_end (v := .tuple #[]) (by simp [results, Tryz.results98]) rfl ⟨rfl, _, HA.out⟩
theorem sfeed_any (h : Emu w b L R C e) (p : Pn) : Calls Tryz.prog 99 #[.pointer (some ⟨b.E, 0, none⟩), .agg #[.int .u8 p.f, .int .u8 p.g, .int .u8 p.b]] w (DoneE b L R C { e with g := feedG e.g C p } w) := by
 obtain ⟨W0, hW0⟩ := exq (w.alloc (.cells #[.int .u8 p.f, .int .u8 p.g, .int .u8 p.b] 65))
 have HB0 : Hid (Below w.heap.size w W0) := by unfold Hid; rw [← hW0]; exact (Below.refl _ _).alloc (Nat.le_refl _) _
 have HP0 : Hid (Whole W0 w.heap.size 65 [.int .u8 p.f, .int .u8 p.g, .int .u8 p.b]) := by unfold Hid; rw [← hW0]; exact Whole.new _ _ _
 have HW0 := hide hW0; clear hW0
 have h1 := h.later HB0.out
 clear h
 have hR1 := h1.ok.g.r1
 have hR2 := h1.ok.g.r2
 have hC1 := h1.ok.g.c1
 have hC2 := h1.ok.g.c2
 have hrow := h1.ok.g.row
 have hcol := h1.ok.g.col
 obtain ⟨c0, c1, c2, c3, c4, c5, lE⟩ := h1.six
 have HE := hide h1; clear h1
 by_cases hl : e.g.row + 1 = R
 ·have hq : ((e.g.row : Int) == (R : Int) - 1) = true := by simp; omega
  have HF := hide (feed_last HE.out.ok.g hl p)
  go_enter Tryz.func99, Tryz.ntmps99
  go_wp2; rw [HW0.out]
  refine rgL (fun w' => Below W0.heap.size W0 w') 11 [(0, 0), (0, 5), (0, 1), (0, 2), (0, 6), (0, 7), (0, 3), (0, 8), (1, 4), (1, 9), (1, 10), (3, 11)] bd1 ?_
  iterate 6 refine stL (h := ?_)
  refine stL (hy := fun w hS => by obtain ⟨c0, c1, c2, c3, c4, c5, -⟩ := (HE.out.later hS).six; go_simp <;> with_reducible rfl) (h := ?_)
  refine stL (hy := fun w hS => by obtain ⟨c0, c1, c2, c3, c4, c5, -⟩ := (HE.out.later hS).six; go_simp <;> with_reducible rfl) (h := ?_)
  refine alL fun K hK => ?_
  go_wp2_with fail
  refine (row_any (HE.out.later bd1).grd).mono ?_
  rintro x k0 ⟨rfl, rfl⟩
  go_wp2
  refine hK.out _ _ bd1 ?_
  clear hK K
  refine alL fun K hK => ?_
  go_wp2_with fail
  refine (rows_any (HE.out.later bd1).grd).mono ?_
  rintro x k0 ⟨rfl, rfl⟩
  go_wp2
  refine hK.out _ _ bd1 ?_
  clear hK K
  refine alL fun K hK => ?_
  go_wp2
  refine hK.out _ _ bd1 ?_
  clear hK K
  refine laL fun K hK => ?_
  go_wp2
  refine hK.out _ _ ?_
  clear hK K
  refine chainL_nil ?_
  go_wp2
  refine rgL (fun w' => Below W0.heap.size W0 w') 5 [(0, 0), (0, 1), (0, 2), (0, 3), (1, 4), (3, 5)] (bd1.drewN 1) ?_
  iterate 3 refine stL (h := ?_)
  refine stL (hy := fun w hS => by obtain ⟨c0, c1, c2, c3, c4, c5, -⟩ := (HE.out.later hS).six; obtain ⟨d0, d1, d2, -⟩ := cells3 (HP0.out.later hS); go_simp <;> with_reducible rfl) (h := ?_)
  refine alL fun K hK => ?_
  obtain ⟨d0, d1, d2, -⟩ := cells3 HP0.out
  go_wp2
  refine hK.out _ _ (bd1.drewN 1) ?_
  clear hK K
  refine laL fun K hK => ?_
  go_wp2_with fail
  refine (scroll_any ((HE.out.later bd1).later bd1).grd hR1 hR2 hC1 hC2 ((HE.out.later bd1).later bd1).sp 1 p.f p.g p.b).mono ?_
  rintro x k1 ⟨rfl, L', hg, ht, hL⟩
  have HA := hide (At.first HB0.out (At.first (bd1.trans bd1) (((HE.out.later bd1).later bd1).trn hg ht hL (HE.out.ok.g.scroll _ _))))
  rw [show scrollG e.g C 1 ⟨p.f, p.g, p.b⟩ = scrollG e.g C 1 p from rfl, ← HF.out] at HA
  clear hg ht hL; go_wp2
  refine hK.out _ _ ?_
  clear hK K
  refine chainL_nil ?_
  go_wp2
  exact bodyPost_ret (v := .tuple #[]) (by simp [results, Tryz.results99]) rfl ⟨rfl, _, HA.out⟩
 ·have hq : ((e.g.row : Int) == (R : Int) - 1) = false := by simp; omega
  have HF := hide (feed_low HE.out.ok.g hl p)
  go_enter Tryz.func99, Tryz.ntmps99
  go_wp2; rw [HW0.out]
  refine rgL (fun w' => Below W0.heap.size W0 w') 11 [(0, 0), (0, 5), (0, 1), (0, 2), (0, 6), (0, 7), (0, 3), (0, 8), (1, 4), (1, 9), (1, 10), (3, 11)] bd1 ?_
  iterate 6 refine stL (h := ?_)
  refine stL (hy := fun w hS => by obtain ⟨c0, c1, c2, c3, c4, c5, -⟩ := (HE.out.later hS).six; go_simp <;> with_reducible rfl) (h := ?_)
  refine stL (hy := fun w hS => by obtain ⟨c0, c1, c2, c3, c4, c5, -⟩ := (HE.out.later hS).six; go_simp <;> with_reducible rfl) (h := ?_)
  refine alL fun K hK => ?_
  go_wp2_with fail
  refine (row_any (HE.out.later bd1).grd).mono ?_
  rintro x k0 ⟨rfl, rfl⟩
  go_wp2
  refine hK.out _ _ bd1 ?_
  clear hK K
  refine alL fun K hK => ?_
  go_wp2_with fail
  refine (rows_any (HE.out.later bd1).grd).mono ?_
  rintro x k0 ⟨rfl, rfl⟩
  go_wp2
  refine hK.out _ _ bd1 ?_
  clear hK K
  refine alL fun K hK => ?_
  go_wp2
  refine hK.out _ _ bd1 ?_
  clear hK K
  refine laL fun K hK => ?_
  go_wp2
  refine hK.out _ _ ?_
  clear hK K
  refine chainL_nil ?_
  go_wp2_with fail
  refine (step_any (HE.out.later bd1) 1 0 (by omega) (by omega)).mono ?_
  rintro x k1 ⟨rfl, L1, ha⟩
  have HA := hide (At.first HB0.out (At.first bd1 ha))
  rw [Int.add_zero, ← HF.out] at HA
  clear ha; go_wp2
  refine bodyPost_end (v := .tuple #[]) (by simp [results, Tryz.results99]) rfl ⟨rfl, _, HA.out⟩
theorem sput_any (h : Emu w b L R C e) (c : Cel) (hc : CelB c) : Calls Tryz.prog 147 #[.pointer (some ⟨b.E, 0, none⟩), .agg #[.int .i32 c.r, .int .i32 c.m, .int .i32 c.n, .int .u8 c.w, .int .u8 c.p.f, .int .u8 c.p.g, .int .u8 c.p.b]] w (DoneE b L R C { e with g := putG e.g (e.g.row : Int) (e.g.col : Int) c } w) := by
 obtain ⟨W0, hW0⟩ := exq (w.alloc (.cells #[.int .i32 c.r, .int .i32 c.m, .int .i32 c.n, .int .u8 c.w, .int .u8 c.p.f, .int .u8 c.p.g, .int .u8 c.p.b] 73))
 have HB0 : Hid (Below w.heap.size w W0) := by unfold Hid; rw [← hW0]; exact (Below.refl _ _).alloc (Nat.le_refl _) _
 have HP0 : Hid (Whole W0 w.heap.size 73 [.int .i32 c.r, .int .i32 c.m, .int .i32 c.n, .int .u8 c.w, .int .u8 c.p.f, .int .u8 c.p.g, .int .u8 c.p.b]) := by unfold Hid; rw [← hW0]; exact Whole.new _ _ _
 have HW0 := hide hW0; clear hW0
 have h1 := h.later HB0.out
 clear h
 have hR1 := h1.ok.g.r1
 have hR2 := h1.ok.g.r2
 have hC1 := h1.ok.g.c1
 have hC2 := h1.ok.g.c2
 have hrow := h1.ok.g.row
 have hcol := h1.ok.g.col
 obtain ⟨c0, c1, c2, c3, c4, c5, lE⟩ := h1.six
 have HE := hide h1; clear h1
 have hcw := hc.2.2.2
 have HCB := hide hc
 go_enter Tryz.func147, Tryz.ntmps147
 go_wp2; rw [HW0.out]
 refine rgL (fun w' => Below W0.heap.size W0 w') 15 [(0, 0), (0, 4), (0, 9), (0, 1), (0, 2), (0, 5), (0, 6), (0, 10), (0, 11), (0, 3), (0, 7), (0, 12), (0, 14), (1, 8), (1, 13), (3, 15)] bd1 ?_
 iterate 9 refine stL (h := ?_)
 refine stL (hy := fun w hS => by obtain ⟨c0, c1, c2, c3, c4, c5, -⟩ := (HE.out.later hS).six; obtain ⟨d0, d1, d2, d3, d4, d5, d6, -⟩ := cells7 (HP0.out.later hS); go_simp <;> with_reducible rfl) (h := ?_)
 refine stL (hy := fun w hS => by obtain ⟨c0, c1, c2, c3, c4, c5, -⟩ := (HE.out.later hS).six; obtain ⟨d0, d1, d2, d3, d4, d5, d6, -⟩ := cells7 (HP0.out.later hS); go_simp <;> with_reducible rfl) (h := ?_)
 refine stL (hy := fun w hS => by obtain ⟨c0, c1, c2, c3, c4, c5, -⟩ := (HE.out.later hS).six; obtain ⟨d0, d1, d2, d3, d4, d5, d6, -⟩ := cells7 (HP0.out.later hS); go_simp <;> with_reducible rfl) (h := ?_)
 refine stL (hy := fun w hS => by obtain ⟨c0, c1, c2, c3, c4, c5, -⟩ := (HE.out.later hS).six; obtain ⟨d0, d1, d2, d3, d4, d5, d6, -⟩ := cells7 (HP0.out.later hS); go_simp <;> with_reducible rfl) (h := ?_)
 refine alL fun K hK => ?_
 go_wp2_with fail
 refine (row_any (HE.out.later bd1).grd).mono ?_
 rintro x k0 ⟨rfl, rfl⟩
 go_wp2
 refine hK.out _ _ bd1 ?_
 clear hK K
 refine alL fun K hK => ?_
 go_wp2_with fail
 refine (col_any (HE.out.later bd1).grd).mono ?_
 rintro x k0 ⟨rfl, rfl⟩
 go_wp2
 refine hK.out _ _ bd1 ?_
 clear hK K
 refine laL fun K hK => ?_
 go_wp2_with fail
 refine (gput_any (HE.out.later bd1).grd hC2 (HE.out.later bd1).sp (e.g.row : Int) (e.g.col : Int) c.r c.m c.n c.w c.p.f c.p.g c.p.b hcw (by omega)).mono ?_
 rintro x k1 ⟨rfl, hg, ht⟩
 have HA := hide (At.first HB0.out (At.first bd1 ((HE.out.later bd1).trn0 hg ht (HE.out.ok.g.put _ _ _ HCB.out))))
 clear hg ht; go_wp2
 refine hK.out _ _ ?_
 clear hK K
 refine chainL_nil ?_
 go_wp2
 refine bodyPost_end (v := .tuple #[]) (by simp [results, Tryz.results147]) rfl ⟨rfl, _, HA.out⟩
theorem smark_any (h : Emu w b L R C e) (c r : Int) (hr : R32 r) : Calls Tryz.prog 145 #[.pointer (some ⟨b.E, 0, none⟩), .int .i64 c, .int .i32 r] w (DoneE b L R C { e with g := markG e.g (e.g.row : Int) c r } w) := by
 have hR1 := h.ok.g.r1
 have hR2 := h.ok.g.r2
 have hC1 := h.ok.g.c1
 have hC2 := h.ok.g.c2
 have hrow := h.ok.g.row
 have hcol := h.ok.g.col
 obtain ⟨c0, c1, c2, c3, c4, c5, lE⟩ := h.six
 have HE := hide h; clear h; have HR := hide hr
 go_enter Tryz.func145, Tryz.ntmps145
 go_wp2
 refine rgL (fun w' => Below w.heap.size w w') 11 [(0, 0), (0, 4), (0, 9), (0, 10), (0, 1), (0, 2), (0, 5), (0, 6), (0, 3), (1, 7), (1, 8), (3, 11)] bd1 ?_
 iterate 8 refine stL (h := ?_)
 refine stL (hy := fun w hS => by obtain ⟨c0, c1, c2, c3, c4, c5, -⟩ := (HE.out.later hS).six; go_simp <;> with_reducible rfl) (h := ?_)
 refine alL fun K hK => ?_
 go_wp2
 refine hK.out _ _ bd1 ?_
 clear hK K
 refine alL fun K hK => ?_
 go_wp2_with fail
 refine (row_any (HE.out.later bd1).grd).mono ?_
 rintro x k0 ⟨rfl, rfl⟩
 go_wp2
 refine hK.out _ _ bd1 ?_
 clear hK K
 refine laL fun K hK => ?_
 go_wp2_with fail
 refine (gmark_any (HE.out.later bd1).grd hC2 (HE.out.later bd1).sp (e.g.row : Int) c r).mono ?_
 rintro x k1 ⟨rfl, hg, ht⟩
 have HA := hide (At.first bd1 ((HE.out.later bd1).trn0 hg ht (HE.out.ok.g.mark _ _ _ HR.out)))
 clear hg ht; go_wp2
 refine hK.out _ _ ?_
 clear hK K
 refine chainL_nil ?_
 go_wp2
 refine bodyPost_end (v := .tuple #[]) (by simp [results, Tryz.results145]) rfl ⟨rfl, _, HA.out⟩
theorem cols_fn (E : Nat) (p : Pn) (w : World) : Calls Tryz.prog 183 #[.pointer (some ⟨E, 0, none⟩), .agg #[.int .u8 p.f, .int .u8 p.g, .int .u8 p.b]] w fun x w' => x = .returned (.func (.func 202) #[] #[.pointer (some ⟨w.heap.size, 0, none⟩), .pointer (some ⟨w.heap.size + 1, 0, none⟩)]) ∧ Whole w' w.heap.size 199 [.pointer (some ⟨E, 0, none⟩)] ∧ Whole w' (w.heap.size + 1) 65 [.int .u8 p.f, .int .u8 p.g, .int .u8 p.b] ∧ Below w.heap.size w w' := by
 have HB : Hid (Below w.heap.size w ((w.alloc (.cells #[.pointer (some ⟨E, 0, none⟩)] 199)).alloc (.cells #[.int .u8 p.f, .int .u8 p.g, .int .u8 p.b] 65))) := two_new _ _ _ _ _
 have HX : Hid (Whole ((w.alloc (.cells #[.pointer (some ⟨E, 0, none⟩)] 199)).alloc (.cells #[.int .u8 p.f, .int .u8 p.g, .int .u8 p.b] 65)) w.heap.size 199 [.pointer (some ⟨E, 0, none⟩)]) := (Whole.new _ _ _).alloc _
 have HY : Hid (Whole ((w.alloc (.cells #[.pointer (some ⟨E, 0, none⟩)] 199)).alloc (.cells #[.int .u8 p.f, .int .u8 p.g, .int .u8 p.b] 65)) (w.heap.size + 1) 65 [.int .u8 p.f, .int .u8 p.g, .int .u8 p.b]) := whole_snd _ _ _ _
 go_enter Tryz.func183, Tryz.ntmps183
 go_wp2; go_ret
 exact ⟨rfl, HX.out, HY.out, HB.out⟩
theorem rows_fn (E : Nat) (p : Pn) (w : World) : Calls Tryz.prog 181 #[.pointer (some ⟨E, 0, none⟩), .agg #[.int .u8 p.f, .int .u8 p.g, .int .u8 p.b]] w fun x w' => x = .returned (.func (.func 201) #[] #[.pointer (some ⟨w.heap.size, 0, none⟩), .pointer (some ⟨w.heap.size + 1, 0, none⟩)]) ∧ Whole w' w.heap.size 199 [.pointer (some ⟨E, 0, none⟩)] ∧ Whole w' (w.heap.size + 1) 65 [.int .u8 p.f, .int .u8 p.g, .int .u8 p.b] ∧ Below w.heap.size w w' := by
 have HB : Hid (Below w.heap.size w ((w.alloc (.cells #[.pointer (some ⟨E, 0, none⟩)] 199)).alloc (.cells #[.int .u8 p.f, .int .u8 p.g, .int .u8 p.b] 65))) := two_new _ _ _ _ _
 have HX : Hid (Whole ((w.alloc (.cells #[.pointer (some ⟨E, 0, none⟩)] 199)).alloc (.cells #[.int .u8 p.f, .int .u8 p.g, .int .u8 p.b] 65)) w.heap.size 199 [.pointer (some ⟨E, 0, none⟩)]) := (Whole.new _ _ _).alloc _
 have HY : Hid (Whole ((w.alloc (.cells #[.pointer (some ⟨E, 0, none⟩)] 199)).alloc (.cells #[.int .u8 p.f, .int .u8 p.g, .int .u8 p.b] 65)) (w.heap.size + 1) 65 [.int .u8 p.f, .int .u8 p.g, .int .u8 p.b]) := whole_snd _ _ _ _
 go_enter Tryz.func181, Tryz.ntmps181
 go_wp2; go_ret
 exact ⟨rfl, HX.out, HY.out, HB.out⟩
theorem cols1_any (h : Emu w b L R C e) (x y : Int) {q q2 : Nat} (p : Pn) (hq : Whole w q 199 [.pointer (some ⟨b.E, 0, none⟩)]) (hq2 : Whole w q2 65 [.int .u8 p.f, .int .u8 p.g, .int .u8 p.b]) : Calls Tryz.prog 202 #[.int .i64 x, .int .i64 y, .pointer (some ⟨q, 0, none⟩), .pointer (some ⟨q2, 0, none⟩)] w (DoneE b L R C { e with g := eraseG e.g (e.g.row : Int) x y p } w) := by
 have hR1 := h.ok.g.r1
 have hR2 := h.ok.g.r2
 have hC1 := h.ok.g.c1
 have hC2 := h.ok.g.c2
 have hrow := h.ok.g.row
 have hcol := h.ok.g.col
 obtain ⟨c0, c1, c2, c3, c4, c5, lE⟩ := h.six
 have HE := hide h; have HX := hide hq; have HY := hide hq2; clear h
 go_enter Tryz.func202, Tryz.ntmps202
 go_wp2
 refine rgL (fun w' => Below w.heap.size w w') 12 [(0, 9), (0, 10), (0, 0), (0, 1), (0, 2), (0, 3), (0, 4), (0, 5), (0, 6), (0, 7), (0, 11), (1, 8), (3, 12)] bd1 ?_
 refine stL (h := ?_)
 refine stL (h := ?_)
 refine stL (hy := fun w hS => by obtain ⟨c0, c1, c2, c3, c4, c5, -⟩ := (HE.out.later hS).six; have x0 := (HX.out.later hS).cell 0; simp only [List.getElem?_cons_zero] at x0; obtain ⟨d0, d1, d2, -⟩ := cells3 (HY.out.later hS); go_simp <;> with_reducible rfl) (h := ?_)
 refine stL (h := ?_)
 refine stL (h := ?_)
 refine stL (hy := fun w hS => by obtain ⟨c0, c1, c2, c3, c4, c5, -⟩ := (HE.out.later hS).six; have x0 := (HX.out.later hS).cell 0; simp only [List.getElem?_cons_zero] at x0; obtain ⟨d0, d1, d2, -⟩ := cells3 (HY.out.later hS); go_simp <;> with_reducible rfl) (h := ?_)
 refine stL (hy := fun w hS => by obtain ⟨c0, c1, c2, c3, c4, c5, -⟩ := (HE.out.later hS).six; have x0 := (HX.out.later hS).cell 0; simp only [List.getElem?_cons_zero] at x0; obtain ⟨d0, d1, d2, -⟩ := cells3 (HY.out.later hS); go_simp <;> with_reducible rfl) (h := ?_)
 refine stL (h := ?_)
 refine stL (h := ?_)
 refine stL (hy := fun w hS => by obtain ⟨c0, c1, c2, c3, c4, c5, -⟩ := (HE.out.later hS).six; have x0 := (HX.out.later hS).cell 0; simp only [List.getElem?_cons_zero] at x0; obtain ⟨d0, d1, d2, -⟩ := cells3 (HY.out.later hS); go_simp <;> with_reducible rfl) (h := ?_)
 refine stL (hy := fun w hS => by obtain ⟨c0, c1, c2, c3, c4, c5, -⟩ := (HE.out.later hS).six; have x0 := (HX.out.later hS).cell 0; simp only [List.getElem?_cons_zero] at x0; obtain ⟨d0, d1, d2, -⟩ := cells3 (HY.out.later hS); go_simp <;> with_reducible rfl) (h := ?_)
 refine alL fun K hK => ?_
 go_wp2_with fail
 refine (row_any (HE.out.later bd1).grd).mono ?_
 rintro x k0 ⟨rfl, rfl⟩
 go_wp2
 refine hK.out _ _ bd1 ?_
 clear hK K
 refine laL fun K hK => ?_
 go_wp2_with fail
 refine (gerase_any (HE.out.later bd1).grd hC2 (HE.out.later bd1).sp (e.g.row : Int) x y p.f p.g p.b).mono ?_
 rintro x2 k1 ⟨rfl, hg, ht⟩
 have HA := hide (At.first bd1 ((HE.out.later bd1).trn0 hg ht (HE.out.ok.g.erase _ _ _ _)))
 clear hg ht; go_wp2
 refine hK.out _ _ ?_
 clear hK K
 refine chainL_nil ?_
 go_wp2
 refine bodyPost_end (v := .tuple #[]) (by simp [results, Tryz.results202]) rfl ⟨rfl, _, HA.out⟩
end
end
end Go.Proofs.YtkijclgbpbhglaaGreatDoor
