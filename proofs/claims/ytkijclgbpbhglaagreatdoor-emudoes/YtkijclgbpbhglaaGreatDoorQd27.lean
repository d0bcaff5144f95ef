/-
  Contracts and plain mathematics of EDoc4.
-/
import Derived.Test.YtkijclgbpbhglaaGreatDoorQd25
import Derived.Test.YtkijclgbpbhglaaGreatDoorQd26
import Derived.Test.YtkijclgbpbhglaaGreatDoorQd13
namespace Go.Proofs.YtkijclgbpbhglaaGreatDoor
set_option maxRecDepth 100000
set_option linter.unusedVariables false
set_option maxHeartbeats 8000000
section
open Go.ChangeShapes Go.WideShapes Go.ChangeAt Go.RowKit
section
variable {w w' w1 : World} {d : Dv} {R C : Nat} {e : Em}
theorem Own.sl9 {e : TypeId} {k : IntKind} {B : Nat} {w wr : World} {v : Value} {bs : List Int} (h : Own e k B w wr v bs) : ∃ A n c, v = .slice A n c := by obtain ⟨A, cap, e, _⟩ := h.form; exact ⟨A, _, cap, e⟩
theorem num_next (ns : List Int) (k : Nat) (h : k < ns.length) : (ns.take (k + 1)).map mzE = (ns.take k).map mzE ++ [mzE (ns.getD k 0)] := by rw [take_snoc ns k (ns.getD k 0) h rfl, List.map_append]; rfl
theorem redo_turn (h : Doc w d e) (hok : EOk e R C)  (A : Option Addr) (n c : Nat) (ns : List Int) (hi : Ints .i64 w A ns) (hn : ns.length = n) (hn2 : n ≤ 1000) :
  Calls Tryz.prog 22 #[.agg #[.slice d.A R d.cap, .int .i64 e.g.row, .int .i64 e.g.col, .int .i64 e.p.st, .slice d.N d.ln d.cn, .slice d.H d.lh d.ch, .int .u8 e.pen.f, .int .u8 e.pen.g, .int .u8 e.pen.b, .bool e.wrap], .agg #[.int .i64 3, .int .i64 109, .slice A n c]] w (GaveM R (doE e C ⟨3, 109, ns⟩) w) := by
 obtain ⟨W0, hW0⟩ := exq (((w.alloc (.cells #[.slice d.A R d.cap, .int .i64 e.g.row, .int .i64 e.g.col, .int .i64 e.p.st, .slice d.N d.ln d.cn, .slice d.H d.lh d.ch, .int .u8 e.pen.f, .int .u8 e.pen.g, .int .u8 e.pen.b, .bool e.wrap] 40)).alloc (.cells #[.int .i64 3, .int .i64 109, .slice A n c] 60)).alloc (.cells #[.slice none 0 0, .int .i64 0, .int .i64 0, .int .i64 0, .slice none 0 0, .slice none 0 0, .int .u8 0, .int .u8 0, .int .u8 0, .bool false] 40))
 have HB0 : Hid (Below w.heap.size w W0) := by unfold Hid; rw [← hW0]; exact (two_new _ _ _ _ _).alloc (by simp; omega) _
 have HP0 : Hid (Whole W0 w.heap.size 40 [.slice d.A R d.cap, .int .i64 e.g.row, .int .i64 e.g.col, .int .i64 e.p.st, .slice d.N d.ln d.cn, .slice d.H d.lh d.ch, .int .u8 e.pen.f, .int .u8 e.pen.g, .int .u8 e.pen.b, .bool e.wrap]) := by unfold Hid; rw [← hW0]; exact ((Whole.new _ _ _).alloc _).alloc _
 have HX0 : Hid (Whole W0 (w.heap.size + 1) 60 [.int .i64 3, .int .i64 109, .slice A n c]) := by unfold Hid; rw [← hW0]; exact (whole_snd _ _ _ _).alloc _
 have HQ0 : Hid (Whole W0 (w.heap.size + 1 + 1) 40 [.slice none 0 0, .int .i64 0, .int .i64 0, .int .i64 0, .slice none 0 0, .slice none 0 0, .int .u8 0, .int .u8 0, .int .u8 0, .bool false]) := by unfold Hid; rw [← hW0]; have := whole_snd (w.alloc (.cells #[.slice d.A R d.cap, .int .i64 e.g.row, .int .i64 e.g.col, .int .i64 e.p.st, .slice d.N d.ln d.cn, .slice d.H d.lh d.ch, .int .u8 e.pen.f, .int .u8 e.pen.g, .int .u8 e.pen.b, .bool e.wrap] 40)) (.cells #[.int .i64 3, .int .i64 109, .slice A n c] 60) 40 [.slice none 0 0, .int .i64 0, .int .i64 0, .int .i64 0, .slice none 0 0, .slice none 0 0, .int .u8 0, .int .u8 0, .int .u8 0, .bool false]; rwa [show (w.alloc (.cells #[.slice d.A R d.cap, .int .i64 e.g.row, .int .i64 e.g.col, .int .i64 e.p.st, .slice d.N d.ln d.cn, .slice d.H d.lh d.ch, .int .u8 e.pen.f, .int .u8 e.pen.g, .int .u8 e.pen.b, .bool e.wrap] 40)).heap.size = w.heap.size + 1 by simp] at this
 have HW0 := hide hW0
 have HD0 := hide (h.below HB0.out)
 have HI0 := hide (hi.below HB0.out)
 have HN := hide hn; have HOK := hide hok; clear hW0 h hi hn
 have hR1 := hok.g.r1
 have hR2 := hok.g.r2
 have hC1 := hok.g.c1
 have hC2 := hok.g.c2
 have hrow := hok.g.row
 have hcol := hok.g.col
 have HLen := hide hok.g.len
 have HC0 := hide (hok.g.each 0 hok.g.r1).1
 clear hok
 obtain ⟨a0, ha0⟩ : ∃ a, numP ns 0 1 = a := ⟨_, rfl⟩
 obtain ⟨m0, hm0⟩ : ∃ a, numP ns 1 1 = a := ⟨_, rfl⟩
 obtain ⟨kk, hkk⟩ : ∃ a, numP ns 0 0 = a := ⟨_, rfl⟩
 obtain ⟨a1, ha1⟩ : ∃ a, max a0 1 = a := ⟨_, rfl⟩
 obtain ⟨m1, hm1⟩ : ∃ a, max m0 1 = a := ⟨_, rfl⟩
 obtain ⟨o1, ho1⟩ : ∃ a, min a1 1000 = a := ⟨_, rfl⟩
 obtain ⟨o2, ho2⟩ : ∃ a, min m1 1000 = a := ⟨_, rfl⟩
 have HO1 : Hid (oneN (nAt ns 0 1) = o1) := by unfold Hid oneN; rw [← numP_nAt, show ((0 : Nat) : Int) = 0 from rfl, ha0, ha1, ho1]
 have HO2 : Hid (oneN (nAt ns 1 1) = o2) := by unfold Hid oneN; rw [← numP_nAt, show ((1 : Nat) : Int) = 1 from rfl, hm0, hm1, ho2]
 have HKK : Hid (nAt ns 0 0 = kk) := by unfold Hid; rw [← numP_nAt, show ((0 : Nat) : Int) = 0 from rfl, hkk]
 have b1 : 1 ≤ o1 := by omega
 have b2 : o1 ≤ 1000 := by omega
 have b3 : 1 ≤ o2 := by omega
 have b4 : o2 ≤ 1000 := by omega
 have HA0 := hide ha0; have HM0 := hide hm0; have HK0 := hide hkk; have HA1 := hide ha1; have HM1 := hide hm1; have HA2 := hide ho1; have HM2 := hide ho2; clear ha0 hm0 hkk ha1 hm1 ho1 ho2
 have hne : ¬ w.heap.size = w.heap.size + 1 + 1 := by omega
 have hne2 : ¬ w.heap.size + 1 + 1 = w.heap.size := by omega
 have hne3 : ¬ w.heap.size + 1 = w.heap.size := by omega
 go_enter Tryz.func22, Tryz.ntmps22
 go_wp2_with fail
 rw [HW0.out]
 refine (rgcols_any d.A R d.cap C e.g.row e.g.col e.g.ls W0 HD0.out.lns HLen.out hR1 HC0.out).mono ?_
 rintro x k1 ⟨rfl, hb1⟩
 have HX1 := hide (HX0.out.later hb1)
 have HI1 := hide (HI0.out.below hb1)
 have HB1 := hide hb1; clear hb1
 obtain ⟨x0, x1, x2, lX⟩ := cells3 HX1.out
 go_wp2
 refine rgL (fun w' => Below k1.heap.size k1 w') 8 [(0, 0), (0, 2), (0, 4), (1, 1), (1, 3), (1, 5), (1, 6), (1, 7), (3, 8)] bd1 ?_
 refine stL (hy := fun w hS => by obtain ⟨y0, y1, y2, -⟩ := cells3 (HX1.out.later hS); go_simp <;> with_reducible rfl) (h := ?_)
 refine stL (hy := fun w hS => by obtain ⟨y0, y1, y2, -⟩ := cells3 (HX1.out.later hS); go_simp <;> with_reducible rfl) (h := ?_)
 refine stL (hy := fun w hS => by obtain ⟨y0, y1, y2, -⟩ := cells3 (HX1.out.later hS); go_simp <;> with_reducible rfl) (h := ?_)
 refine alL fun K hK => ?_
 go_wp2_with fail
 refine (rpnum_any 3 109 0 1 A n c ns _ (HI1.out.drewN 1) HN.out).mono ?_
 rintro x k2 ⟨rfl, hb⟩
 rw [HA0.out]
 have B2 : Below k1.heap.size k1 k2 := bd1.trans hb
 clear hb; go_wp2
 refine hK.out _ _ (B2) ?_
 clear hK K
 refine alL fun K hK => ?_
 go_wp2_with fail
 refine (rpnum_any 3 109 1 1 A n c ns _ (HI1.out.below B2) HN.out).mono ?_
 rintro x k3 ⟨rfl, hb⟩
 rw [HM0.out]
 have B3 : Below k1.heap.size k1 k3 := B2.trans (hb.mono B2.size)
 clear hb; go_wp2
 refine hK.out _ _ (B3) ?_
 clear hK K
 refine alL fun K hK => ?_
 go_wp2_with fail
 refine (rpnum_any 3 109 0 0 A n c ns _ (HI1.out.below B3) HN.out).mono ?_
 rintro x k4 ⟨rfl, hb⟩
 rw [HK0.out]
 have B4 : Below k1.heap.size k1 k4 := B3.trans (hb.mono B3.size)
 clear hb; go_wp2
 refine hK.out _ _ (B4) ?_
 clear hK K
 refine alL fun K hK => ?_
 go_wp2
 refine hK.out _ _ (B4) ?_
 clear hK K
 refine alL fun K hK => ?_
 go_wp2
 refine hK.out _ _ (B4) ?_
 clear hK K
 refine laL fun K hK => ?_
 go_wp2
 refine hK.out _ _ ?_
 clear hK K
 refine chainL_nil ?_
 have HB04 : Hid (Below W0.heap.size W0 k4) := HB1.out.trans (B4.mono HB1.out.size)
 have HP4 := hide (HP0.out.later HB04.out)
 have HX4 := hide (HX0.out.later HB04.out)
 have HQ4 := hide (HQ0.out.later HB04.out)
 have HD4 := hide (HD0.out.below HB04.out)
 have HI4 := hide (HI0.out.below HB04.out)
 have HB4 : Hid (Below w.heap.size w k4) := HB0.out.trans (HB04.out.mono HB0.out.size)
 clear B2 B3 B4 x0 x1 x2 lX HW0 HP0 HX0 HQ0 HD0 HI0 HB04 HB0 HX1 HI1 HB1
 go_upto_region 3 with fail
 go_cut [22] from 21 to 22 (fun v wx => v = .bool (decide (a0 < 1)) ∧ wx = k4)
 case first =>
  by_cases hq : a0 < 1
  ·go_wp2
   go_meet
   case rel => exact ⟨by simp [hq], rfl⟩
  ·go_wp2
   go_meet
   case rel => exact ⟨by simp [hq], rfl⟩
 case rest =>
  obtain ⟨hv, hwc⟩ := hcut
  subst hv
  rw [hwc]
  clear hwc
  go_upto_if 22 with fail
  go_cut [6] from 21 to 22 (fun v wx => v = .int .i64 a1 ∧ wx = k4)
  case first =>
   by_cases hq : a0 < 1
   ·rw [decide_eq_true hq]
    go_wp2
    go_meet
    case rel => exact ⟨by rw [show a1 = 1 by have := HA1.out; omega], rfl⟩
   ·rw [decide_eq_false hq]
    go_wp2
    go_meet
    case rel => exact ⟨by rw [show a1 = a0 by have := HA1.out; omega], rfl⟩
  case rest =>
   obtain ⟨hv, hwc⟩ := hcut
   subst hv
   rw [hwc]
   clear hwc
   go_upto_region 5 with fail
   go_cut [24] from 23 to 24 (fun v wx => v = .bool (decide (1000 < a1)) ∧ wx = k4)
   case first =>
    by_cases hq : 1000 < a1
    ·go_wp2
     go_meet
     case rel => exact ⟨by simp [hq], rfl⟩
    ·go_wp2
     go_meet
     case rel => exact ⟨by simp [hq], rfl⟩
   case rest =>
    obtain ⟨hv, hwc⟩ := hcut
    subst hv
    rw [hwc]
    clear hwc
    go_upto_if 24 with fail
    go_cut [6] from 23 to 24 (fun v wx => v = .int .i64 o1 ∧ wx = k4)
    case first =>
     by_cases hq : 1000 < a1
     ·rw [decide_eq_true hq]
      go_wp2
      go_meet
      case rel => exact ⟨by rw [show o1 = 1000 by have := HA2.out; omega], rfl⟩
     ·rw [decide_eq_false hq]
      go_wp2
      go_meet
      case rel => exact ⟨by rw [show o1 = a1 by have := HA2.out; omega], rfl⟩
    case rest =>
     obtain ⟨hv, hwc⟩ := hcut
     subst hv
     rw [hwc]
     clear hwc
     go_upto_region 7 with fail
     go_cut [26] from 25 to 26 (fun v wx => v = .bool (decide (m0 < 1)) ∧ wx = k4)
     case first =>
      by_cases hq : m0 < 1
      ·go_wp2
       go_meet
       case rel => exact ⟨by simp [hq], rfl⟩
      ·go_wp2
       go_meet
       case rel => exact ⟨by simp [hq], rfl⟩
     case rest =>
      obtain ⟨hv, hwc⟩ := hcut
      subst hv
      rw [hwc]
      clear hwc
      go_upto_if 26 with fail
      go_cut [7] from 25 to 26 (fun v wx => v = .int .i64 m1 ∧ wx = k4)
      case first =>
       by_cases hq : m0 < 1
       ·rw [decide_eq_true hq]
        go_wp2
        go_meet
        case rel => exact ⟨by rw [show m1 = 1 by have := HM1.out; omega], rfl⟩
       ·rw [decide_eq_false hq]
        go_wp2
        go_meet
        case rel => exact ⟨by rw [show m1 = m0 by have := HM1.out; omega], rfl⟩
      case rest =>
       obtain ⟨hv, hwc⟩ := hcut
       subst hv
       rw [hwc]
       clear hwc
       go_upto_region 9 with fail
       go_cut [28] from 27 to 28 (fun v wx => v = .bool (decide (1000 < m1)) ∧ wx = k4)
       case first =>
        by_cases hq : 1000 < m1
        ·go_wp2
         go_meet
         case rel => exact ⟨by simp [hq], rfl⟩
        ·go_wp2
         go_meet
         case rel => exact ⟨by simp [hq], rfl⟩
       case rest =>
        obtain ⟨hv, hwc⟩ := hcut
        subst hv
        rw [hwc]
        clear hwc
        go_upto_if 28 with fail
        go_cut [7] from 27 to 28 (fun v wx => v = .int .i64 o2 ∧ wx = k4)
        case first =>
         by_cases hq : 1000 < m1
         ·rw [decide_eq_true hq]
          go_wp2
          go_meet
          case rel => exact ⟨by rw [show o2 = 1000 by have := HM2.out; omega], rfl⟩
         ·rw [decide_eq_false hq]
          go_wp2
          go_meet
          case rel => exact ⟨by rw [show o2 = m1 by have := HM2.out; omega], rfl⟩
        case rest =>
         obtain ⟨hv, hwc⟩ := hcut
         subst hv
         rw [hwc]
         clear hwc
         obtain ⟨x0, x1, x2, lX⟩ := cells3 HX4.out
         go_wp2
         go_loopw [10, 11] (fun v i wr => ∃ k : Nat, k ≤ n ∧ i = .int .i64 k ∧ Own 3 .i64 k4.heap.size k4 wr v ((ns.take k).map mzE)) (fun _ i _ => n - (intOf i).toNat)
         case atStart => exact ⟨0, Nat.zero_le _, rfl, Own.start (Nat.le_refl _)⟩
         case round =>
          obtain ⟨k, hk, rfl, hown⟩ := hrel
          have HO := hide hown; clear hown
          obtain ⟨A0, n0, c0, rfl⟩ := HO.out.sl9
          clear x0 x1 x2 lX
          obtain ⟨x0, x1, x2, lX⟩ := cells3 (HX4.out.later HO.out.bel)
          by_cases hlt : k < n
          ·have HLT := hide hlt
           have HV := hide (num_mz ns k (by rw [HN.out]; exact hlt))
           have HNX := hide (num_next ns k (by rw [HN.out]; exact hlt))
           have HLL : Hid (((ns.take k).map mzE).length ≤ 1000) := by unfold Hid; rw [List.length_map, List.length_take]; omega
           obtain ⟨v, hv⟩ := exq (mzE (ns.getD k 0))
           rw [hv] at HV HNX
           clear hv; go_wp2_with fail
           refine (rpnum_any 3 109 (k : Int) 0 A n c ns wr (HI4.out.below HO.out.bel) HN.out).mono ?_
           rintro x y1 ⟨rfl, hb⟩
           rw [HV.out]
           have HO1x := hide (HO.out.later hb)
           clear hb
           go_wp2_with (at_builtin; refine stopw ?_)
           unfold Hid
           refine wpList_push elemInts rfl _ _ rfl rfl rfl HO1x.out (by have := HLL.out; omega) (by omega) ?_
           intro v2 w2 hown2
           rw [← HNX.out] at hown2
           have HO2x := hide hown2; clear hown2; go_wp2
           go_roundw
           case rel => exact ⟨k + 1, by have := HLT.out; omega, by have := HLT.out; go_num, HO2x.out⟩
           case measure => have := HLT.out; simp [intOf]; omega
          ·obtain rfl : k = n := by omega
           obtain ⟨zs, hzs⟩ := exq ((ns.take k).map mzE)
           have HZS : Hid (ns.map mzE = zs) := by unfold Hid; rw [← hzs, List.take_of_length_le (by rw [HN.out]; exact Nat.le_refl _)]
           rw [hzs] at HO
           obtain ⟨AZ, cZ, hvz, hiz, -, -⟩ := HO.out.form
           obtain ⟨nz, hnz⟩ := exq (zs.length)
           rw [hnz] at hvz
           cases hvz
           have hnz2 : n0 ≤ 1000 := by rw [← hnz, ← hzs, List.length_map, List.length_take]; omega
           have HIZ := hide hiz; have HNZ := hide hnz
           obtain ⟨⟨F, G, Bk⟩, hQ⟩ : ∃ Q, turnN e.pen zs = Q := ⟨_, rfl⟩
           have HT : Hid (doE e C ⟨3, 109, ns⟩ = ⟨e.g, e.p, ⟨F, G, Bk⟩, e.wrap⟩) := by unfold Hid doE; simp; show turnN e.pen (ns.map mzE) = _; rw [HZS.out, hQ]
           have hturn : Calls Tryz.prog 59 #[.agg #[.int .u8 e.pen.f, .int .u8 e.pen.g, .int .u8 e.pen.b], .slice A0 n0 c0] wr (Penned ⟨F, G, Bk⟩ wr) := by have := rturn_any e.pen.f e.pen.g e.pen.b (right_ok HOK.out.pen) A0 n0 c0 zs wr hiz hnz (by omega); rw [hQ] at this; exact this
           have hp4 := HP4.out.later HO.out.bel
           obtain ⟨p0, p1, p2, p3, p4, p5, p6, p7, p8, p9, lp⟩ := cells10 hp4
           clear hiz hnz hQ hzs; go_wp2_with fail
           refine hturn.mono ?_
           rintro x k6 ⟨rfl, hb⟩
           have HB46 : Hid (Below k4.heap.size k4 k6) := HO.out.bel.trans (hb.mono HO.out.bel.size)
           have hp6 := HP4.out.later HB46.out
           have hq6 := HQ4.out.later HB46.out
           clear hturn hb hp4 p0 p1 p2 p3 p4 p5 p6 p7 p8 p9 lp
           have ho6 : Only w.heap.size k6 (((k6.setCell ⟨w.heap.size, 6, none⟩ (.int .u8 F)).setCell ⟨w.heap.size, 7, none⟩ (.int .u8 G)).setCell ⟨w.heap.size, 8, none⟩ (.int .u8 Bk)) := (((Only.put 6 _).trans (Only.put 7 _)).trans (Only.put 8 _))
           have HB7 : Hid (Below w.heap.size w (((k6.setCell ⟨w.heap.size, 6, none⟩ (.int .u8 F)).setCell ⟨w.heap.size, 7, none⟩ (.int .u8 G)).setCell ⟨w.heap.size, 8, none⟩ (.int .u8 Bk))) := by unfold Hid; have hbb := HB4.out.trans (HB46.out.mono HB4.out.size); exact ho6.below hbb hbb.size (Nat.le_refl _)
           have HD7 : Hid (Doc (((k6.setCell ⟨w.heap.size, 6, none⟩ (.int .u8 F)).setCell ⟨w.heap.size, 7, none⟩ (.int .u8 G)).setCell ⟨w.heap.size, 8, none⟩ (.int .u8 Bk)) ⟨d.A, d.cap, d.N, d.ln, d.cn, d.H, d.lh, d.ch⟩ ⟨e.g, e.p, ⟨F, G, Bk⟩, e.wrap⟩) := ((HD4.out.below HB46.out).only ho6 hp6).as rfl rfl
           have HQ7 : Hid (Whole (((k6.setCell ⟨w.heap.size, 6, none⟩ (.int .u8 F)).setCell ⟨w.heap.size, 7, none⟩ (.int .u8 G)).setCell ⟨w.heap.size, 8, none⟩ (.int .u8 Bk)) (w.heap.size + 1 + 1) 40 [.slice none 0 0, .int .i64 0, .int .i64 0, .int .i64 0, .slice none 0 0, .slice none 0 0, .int .u8 0, .int .u8 0, .int .u8 0, .bool false]) := ((hq6.other hne2).other hne2).other hne2
           obtain ⟨p0, p1, p2, p3, p4, p5, p6, p7, p8, p9, lp⟩ := cells10 hp6
           obtain ⟨r0, r1, r2, r3, r4, r5, r6, r7, r8, r9, lr⟩ := cells10 hq6
           have zp := hp6.frozen
           have zq := hq6.frozen
           clear hp6 hq6 ho6; go_wp2
           try rw [HT.out]
           exact retDoc (e := ⟨e.g, e.p, ⟨F, G, Bk⟩, e.wrap⟩) Tryz.results22 rfl rfl HQ7.out ⟨d.A, d.cap, d.N, d.ln, d.cn, d.H, d.lh, d.ch⟩ HD7.out HB7.out (by omega)
end
end
end Go.Proofs.YtkijclgbpbhglaaGreatDoor
