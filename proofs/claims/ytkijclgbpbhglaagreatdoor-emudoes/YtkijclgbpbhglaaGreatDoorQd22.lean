/-
  Contracts and plain mathematics of EDoc2, PAll, PNum.
-/
import Derived.Test.YtkijclgbpbhglaaGreatDoorQd21
import Derived.Test.YtkijclgbpbhglaaGreatDoorQd5
import Derived.Deep.DeepCutAuto
import Derived.Test.YtkijclgbpbhglaaGreatDoorQd17
import Derived.Test.YtkijclgbpbhglaaGreatDoorQd18
import Derived.Lib.SlBytesConst
namespace Go.Proofs.YtkijclgbpbhglaaGreatDoor
set_option maxRecDepth 100000
set_option linter.unusedVariables false
set_option maxHeartbeats 8000000
section
open Go.ChangeShapes Go.WideShapes Go.ChangeAt Go.RowKit
section
variable {w w' w1 : World} {d : Dv} {R C : Nat} {e : Em}
theorem renew_any (R C : Nat) (r1 : 1 ≤ R) (r2 : R ≤ 512) (w : World) : Calls Tryz.prog 12 #[.int .i64 R, .int .i64 C] w (GaveM R (newE R C) w) := by
 obtain ⟨W0, hW0⟩ := exq (w.alloc (.cells #[.slice none 0 0, .int .i64 0, .int .i64 0, .int .i64 0, .slice none 0 0, .slice none 0 0, .int .u8 0, .int .u8 0, .int .u8 0, .bool false] 40))
 have HB0 : Hid (Below w.heap.size w W0) := by unfold Hid; rw [← hW0]; exact new1W _ _
 have HQ0 : Hid (Whole W0 w.heap.size 40 [.slice none 0 0, .int .i64 0, .int .i64 0, .int .i64 0, .slice none 0 0, .slice none 0 0, .int .u8 0, .int .u8 0, .int .u8 0, .bool false]) := by unfold Hid; rw [← hW0]; exact Whole.new _ _ _
 have HW0 := hide hW0; clear hW0
 go_enter Tryz.func12, Tryz.ntmps12
 go_wp2_with fail
 rw [HW0.out]
 refine (rgnew_v R C r1 r2 W0).mono ?_
 rintro x k1 ⟨b1, cap1, rfl, hl, hb, -⟩
 have HD1 : Hid (Doc k1 ⟨some ⟨b1, 0, none⟩, cap1, none, 0, 0, none, 0, 0⟩ (newE R C)) := ⟨hl, ⟨.nil, .nil, rfl, rfl, fun _ => rfl, Nat.le_refl _, Nat.zero_le _, fun _ => rfl⟩⟩
 have HB1 := hide (HB0.out.trans (hb.mono HB0.out.size))
 have HQ1 := hide (HQ0.out.later hb)
 clear hl hb
 obtain ⟨r0, r1, r2, r3, r4, r5, r6, r7, r8, r9, lr⟩ := cells10 HQ1.out
 have zq := HQ1.out.frozen
 go_wp2
 exact retDoc (e := newE R C) Tryz.results12 rfl rfl HQ1.out ⟨some ⟨b1, 0, none⟩, cap1, none, 0, 0, none, 0, 0⟩ HD1.out HB1.out (Nat.le_refl _)
theorem rresize9_any (h : Doc w d e) (hok : EOk e R C) (R2 C2 : Nat) (q1 : 1 ≤ R2) (q2 : R2 ≤ 512) (q3 : 1 ≤ C2) (q4 : C2 ≤ 512) : Calls Tryz.prog 14 #[.agg #[.slice d.A R d.cap, .int .i64 e.g.row, .int .i64 e.g.col, .int .i64 e.p.st, .slice d.N d.ln d.cn, .slice d.H d.lh d.ch, .int .u8 e.pen.f, .int .u8 e.pen.g, .int .u8 e.pen.b, .bool e.wrap], .int .i64 R2, .int .i64 C2] w (GaveM R2 (resizeE e R2 C2) w) := by
 obtain ⟨W0, hW0⟩ := exq ((w.alloc (.cells #[.slice d.A R d.cap, .int .i64 e.g.row, .int .i64 e.g.col, .int .i64 e.p.st, .slice d.N d.ln d.cn, .slice d.H d.lh d.ch, .int .u8 e.pen.f, .int .u8 e.pen.g, .int .u8 e.pen.b, .bool e.wrap] 40)).alloc (.cells #[.slice none 0 0, .int .i64 0, .int .i64 0, .int .i64 0, .slice none 0 0, .slice none 0 0, .int .u8 0, .int .u8 0, .int .u8 0, .bool false] 40))
 have HB0 : Hid (Below w.heap.size w W0) := by unfold Hid; rw [← hW0]; exact two_new _ _ _ _ _
 have HP0 : Hid (Whole W0 w.heap.size 40 [.slice d.A R d.cap, .int .i64 e.g.row, .int .i64 e.g.col, .int .i64 e.p.st, .slice d.N d.ln d.cn, .slice d.H d.lh d.ch, .int .u8 e.pen.f, .int .u8 e.pen.g, .int .u8 e.pen.b, .bool e.wrap]) := by unfold Hid; rw [← hW0]; exact (Whole.new _ _ _).alloc _
 have HQ0 : Hid (Whole W0 (w.heap.size + 1) 40 [.slice none 0 0, .int .i64 0, .int .i64 0, .int .i64 0, .slice none 0 0, .slice none 0 0, .int .u8 0, .int .u8 0, .int .u8 0, .bool false]) := by unfold Hid; rw [← hW0]; exact whole_snd _ _ _ _
 have HW0 := hide hW0; have HDW := hide h
 have HD0 := hide (h.below HB0.out)
 have HOK := hide hok; clear hW0 h
 have hR1 := hok.g.r1
 have hR2 := hok.g.r2
 have hC1 := hok.g.c1
 have hC2 := hok.g.c2
 have hrow := hok.g.row
 have hcol := hok.g.col
 have HLen := hide hok.g.len
 have HC0 := hide (hok.g.each 0 hok.g.r1).1
 clear hok
 have hne : ¬ w.heap.size = w.heap.size + 1 := by omega
 have hne2 : ¬ w.heap.size + 1 = w.heap.size := by omega
 go_enter Tryz.func14, Tryz.ntmps14
 go_wp2_with fail
 rw [HW0.out]
 refine (rgfit_any d.A R C d.cap e.g W0 HD0.out.lns HOK.out.g R2 C2 q1 q2 q3 q4).mono ?_
 rintro x k1 ⟨A1, cap1, rfl, hl, hb⟩
 have hp1 := HP0.out.later hb
 have hq1 := HQ0.out.later hb
 have ho1 : Only w.heap.size k1 ((((k1.setCell ⟨w.heap.size, 0, none⟩ (.slice A1 R2 cap1)).setCell ⟨w.heap.size, 1, none⟩ (.int .i64 ((fitG e.g R2 C2).row : Int))).setCell ⟨w.heap.size, 2, none⟩ (.int .i64 ((fitG e.g R2 C2).col : Int))).setCell ⟨w.heap.size, 9, none⟩ (.bool false)) := ((((Only.put 0 _).trans (Only.put 1 _)).trans (Only.put 2 _)).trans (Only.put 9 _))
 have hbb := HB0.out.trans (hb.mono HB0.out.size)
 have HB1 : Hid (Below w.heap.size w ((((k1.setCell ⟨w.heap.size, 0, none⟩ (.slice A1 R2 cap1)).setCell ⟨w.heap.size, 1, none⟩ (.int .i64 ((fitG e.g R2 C2).row : Int))).setCell ⟨w.heap.size, 2, none⟩ (.int .i64 ((fitG e.g R2 C2).col : Int))).setCell ⟨w.heap.size, 9, none⟩ (.bool false))) := ho1.below hbb hbb.size (Nat.le_refl _)
 have HD1 : Hid (Doc ((((k1.setCell ⟨w.heap.size, 0, none⟩ (.slice A1 R2 cap1)).setCell ⟨w.heap.size, 1, none⟩ (.int .i64 ((fitG e.g R2 C2).row : Int))).setCell ⟨w.heap.size, 2, none⟩ (.int .i64 ((fitG e.g R2 C2).col : Int))).setCell ⟨w.heap.size, 9, none⟩ (.bool false)) ⟨A1, cap1, d.N, d.ln, d.cn, d.H, d.lh, d.ch⟩ (resizeE e R2 C2)) := ⟨hl.only ho1 hp1, (HD0.out.below hb).dp.keep (.of_only ho1 hp1 (by decide)) (.of_only ho1 hp1 (by decide))⟩
 have HQ1 : Hid (Whole ((((k1.setCell ⟨w.heap.size, 0, none⟩ (.slice A1 R2 cap1)).setCell ⟨w.heap.size, 1, none⟩ (.int .i64 ((fitG e.g R2 C2).row : Int))).setCell ⟨w.heap.size, 2, none⟩ (.int .i64 ((fitG e.g R2 C2).col : Int))).setCell ⟨w.heap.size, 9, none⟩ (.bool false)) (w.heap.size + 1) 40 [.slice none 0 0, .int .i64 0, .int .i64 0, .int .i64 0, .slice none 0 0, .slice none 0 0, .int .u8 0, .int .u8 0, .int .u8 0, .bool false]) := ((((hq1.other hne2).other hne2).other hne2).other hne2)
 obtain ⟨p0, p1, p2, p3, p4, p5, p6, p7, p8, p9, lp⟩ := cells10 hp1
 obtain ⟨r0, r1, r2, r3, r4, r5, r6, r7, r8, r9, lr⟩ := cells10 hq1
 have zp := hp1.frozen
 have zq := hq1.frozen
 clear hp1 hq1 ho1 hbb; clear hl hb; go_wp2
 exact retDoc (e := resizeE e R2 C2) Tryz.results14 rfl rfl HQ1.out ⟨A1, cap1, d.N, d.ln, d.cn, d.H, d.lh, d.ch⟩ HD1.out HB1.out (by omega)
theorem rtyped_any (h : Doc w d e) (hok : EOk e R C) (r : Int) (hr : R32 r) : Calls Tryz.prog 55 #[.agg #[.slice d.A R d.cap, .int .i64 e.g.row, .int .i64 e.g.col, .int .i64 e.p.st, .slice d.N d.ln d.cn, .slice d.H d.lh d.ch, .int .u8 e.pen.f, .int .u8 e.pen.g, .int .u8 e.pen.b, .bool e.wrap], .int .i64 r] w (GaveM R (typedE e C r) w) := by
 obtain ⟨W0, hW0⟩ := exq ((w.alloc (.cells #[.slice d.A R d.cap, .int .i64 e.g.row, .int .i64 e.g.col, .int .i64 e.p.st, .slice d.N d.ln d.cn, .slice d.H d.lh d.ch, .int .u8 e.pen.f, .int .u8 e.pen.g, .int .u8 e.pen.b, .bool e.wrap] 40)).alloc (.cells #[.slice none 0 0, .int .i64 0, .int .i64 0, .int .i64 0, .slice none 0 0, .slice none 0 0, .int .u8 0, .int .u8 0, .int .u8 0, .bool false] 40))
 have HB0 : Hid (Below w.heap.size w W0) := by unfold Hid; rw [← hW0]; exact two_new _ _ _ _ _
 have HP0 : Hid (Whole W0 w.heap.size 40 [.slice d.A R d.cap, .int .i64 e.g.row, .int .i64 e.g.col, .int .i64 e.p.st, .slice d.N d.ln d.cn, .slice d.H d.lh d.ch, .int .u8 e.pen.f, .int .u8 e.pen.g, .int .u8 e.pen.b, .bool e.wrap]) := by unfold Hid; rw [← hW0]; exact (Whole.new _ _ _).alloc _
 have HQ0 : Hid (Whole W0 (w.heap.size + 1) 40 [.slice none 0 0, .int .i64 0, .int .i64 0, .int .i64 0, .slice none 0 0, .slice none 0 0, .int .u8 0, .int .u8 0, .int .u8 0, .bool false]) := by unfold Hid; rw [← hW0]; exact whole_snd _ _ _ _
 have HW0 := hide hW0; have HDW := hide h
 have HD0 := hide (h.below HB0.out)
 have HOK := hide hok; clear hW0 h
 have hR1 := hok.g.r1
 have hR2 := hok.g.r2
 have hC1 := hok.g.c1
 have hC2 := hok.g.c2
 have hrow := hok.g.row
 have hcol := hok.g.col
 have HLen := hide hok.g.len
 have HC0 := hide (hok.g.each 0 hok.g.r1).1
 clear hok
 have hne : ¬ w.heap.size = w.heap.size + 1 := by omega
 have hne2 : ¬ w.heap.size + 1 = w.heap.size := by omega
 have HR := hide hr; clear hr
 by_cases h0 : wOf r = 0
 ·have HV : Hid (wOf r = 0) := h0
  rcases Bool.eq_false_or_eq_true e.wrap with hw | hw
  ·have HWR := hide hw
   have HT : Hid (typedE e C r = ⟨markG e.g (e.g.row : Int) (e.g.col : Int) r, e.p, e.pen, true⟩) := by unfold Hid typedE; rw [if_pos h0, hw]; simp
   rw [HT.out]
   clear hw h0
   go_enter Tryz.func55, Tryz.ntmps55
   go_wp2_with fail
   rw [HW0.out]
   refine (rgcols_any d.A R d.cap C e.g.row e.g.col e.g.ls W0 HD0.out.lns HLen.out hR1 HC0.out).mono ?_
   rintro x k1 ⟨rfl, hb1⟩
   go_wp2_with fail
   refine (rof_any r k1).mono ?_
   rintro x k2 ⟨rfl, hb2⟩
   rw [HV.out]
   have B2 : Below W0.heap.size W0 k2 := hb1.trans (hb2.mono hb1.size)
   have HP2 := hide (HP0.out.later B2)
   have HQ2 := hide (HQ0.out.later B2)
   have HD2 := hide (HD0.out.below B2)
   have HB2 : Hid (Below w.heap.size w k2) := HB0.out.trans (B2.mono HB0.out.size)
   clear hb1 hb2 B2
   obtain ⟨p0, p1, p2, p3, p4, p5, p6, p7, p8, p9, lp⟩ := cells10 HP2.out
   rw [HWR.out] at p9
   go_wp2_with fail
   refine (rgmark_any d.A R C d.cap e.g _ HD2.out.lns HOK.out.g (e.g.row : Int) (e.g.col : Int) r).mono ?_
   rintro x k3 ⟨A1, cap1, rfl, hl, hb⟩
   clear p0 p1 p2 p3 p4 p5 p6 p7 p8 p9 lp
   have hp1 := HP2.out.later hb
   have hq1 := HQ2.out.later hb
   have ho1 : Only w.heap.size k3 (((k3.setCell ⟨w.heap.size, 0, none⟩ (.slice A1 R cap1)).setCell ⟨w.heap.size, 1, none⟩ (.int .i64 ((markG e.g (e.g.row : Int) (e.g.col : Int) r).row : Int))).setCell ⟨w.heap.size, 2, none⟩ (.int .i64 ((markG e.g (e.g.row : Int) (e.g.col : Int) r).col : Int))) := (((Only.put 0 _).trans (Only.put 1 _)).trans (Only.put 2 _))
   have hbb := HB2.out.trans (hb.mono HB2.out.size)
   have HB1 : Hid (Below w.heap.size w (((k3.setCell ⟨w.heap.size, 0, none⟩ (.slice A1 R cap1)).setCell ⟨w.heap.size, 1, none⟩ (.int .i64 ((markG e.g (e.g.row : Int) (e.g.col : Int) r).row : Int))).setCell ⟨w.heap.size, 2, none⟩ (.int .i64 ((markG e.g (e.g.row : Int) (e.g.col : Int) r).col : Int)))) := ho1.below hbb hbb.size (Nat.le_refl _)
   have HD1 : Hid (Doc (((k3.setCell ⟨w.heap.size, 0, none⟩ (.slice A1 R cap1)).setCell ⟨w.heap.size, 1, none⟩ (.int .i64 ((markG e.g (e.g.row : Int) (e.g.col : Int) r).row : Int))).setCell ⟨w.heap.size, 2, none⟩ (.int .i64 ((markG e.g (e.g.row : Int) (e.g.col : Int) r).col : Int))) ⟨A1, cap1, d.N, d.ln, d.cn, d.H, d.lh, d.ch⟩ { e with g := (markG e.g (e.g.row : Int) (e.g.col : Int) r) }) := ⟨hl.only ho1 hp1, (HD2.out.below hb).dp.keep (.of_only ho1 hp1 (by decide)) (.of_only ho1 hp1 (by decide))⟩
   have HQ1 : Hid (Whole (((k3.setCell ⟨w.heap.size, 0, none⟩ (.slice A1 R cap1)).setCell ⟨w.heap.size, 1, none⟩ (.int .i64 ((markG e.g (e.g.row : Int) (e.g.col : Int) r).row : Int))).setCell ⟨w.heap.size, 2, none⟩ (.int .i64 ((markG e.g (e.g.row : Int) (e.g.col : Int) r).col : Int))) (w.heap.size + 1) 40 [.slice none 0 0, .int .i64 0, .int .i64 0, .int .i64 0, .slice none 0 0, .slice none 0 0, .int .u8 0, .int .u8 0, .int .u8 0, .bool false]) := (((hq1.other hne2).other hne2).other hne2)
   obtain ⟨p0, p1, p2, p3, p4, p5, p6, p7, p8, p9, lp⟩ := cells10 hp1
   obtain ⟨r0, r1, r2, r3, r4, r5, r6, r7, r8, r9, lr⟩ := cells10 hq1
   have zp := hp1.frozen
   have zq := hq1.frozen
   clear hp1 hq1 ho1 hbb
   rw [HWR.out] at p9
   clear hl hb; go_wp2
   exact retDoc (e := ⟨(markG e.g (e.g.row : Int) (e.g.col : Int) r), e.p, e.pen, true⟩) Tryz.results55 rfl rfl HQ1.out ⟨A1, cap1, d.N, d.ln, d.cn, d.H, d.lh, d.ch⟩ (HD1.out.as rfl rfl) HB1.out (by omega)
  ·have HWR := hide hw
   have HT : Hid (typedE e C r = ⟨markG e.g (e.g.row : Int) ((e.g.col : Int) - 1) r, e.p, e.pen, false⟩) := by unfold Hid typedE; rw [if_pos h0, hw]; simp
   rw [HT.out]
   clear hw h0
   go_enter Tryz.func55, Tryz.ntmps55
   go_wp2_with fail
   rw [HW0.out]
   refine (rgcols_any d.A R d.cap C e.g.row e.g.col e.g.ls W0 HD0.out.lns HLen.out hR1 HC0.out).mono ?_
   rintro x k1 ⟨rfl, hb1⟩
   go_wp2_with fail
   refine (rof_any r k1).mono ?_
   rintro x k2 ⟨rfl, hb2⟩
   rw [HV.out]
   have B2 : Below W0.heap.size W0 k2 := hb1.trans (hb2.mono hb1.size)
   have HP2 := hide (HP0.out.later B2)
   have HQ2 := hide (HQ0.out.later B2)
   have HD2 := hide (HD0.out.below B2)
   have HB2 : Hid (Below w.heap.size w k2) := HB0.out.trans (B2.mono HB0.out.size)
   clear hb1 hb2 B2
   obtain ⟨p0, p1, p2, p3, p4, p5, p6, p7, p8, p9, lp⟩ := cells10 HP2.out
   rw [HWR.out] at p9
   go_wp2_with fail
   refine (rgmark_any d.A R C d.cap e.g _ HD2.out.lns HOK.out.g (e.g.row : Int) ((e.g.col : Int) - 1) r).mono ?_
   rintro x k3 ⟨A1, cap1, rfl, hl, hb⟩
   clear p0 p1 p2 p3 p4 p5 p6 p7 p8 p9 lp
   have hp1 := HP2.out.later hb
   have hq1 := HQ2.out.later hb
   have ho1 : Only w.heap.size k3 (((k3.setCell ⟨w.heap.size, 0, none⟩ (.slice A1 R cap1)).setCell ⟨w.heap.size, 1, none⟩ (.int .i64 ((markG e.g (e.g.row : Int) ((e.g.col : Int) - 1) r).row : Int))).setCell ⟨w.heap.size, 2, none⟩ (.int .i64 ((markG e.g (e.g.row : Int) ((e.g.col : Int) - 1) r).col : Int))) := (((Only.put 0 _).trans (Only.put 1 _)).trans (Only.put 2 _))
   have hbb := HB2.out.trans (hb.mono HB2.out.size)
   have HB1 : Hid (Below w.heap.size w (((k3.setCell ⟨w.heap.size, 0, none⟩ (.slice A1 R cap1)).setCell ⟨w.heap.size, 1, none⟩ (.int .i64 ((markG e.g (e.g.row : Int) ((e.g.col : Int) - 1) r).row : Int))).setCell ⟨w.heap.size, 2, none⟩ (.int .i64 ((markG e.g (e.g.row : Int) ((e.g.col : Int) - 1) r).col : Int)))) := ho1.below hbb hbb.size (Nat.le_refl _)
   have HD1 : Hid (Doc (((k3.setCell ⟨w.heap.size, 0, none⟩ (.slice A1 R cap1)).setCell ⟨w.heap.size, 1, none⟩ (.int .i64 ((markG e.g (e.g.row : Int) ((e.g.col : Int) - 1) r).row : Int))).setCell ⟨w.heap.size, 2, none⟩ (.int .i64 ((markG e.g (e.g.row : Int) ((e.g.col : Int) - 1) r).col : Int))) ⟨A1, cap1, d.N, d.ln, d.cn, d.H, d.lh, d.ch⟩ { e with g := (markG e.g (e.g.row : Int) ((e.g.col : Int) - 1) r) }) := ⟨hl.only ho1 hp1, (HD2.out.below hb).dp.keep (.of_only ho1 hp1 (by decide)) (.of_only ho1 hp1 (by decide))⟩
   have HQ1 : Hid (Whole (((k3.setCell ⟨w.heap.size, 0, none⟩ (.slice A1 R cap1)).setCell ⟨w.heap.size, 1, none⟩ (.int .i64 ((markG e.g (e.g.row : Int) ((e.g.col : Int) - 1) r).row : Int))).setCell ⟨w.heap.size, 2, none⟩ (.int .i64 ((markG e.g (e.g.row : Int) ((e.g.col : Int) - 1) r).col : Int))) (w.heap.size + 1) 40 [.slice none 0 0, .int .i64 0, .int .i64 0, .int .i64 0, .slice none 0 0, .slice none 0 0, .int .u8 0, .int .u8 0, .int .u8 0, .bool false]) := (((hq1.other hne2).other hne2).other hne2)
   obtain ⟨p0, p1, p2, p3, p4, p5, p6, p7, p8, p9, lp⟩ := cells10 hp1
   obtain ⟨r0, r1, r2, r3, r4, r5, r6, r7, r8, r9, lr⟩ := cells10 hq1
   have zp := hp1.frozen
   have zq := hq1.frozen
   clear hp1 hq1 ho1 hbb
   rw [HWR.out] at p9
   clear hl hb; go_wp2
   exact retDoc (e := ⟨(markG e.g (e.g.row : Int) ((e.g.col : Int) - 1) r), e.p, e.pen, false⟩) Tryz.results55 rfl rfl HQ1.out ⟨A1, cap1, d.N, d.ln, d.cn, d.H, d.lh, d.ch⟩ (HD1.out.as rfl rfl) HB1.out (by omega)
 ·by_cases hno : wOf r < 1 ∨ (C : Int) < wOf r
  ·have HT : Hid (typedE e C r = e) := by unfold Hid typedE; rw [if_neg h0, if_pos hno]
   rw [HT.out]
   obtain ⟨v, hv⟩ := exq (wOf r)
   have HV := hide hv
   rw [hv] at h0 hno
   clear hv
   have hz0 : (v == 0) = false := by simp [h0]
   go_enter Tryz.func55, Tryz.ntmps55
   go_wp2_with fail
   rw [HW0.out]
   refine (rgcols_any d.A R d.cap C e.g.row e.g.col e.g.ls W0 HD0.out.lns HLen.out hR1 HC0.out).mono ?_
   rintro x k1 ⟨rfl, hb1⟩
   go_wp2_with fail
   refine (rof_any r k1).mono ?_
   rintro x k2 ⟨rfl, hb2⟩
   rw [HV.out]
   have B2 : Below W0.heap.size W0 k2 := hb1.trans (hb2.mono hb1.size)
   have HP2 := hide (HP0.out.later B2)
   have HQ2 := hide (HQ0.out.later B2)
   have HD2 := hide (HD0.out.below B2)
   have HB2 : Hid (Below w.heap.size w k2) := HB0.out.trans (B2.mono HB0.out.size)
   clear hb1 hb2 B2
   obtain ⟨p0, p1, p2, p3, p4, p5, p6, p7, p8, p9, lp⟩ := cells10 HP2.out
   obtain ⟨r0, r1, r2, r3, r4, r5, r6, r7, r8, r9, lr⟩ := cells10 HQ2.out
   have zq := HQ2.out.frozen
   by_cases hv1 : v < 1
   ·go_wp2
    exact retDoc (e := e) Tryz.results55 rfl rfl HQ2.out d HD2.out HB2.out (by omega)
   ·have hv2 : (C : Int) < v := by omega
    go_wp2
    exact retDoc (e := e) Tryz.results55 rfl rfl HQ2.out d HD2.out HB2.out (by omega)
  ·obtain ⟨dd, hd⟩ : ∃ dd : Nat, wOf r = (dd : Int) := ⟨(wOf r).toNat, by omega⟩
   have hdd : dd = 1 ∨ dd = 2 := by have := wOf_range r; omega
   have HO : Hid (ofC r ⟨e.pen.f, e.pen.g, e.pen.b⟩ = (⟨r, 0, 0, dd, ⟨e.pen.f, e.pen.g, e.pen.b⟩⟩, true)) := by unfold Hid ofC; rcases hdd with q | q <;> subst q <;> simp [hd]
   have HO2 : Hid ((ofC r e.pen).1 = ⟨r, 0, 0, dd, ⟨e.pen.f, e.pen.g, e.pen.b⟩⟩) := by unfold Hid; exact congrArg Prod.fst HO.out
   have HV : Hid (wOf r = (dd : Int)) := hd
   obtain ⟨g1, hg1⟩ := exq (readyG e C (dd : Int))
   have HG := hide hg1
   have HK1 : Hid (GOk g1 R C) := by unfold Hid; rw [← hg1]; exact readyG_ok HOK.out _
   obtain ⟨G3, hG3⟩ := exq (putG g1 (g1.row : Int) (g1.col : Int) ⟨r, 0, 0, dd, ⟨e.pen.f, e.pen.g, e.pen.b⟩⟩)
   have HG3 := hide hG3
   have HG3c : Hid (G3.col = g1.col) := by unfold Hid; rw [← hG3]; exact (put_row _ _ _ _).2.1
   have hc3 : G3.col < C := by rw [HG3c.out]; exact HK1.out.col
   have hz0 : ((dd : Int) == 0) = false := by simp; omega
   have hd1 : ¬ (dd : Int) < 1 := by omega
   have hd2 : ¬ (C : Int) < (dd : Int) := by omega
   clear hd hg1 hG3
   obtain ⟨bq, hbq⟩ := exq (decide (e.wrap = true ∨ (C : Int) - (e.g.col : Int) < (dd : Int)))
   go_enter Tryz.func55, Tryz.ntmps55
   go_wp2_with fail
   rw [HW0.out]
   refine (rgcols_any d.A R d.cap C e.g.row e.g.col e.g.ls W0 HD0.out.lns HLen.out hR1 HC0.out).mono ?_
   rintro x k1 ⟨rfl, hb1⟩
   go_wp2_with fail
   refine (rof_any r k1).mono ?_
   rintro x k2 ⟨rfl, hb2⟩
   rw [HV.out]
   have B2 : Below W0.heap.size W0 k2 := hb1.trans (hb2.mono hb1.size)
   have HP2 := hide (HP0.out.later B2)
   have HQ2 := hide (HQ0.out.later B2)
   have HD2 := hide (HD0.out.below B2)
   have HB2 : Hid (Below w.heap.size w k2) := HB0.out.trans (B2.mono HB0.out.size)
   clear hb1 hb2 B2
   obtain ⟨p0, p1, p2, p3, p4, p5, p6, p7, p8, p9, lp⟩ := cells10 HP2.out
   go_upto_region 11 with fail
   go_cut [57] (fun v wx => v = .bool bq ∧ wx = k2)
   case first =>
    rcases Bool.eq_false_or_eq_true e.wrap with hw | hw
    ·rw [hw] at p9
     have hb : bq = true := by rw [← hbq, decide_eq_true_eq]; exact .inl hw
     clear hw hbq; go_wp2
     go_meet
     case rel => exact ⟨by rw [hb], rfl⟩
    ·rw [hw] at p9
     by_cases hfit : (C : Int) - (e.g.col : Int) < (dd : Int)
     ·have hb : bq = true := by rw [← hbq, decide_eq_true_eq]; exact .inr hfit
      clear hw hbq; go_wp2
      go_meet
      case rel => exact ⟨by rw [hb], rfl⟩
     ·have hb : bq = false := by rw [← hbq, decide_eq_false_iff_not, hw]; simp; omega
      clear hw hbq; go_wp2
      go_meet
      case rel => exact ⟨by rw [hb], rfl⟩
   case rest =>
    obtain ⟨hv, hwc⟩ := hcut
    subst hv
    rw [hwc]
    clear hwc
    go_upto_if 57 with fail
    go_cut [] (fun wx => ∃ (A1 : Option Addr) (cap1 : Nat) (N1 : Option Addr) (ln1 cn1 : Nat) (H1 : Option Addr) (lh1 ch1 : Nat) (wv : Bool), Hid (Whole wx w.heap.size 40 [.slice A1 R cap1, .int .i64 g1.row, .int .i64 g1.col, .int .i64 e.p.st, .slice N1 ln1 cn1, .slice H1 lh1 ch1, .int .u8 e.pen.f, .int .u8 e.pen.g, .int .u8 e.pen.b, .bool wv]) ∧ Hid (Whole wx (w.heap.size + 1) 40 [.slice none 0 0, .int .i64 0, .int .i64 0, .int .i64 0, .slice none 0 0, .slice none 0 0, .int .u8 0, .int .u8 0, .int .u8 0, .bool false]) ∧ Hid (Doc wx ⟨A1, cap1, N1, ln1, cn1, H1, lh1, ch1⟩ ⟨g1, e.p, e.pen, wv⟩) ∧ Hid (Below w.heap.size w wx))
    case first =>
     cases hb : bq
     ·have HG1 : Hid (e.g = g1) := by
       unfold Hid
       rw [hb, decide_eq_false_iff_not, not_or] at hbq
       rw [← HG.out, ready_no (dd : Int) (by simpa using hbq.1) (by omega)]
      have HD3 : Hid (Doc k2 ⟨d.A, d.cap, d.N, d.ln, d.cn, d.H, d.lh, d.ch⟩ ⟨g1, e.p, e.pen, e.wrap⟩) := by unfold Hid; rw [← HG1.out]; exact HD2.out
      have HP3 : Hid (Whole k2 w.heap.size 40 [.slice d.A R d.cap, .int .i64 g1.row, .int .i64 g1.col, .int .i64 e.p.st, .slice d.N d.ln d.cn, .slice d.H d.lh d.ch, .int .u8 e.pen.f, .int .u8 e.pen.g, .int .u8 e.pen.b, .bool e.wrap]) := by unfold Hid; rw [← HG1.out]; exact HP2.out
      have HQ3 := HQ2
      have HB3 := HB2
      clear hbq; go_wp2
      go_meet
      case rel => exact ⟨_, _, _, _, _, _, _, _, _, HP3, HQ3, HD3, HB3⟩
     ·have HG1 : Hid (feedG ⟨e.g.ls, e.g.row, 0⟩ C (blankP e.pen) = g1) := by unfold Hid; rw [← HG.out]; unfold readyG; rw [if_pos (by rw [hb, decide_eq_true_eq] at hbq; exact hbq)]
      have HOK0 : Hid (EOk ⟨⟨e.g.ls, e.g.row, 0⟩, e.p, e.pen, e.wrap⟩ R C) := ⟨HOK.out.g.cursor e.g.row 0 hrow (by omega), HOK.out.p, HOK.out.pen⟩
      have ho0 : Only w.heap.size k2 (k2.setCell ⟨w.heap.size, 2, none⟩ (.int .i64 0)) := Only.put 2 _
      have HD0c : Hid (Doc (k2.setCell ⟨w.heap.size, 2, none⟩ (.int .i64 0)) d ⟨⟨e.g.ls, e.g.row, 0⟩, e.p, e.pen, e.wrap⟩) := (HD2.out.only ho0 HP2.out).as rfl rfl
      have HP0c := hide (HP2.out.put 2 (.int .i64 0))
      have HQ0c : Hid (Whole (k2.setCell ⟨w.heap.size, 2, none⟩ (.int .i64 0)) (w.heap.size + 1) 40 [.slice none 0 0, .int .i64 0, .int .i64 0, .int .i64 0, .slice none 0 0, .slice none 0 0, .int .u8 0, .int .u8 0, .int .u8 0, .bool false]) := HQ2.out.other hne2
      have HB0c : Hid (Below w.heap.size w (k2.setCell ⟨w.heap.size, 2, none⟩ (.int .i64 0))) := ho0.below HB2.out HB2.out.size (Nat.le_refl _)
      clear ho0
      have hfd : Calls Tryz.prog 57 #[.agg #[.slice d.A R d.cap, .int .i64 e.g.row, .int .i64 0, .int .i64 e.p.st, .slice d.N d.ln d.cn, .slice d.H d.lh d.ch, .int .u8 e.pen.f, .int .u8 e.pen.g, .int .u8 e.pen.b, .bool e.wrap]] (k2.setCell ⟨w.heap.size, 2, none⟩ (.int .i64 0)) (GaveM R ⟨g1, e.p, e.pen, e.wrap⟩ (k2.setCell ⟨w.heap.size, 2, none⟩ (.int .i64 0))) := by have := rfeed9_any HD0c.out HOK0.out; rw [← HG1.out]; exact this
      have zp2 := HP2.out.frozen
      go_wp2_with fail
      refine hfd.mono ?_
      rintro x k3 hx
      obtain ⟨A1, cap1, N1, ln1, cn1, H1, lh1, ch1, rfl, hd3, hb3⟩ := hx.lit
      clear hfd hx zp2 p0 p1 p2 p3 p4 p5 p6 p7 p8 p9 lp
      have hp3 := HP0c.out.later hb3
      simp only [List.set_cons_succ, List.set_cons_zero] at hp3
      obtain ⟨W3, hW3⟩ := exq (((((((((((k3.setCell ⟨w.heap.size, 0, none⟩ (.slice A1 R cap1)).setCell ⟨w.heap.size, 1, none⟩ (.int .i64 g1.row)).setCell ⟨w.heap.size, 2, none⟩ (.int .i64 g1.col)).setCell ⟨w.heap.size, 3, none⟩ (.int .i64 e.p.st)).setCell ⟨w.heap.size, 4, none⟩ (.slice N1 ln1 cn1)).setCell ⟨w.heap.size, 5, none⟩ (.slice H1 lh1 ch1)).setCell ⟨w.heap.size, 6, none⟩ (.int .u8 e.pen.f)).setCell ⟨w.heap.size, 7, none⟩ (.int .u8 e.pen.g)).setCell ⟨w.heap.size, 8, none⟩ (.int .u8 e.pen.b)).setCell ⟨w.heap.size, 9, none⟩ (.bool e.wrap)))
      have ho3 : Only w.heap.size k3 W3 := by rw [← hW3]; exact only10 _ _ _ _ _ _ _ _ _ _
      have HP3 : Hid (Whole W3 w.heap.size 40 [.slice A1 R cap1, .int .i64 g1.row, .int .i64 g1.col, .int .i64 e.p.st, .slice N1 ln1 cn1, .slice H1 lh1 ch1, .int .u8 e.pen.f, .int .u8 e.pen.g, .int .u8 e.pen.b, .bool e.wrap]) := by unfold Hid; rw [← hW3]; exact put10 hp3 _ _ _ _ _ _ _ _ _ _
      have HD3 : Hid (Doc W3 ⟨A1, cap1, N1, ln1, cn1, H1, lh1, ch1⟩ ⟨g1, e.p, e.pen, e.wrap⟩) := hd3.only ho3 hp3
      have hq3 := HQ0c.out.later hb3
      have HQ3 : Hid (Whole W3 (w.heap.size + 1) 40 [.slice none 0 0, .int .i64 0, .int .i64 0, .int .i64 0, .slice none 0 0, .slice none 0 0, .int .u8 0, .int .u8 0, .int .u8 0, .bool false]) := hq3.same (ho3.block _ hq3.lt (by simp))
      have hbb3 := HB0c.out.trans (hb3.mono HB0c.out.size)
      have HB3 : Hid (Below w.heap.size w W3) := ho3.below hbb3 hbb3.size (Nat.le_refl _)
      obtain ⟨p0, p1, p2, p3, p4, p5, p6, p7, p8, p9, lp⟩ := cells10 hp3
      have zp3 := hp3.frozen
      clear hd3 hb3 hp3 ho3 hq3 hbb3; go_wp2
      try rw [hW3]
      go_meet
      case rel => exact ⟨_, _, _, _, _, _, _, _, _, HP3, HQ3, HD3, HB3⟩
    case rest =>
     obtain ⟨A1, cap1, N1, ln1, cn1, H1, lh1, ch1, wv, HP3, HQ3, HD3, HB3⟩ := hcut
     clear HP2 HQ2 HD2 HB2 HW0 HP0 HQ0 HD0 HDW HLen HC0 HB0 hbq; clear p0 p1 p2 p3 p4 p5 p6 p7 p8 p9 lp
     obtain ⟨p0, p1, p2, p3, p4, p5, p6, p7, p8, p9, lp⟩ := cells10 HP3.out
     go_wp2_with fail
     refine (rcof_v r e.pen.f e.pen.g e.pen.b r 0 0 dd e.pen.f e.pen.g e.pen.b true HO.out wc).mono ?_
     rintro x k4 ⟨rfl, hb4⟩
     have hal : Below k4.heap.size k4 (k4.alloc (.cells #[.int .i64 r, .int .i64 0, .int .i64 0, .int .u8 dd, .int .u8 e.pen.f, .int .u8 e.pen.g, .int .u8 e.pen.b] 166)) := new1W _ _
     have hb5 := hb4.trans (hal.mono hb4.size)
     obtain ⟨W5, hW5⟩ := exq (k4.alloc (.cells #[.int .i64 r, .int .i64 0, .int .i64 0, .int .u8 dd, .int .u8 e.pen.f, .int .u8 e.pen.g, .int .u8 e.pen.b] 166))
     have hp5 := HP3.out.later hb5
     obtain ⟨p0, p1, p2, p3, p4, p5, p6, p7, p8, p9, lp⟩ := cells10 hp5
     rw [hW5] at hb5
     have HP5 := hide (HP3.out.later hb5)
     have HQ5 := hide (HQ3.out.later hb5)
     have HD5 := hide (HD3.out.below hb5)
     have HB5 : Hid (Below w.heap.size w W5) := HB3.out.trans (hb5.mono HB3.out.size)
     have HW5 := hide hW5; clear hb4 hal hb5 hp5 hW5; go_wp2_with fail
     rw [HW5.out]
     have hput := rgput_any A1 R C cap1 g1 W5 HD5.out.lns HK1.out (g1.row : Int) (g1.col : Int) r 0 0 dd e.pen.f e.pen.g e.pen.b (by omega) (by have := HK1.out.col; omega)
     rw [HG3.out] at hput
     refine hput.mono ?_
     rintro x k6 ⟨A2, cap2, rfl, hl, hb⟩
     clear hput p0 p1 p2 p3 p4 p5 p6 p7 p8 p9 lp
     have hp1 := HP5.out.later hb
     have hq1 := HQ5.out.later hb
     have hbb := HB5.out.trans (hb.mono HB5.out.size)
     have hdp := (HD5.out.below hb).dp
     obtain ⟨p0, p1, p2, p3, p4, p5, p6, p7, p8, p9, lp⟩ := cells10 hp1
     have zp := hp1.frozen
     go_upto_region 18 with fail
     obtain ⟨W7, hW7⟩ := exq ((((((k6.setCell ⟨w.heap.size, 0, none⟩ (.slice A2 R cap2)).setCell ⟨w.heap.size, 1, none⟩ (.int .i64 G3.row)).setCell ⟨w.heap.size, 2, none⟩ (.int .i64 G3.col)).setCell ⟨w.heap.size, 9, none⟩ (.bool false)).setCell ⟨w.heap.size, 2, none⟩ (.int .i64 ((G3.col : Int) + (dd : Int)))))
     have ho7 : Only w.heap.size k6 W7 := by rw [← hW7]; exact (((((Only.put 0 _).trans (Only.put 1 _)).trans (Only.put 2 _)).trans (Only.put 9 _)).trans (Only.put 2 _))
     have HP7 : Hid (Whole W7 w.heap.size 40 [.slice A2 R cap2, .int .i64 G3.row, .int .i64 ((G3.col : Int) + (dd : Int)), .int .i64 e.p.st, .slice N1 ln1 cn1, .slice H1 lh1 ch1, .int .u8 e.pen.f, .int .u8 e.pen.g, .int .u8 e.pen.b, .bool false]) := by unfold Hid; rw [← hW7]; exact ((((hp1.put 0 _).put 1 _).put 2 _).put 9 _).put 2 _
     have HQ7 : Hid (Whole W7 (w.heap.size + 1) 40 [.slice none 0 0, .int .i64 0, .int .i64 0, .int .i64 0, .slice none 0 0, .slice none 0 0, .int .u8 0, .int .u8 0, .int .u8 0, .bool false]) := hq1.same (ho7.block _ hq1.lt (by simp))
     have HB7 : Hid (Below w.heap.size w W7) := ho7.below hbb hbb.size (Nat.le_refl _)
     have HL7 : Hid (Lns W7 A2 G3.ls) := hl.only ho7 hp1
     have HDP7 : Hid (Dp W7 e.p N1 ln1 cn1 H1 lh1 ch1) := hdp.keep (.of_only ho7 hp1 (by decide)) (.of_only ho7 hp1 (by decide))
     rw [hW7]
     clear ho7 hp1 hq1 hbb hdp hl hb hW7 zp p0 p1 p2 p3 p4 p5 p6 p7 p8 p9 lp
     by_cases hq : (C : Int) ≤ (G3.col : Int) + (dd : Int)
     ·have HT : Hid (typedE e C r = ⟨{ G3 with col := C - 1 }, e.p, e.pen, true⟩) := by unfold Hid typedE; rw [if_neg h0, if_neg hno, HV.out, HG.out, HO2.out, HG3.out]; rw [if_pos (by have := HG3c.out; omega)]; skip
      rw [HT.out]
      have hp1 := HP7.out
      have hq1 := HQ7.out
      have ho1 : Only w.heap.size W7 ((W7.setCell ⟨w.heap.size, 2, none⟩ (.int .i64 ((C : Int) - 1))).setCell ⟨w.heap.size, 9, none⟩ (.bool true)) := ((Only.put 2 _).trans (Only.put 9 _))
      have hbb := HB7.out
      have HB1 : Hid (Below w.heap.size w ((W7.setCell ⟨w.heap.size, 2, none⟩ (.int .i64 ((C : Int) - 1))).setCell ⟨w.heap.size, 9, none⟩ (.bool true))) := ho1.below hbb hbb.size (Nat.le_refl _)
      have HD1 : Hid (Doc ((W7.setCell ⟨w.heap.size, 2, none⟩ (.int .i64 ((C : Int) - 1))).setCell ⟨w.heap.size, 9, none⟩ (.bool true)) ⟨A2, cap2, N1, ln1, cn1, H1, lh1, ch1⟩ ⟨{ G3 with col := C - 1 }, e.p, e.pen, true⟩) := ⟨HL7.out.only ho1 hp1, HDP7.out.keep (.of_only ho1 hp1 (by decide)) (.of_only ho1 hp1 (by decide))⟩
      have HQ1 : Hid (Whole ((W7.setCell ⟨w.heap.size, 2, none⟩ (.int .i64 ((C : Int) - 1))).setCell ⟨w.heap.size, 9, none⟩ (.bool true)) (w.heap.size + 1) 40 [.slice none 0 0, .int .i64 0, .int .i64 0, .int .i64 0, .slice none 0 0, .slice none 0 0, .int .u8 0, .int .u8 0, .int .u8 0, .bool false]) := ((hq1.other hne2).other hne2)
      obtain ⟨p0, p1, p2, p3, p4, p5, p6, p7, p8, p9, lp⟩ := cells10 hp1
      obtain ⟨r0, r1, r2, r3, r4, r5, r6, r7, r8, r9, lr⟩ := cells10 hq1
      have zp := hp1.frozen
      have zq := hq1.frozen
      clear hp1 hq1 ho1 hbb; go_wp2
      try rw [HT.out]
      have hcc : (C : Int) - 1 = ((C - 1 : Nat) : Int) := by omega
      rw [hcc]
      rw [hcc] at HB1 HD1 HQ1
      exact retDoc (e := ⟨{ G3 with col := C - 1 }, e.p, e.pen, true⟩) Tryz.results55 rfl rfl HQ1.out ⟨A2, cap2, N1, ln1, cn1, H1, lh1, ch1⟩ HD1.out HB1.out (by omega)
     ·have HT : Hid (typedE e C r = ⟨{ G3 with col := G3.col + dd }, e.p, e.pen, false⟩) := by unfold Hid typedE; rw [if_neg h0, if_neg hno, HV.out, HG.out, HO2.out, HG3.out]; rw [if_neg (by have := HG3c.out; omega)]; simp only [HG3c.out, Int.toNat_natCast]
      rw [HT.out]
      obtain ⟨p0, p1, p2, p3, p4, p5, p6, p7, p8, p9, lp⟩ := cells10 HP7.out
      obtain ⟨r0, r1, r2, r3, r4, r5, r6, r7, r8, r9, lr⟩ := cells10 HQ7.out
      have zq := HQ7.out.frozen
      go_wp2
      try rw [HT.out]
      exact retDoc (e := ⟨{ G3 with col := G3.col + dd }, e.p, e.pen, false⟩) Tryz.results55 rfl rfl HQ7.out ⟨A2, cap2, N1, ln1, cn1, H1, lh1, ch1⟩ ⟨HL7.out, HDP7.out⟩ HB7.out (by omega)
end
section
variable {g : Nat} {w : World} {p : Ps}
theorem Pr.sixteen (h : Pr w g p) : ∃ b0 b1 b2 b3 m l0 l1 l2 l3 l4 l5 l6 l7 l8 cn st : Int, Whole w g 93 [.int .u8 b0, .int .u8 b1, .int .u8 b2, .int .u8 b3, .int .i64 m, .int .i64 l0, .int .i64 l1, .int .i64 l2, .int .i64 l3, .int .i64 l4, .int .i64 l5, .int .i64 l6, .int .i64 l7, .int .i64 l8, .int .i64 cn, .int .i64 st] ∧ ∀ w' g', Whole w' g' 93 [.int .u8 b0, .int .u8 b1, .int .u8 b2, .int .u8 b3, .int .i64 m, .int .i64 l0, .int .i64 l1, .int .i64 l2, .int .i64 l3, .int .i64 l4, .int .i64 l5, .int .i64 l6, .int .i64 l7, .int .i64 l8, .int .i64 cn, .int .i64 st] → Pr w' g' p := by
 obtain ⟨l, ha, b, hb, hw, ht, h4⟩ := h
 have hl := ha.len
 match b, hb with
 | [b0, b1, b2, b3], _ =>
  match l, hl with
  | [l0, l1, l2, l3, l4, l5, l6, l7, l8], _ =>
   exact ⟨b0, b1, b2, b3, _, l0, l1, l2, l3, l4, l5, l6, l7, l8, _, _, hw, fun w' g' hw' => ⟨[l0, l1, l2, l3, l4, l5, l6, l7, l8], ha, [b0, b1, b2, b3], rfl, hw', ht, h4⟩⟩
theorem pcopy_any (h : Pr w g p) : Calls Tryz.prog 42 #[.pointer (some ⟨g, 0, none⟩)] w fun e w' => e = .returned (.pointer (some ⟨w.heap.size, 0, none⟩)) ∧ Pr w' w.heap.size p ∧ Below w.heap.size w w' := by
 obtain ⟨b0, b1, b2, b3, m, l0, l1, l2, l3, l4, l5, l6, l7, l8, cn, st, hw, hall⟩ := h.sixteen
 have c0 : w.cell? ⟨g, 0, none⟩ = some (.int .u8 b0) := hw.cell 0
 have c1 : w.cell? ⟨g, 1, none⟩ = some (.int .u8 b1) := hw.cell 1
 have c2 : w.cell? ⟨g, 2, none⟩ = some (.int .u8 b2) := hw.cell 2
 have c3 : w.cell? ⟨g, 3, none⟩ = some (.int .u8 b3) := hw.cell 3
 have c4 : w.cell? ⟨g, 4, none⟩ = some (.int .i64 m) := hw.cell 4
 have c5 : w.cell? ⟨g, 5, none⟩ = some (.int .i64 l0) := hw.cell 5
 have c6 : w.cell? ⟨g, 6, none⟩ = some (.int .i64 l1) := hw.cell 6
 have c7 : w.cell? ⟨g, 7, none⟩ = some (.int .i64 l2) := hw.cell 7
 have c8 : w.cell? ⟨g, 8, none⟩ = some (.int .i64 l3) := hw.cell 8
 have c9 : w.cell? ⟨g, 9, none⟩ = some (.int .i64 l4) := hw.cell 9
 have c10 : w.cell? ⟨g, 10, none⟩ = some (.int .i64 l5) := hw.cell 10
 have c11 : w.cell? ⟨g, 11, none⟩ = some (.int .i64 l6) := hw.cell 11
 have c12 : w.cell? ⟨g, 12, none⟩ = some (.int .i64 l7) := hw.cell 12
 have c13 : w.cell? ⟨g, 13, none⟩ = some (.int .i64 l8) := hw.cell 13
 have c14 : w.cell? ⟨g, 14, none⟩ = some (.int .i64 cn) := hw.cell 14
 have c15 : w.cell? ⟨g, 15, none⟩ = some (.int .i64 st) := hw.cell 15
 have lt := hw.lt
 have HN := hide (hall _ _ (Whole.new w 93 [.int .u8 b0, .int .u8 b1, .int .u8 b2, .int .u8 b3, .int .i64 m, .int .i64 l0, .int .i64 l1, .int .i64 l2, .int .i64 l3, .int .i64 l4, .int .i64 l5, .int .i64 l6, .int .i64 l7, .int .i64 l8, .int .i64 cn, .int .i64 st]))
 have HB : Hid (Below w.heap.size w (w.alloc (.cells #[.int .u8 b0, .int .u8 b1, .int .u8 b2, .int .u8 b3, .int .i64 m, .int .i64 l0, .int .i64 l1, .int .i64 l2, .int .i64 l3, .int .i64 l4, .int .i64 l5, .int .i64 l6, .int .i64 l7, .int .i64 l8, .int .i64 cn, .int .i64 st] 93))) := (Below.refl _ _).alloc (Nat.le_refl _) _
 clear hw hall h
 go_enter Tryz.func42, Tryz.ntmps42
 go_wp2; go_ret
 exact ⟨rfl, HN.out, HB.out⟩
end
theorem pnum_any (kd r at_ none_ : Int) (A : Option Addr) (n c : Nat) (ns : List Int) (w : World) (hi : Ints .i64 w A ns) (hn : ns.length = n) :
  Calls Tryz.prog 184 #[.agg #[.int .i64 kd, .int .i32 r, .slice A n c], .int .i64 at_, .int .i64 none_] w (Num .i64 (numP ns at_ none_) w) := by
 have HB : Hid (Below w.heap.size w (w.alloc (.cells #[.int .i64 kd, .int .i32 r, .slice A n c] 56))) := (Below.refl _ _).alloc (Nat.le_refl _) _
 by_cases h0 : at_ < 0
 ·have E : Hid (numP ns at_ none_ = none_) := by unfold Hid numP; rw [if_pos (.inl h0)]
  clear hi hn
  go_enter Tryz.func184, Tryz.ntmps184
  go_wp2; go_ret
  exact ⟨ret_int (by rw [E.out]), HB.out⟩
 ·by_cases h1 : (n : Int) ≤ at_
  ·have E : Hid (numP ns at_ none_ = none_) := by unfold Hid numP; rw [if_pos (.inr (.inl (by rw [hn]; exact h1)))]
   have h0' : 0 ≤ at_ := by omega
   clear hi hn h0
   go_enter Tryz.func184, Tryz.ntmps184
   go_wp2; go_ret
   exact ⟨ret_int (by rw [E.out]), HB.out⟩
  ·obtain ⟨j, rfl⟩ : ∃ j : Nat, at_ = (j : Int) := ⟨at_.toNat, by omega⟩
   obtain ⟨b, off, rfl, hc, hb⟩ := hi.at (i := j) (by omega)
   obtain ⟨x, hx⟩ := exq (ns.getD j 0)
   rw [hx] at hc
   have h0' : (0 : Int) ≤ (j : Int) := by omega
   have h1' : (j : Int) < (n : Int) := by omega
   by_cases h2 : x = -1
   ·subst h2
    have E : Hid (numP ns (j : Int) none_ = none_) := by unfold Hid numP; rw [if_pos (.inr (.inr (by simpa using hx)))]
    clear hi hn h0 h1 hx
    go_enter Tryz.func184, Tryz.ntmps184
    go_wp2; go_ret
    exact ⟨ret_int (by rw [E.out]), HB.out⟩
   ·have E : Hid (numP ns (j : Int) none_ = x) := by
     unfold Hid numP
     rw [if_neg, Int.toNat_natCast, hx]
     rintro (q | q | q)
     ·omega
     ·omega
     ·rw [Int.toNat_natCast, hx] at q; exact h2 q
    have q2 : (x == -1) = false := by simp [h2]
    clear hi hn h0 h1 hx h2
    go_enter Tryz.func184, Tryz.ntmps184
    go_wp2; go_ret
    exact ⟨ret_int (by rw [E.out]), HB.out⟩
theorem rpnum_any (kd r at_ none_ : Int) (A : Option Addr) (n c : Nat) (ns : List Int) (w : World) (hi : Ints .i64 w A ns) (hn : ns.length = n) :
  Calls Tryz.prog 54 #[.agg #[.int .i64 kd, .int .i64 r, .slice A n c], .int .i64 at_, .int .i64 none_] w (Num .i64 (numP ns at_ none_) w) := by
 have HB : Hid (Below w.heap.size w (w.alloc (.cells #[.int .i64 kd, .int .i64 r, .slice A n c] 60))) := (Below.refl _ _).alloc (Nat.le_refl _) _
 by_cases h0 : at_ < 0
 ·have E : Hid (numP ns at_ none_ = none_) := by unfold Hid numP; rw [if_pos (.inl h0)]
  clear hi hn
  go_enter Tryz.func54, Tryz.ntmps54
  go_wp2; go_ret
  exact ⟨ret_int (by rw [E.out]), HB.out⟩
 ·by_cases h1 : (n : Int) ≤ at_
  ·have E : Hid (numP ns at_ none_ = none_) := by unfold Hid numP; rw [if_pos (.inr (.inl (by rw [hn]; exact h1)))]
   have h0' : 0 ≤ at_ := by omega
   clear hi hn h0
   go_enter Tryz.func54, Tryz.ntmps54
   go_wp2; go_ret
   exact ⟨ret_int (by rw [E.out]), HB.out⟩
  ·obtain ⟨j, rfl⟩ : ∃ j : Nat, at_ = (j : Int) := ⟨at_.toNat, by omega⟩
   obtain ⟨b, off, rfl, hc, hb⟩ := hi.at (i := j) (by omega)
   obtain ⟨x, hx⟩ := exq (ns.getD j 0)
   rw [hx] at hc
   have h0' : (0 : Int) ≤ (j : Int) := by omega
   have h1' : (j : Int) < (n : Int) := by omega
   by_cases h2 : x = -1
   ·subst h2
    have E : Hid (numP ns (j : Int) none_ = none_) := by unfold Hid numP; rw [if_pos (.inr (.inr (by simpa using hx)))]
    clear hi hn h0 h1 hx
    go_enter Tryz.func54, Tryz.ntmps54
    go_wp2; go_ret
    exact ⟨ret_int (by rw [E.out]), HB.out⟩
   ·have E : Hid (numP ns (j : Int) none_ = x) := by
     unfold Hid numP
     rw [if_neg, Int.toNat_natCast, hx]
     rintro (q | q | q)
     ·omega
     ·omega
     ·rw [Int.toNat_natCast, hx] at q; exact h2 q
    have q2 : (x == -1) = false := by simp [h2]
    clear hi hn h0 h1 hx h2
    go_enter Tryz.func54, Tryz.ntmps54
    go_wp2; go_ret
    exact ⟨ret_int (by rw [E.out]), HB.out⟩
end
end Go.Proofs.YtkijclgbpbhglaaGreatDoor
