/-
  Contracts and plain mathematics of EWalkD.
-/
import Derived.Test.YtkijclgbpbhglaaGreatDoorQd33
import Derived.Test.YtkijclgbpbhglaaGreatDoorQd34
import Derived.Test.YtkijclgbpbhglaaGreatDoorQd18
import Derived.Test.YtkijclgbpbhglaaGreatDoorQd1
import Derived.Lib.MinMax
import Derived.Deep.DeepCutAuto
namespace Go.Proofs.YtkijclgbpbhglaaGreatDoor
set_option maxRecDepth 100000
set_option linter.unusedVariables false
set_option maxHeartbeats 8000000
section
open Go.ChangeShapes Go.WideShapes Go.ChangeAt Go.RowKit
theorem emuDoes_walk (rows cols : Int) (a : Option Addr) (len cap : Nat) (w : World) (hr : (Lit.int .i64 rows).wf = true) (hc : (Lit.int .i64 cols).wf = true) (hev : EvsIn w a len) (hS : Spans w) :
  Calls Tryz.prog 4 #[.int .i64 rows, .int .i64 cols, .slice a len cap] w fun e w' => e = .returned (.bool true) ∧ Below w.heap.size w w' := by
 have HEV := hide hev; have HS := hide hS; clear hr hc hev hS
 obtain ⟨sr, hsr⟩ := exq (smallE rows)
 obtain ⟨sc, hsc⟩ := exq (smallE cols)
 have HSR := hide hsr; have HSC := hide hsc; clear hsr hsc
 by_cases hs : sizeN sr sc
 ·obtain ⟨R, C, rfl, rfl, q1, q2, q3, q4⟩ := sizeE hs
  clear hs
  go_enter Tryz.func4, Tryz.ntmps4
  go_wp2_with fail
  refine (esmall_any rows w).mono ?_
  rintro e w1 ⟨rfl, rfl⟩
  rw [HSR.out]
  go_wp2_with fail
  refine (esmall_any cols w).mono ?_
  rintro e w1 ⟨rfl, rfl⟩
  rw [HSC.out]
  go_wp2_with fail
  refine (enew_yes R C q1 q2 q3 q4 w HS.out).mono ?_
  rintro e w1 ⟨b, L, rfl, hm⟩
  have HM := hide hm; clear hm; go_wp2_with fail
  refine (renew_any R C q1 q2 w1).mono ?_
  rintro e w2 hx
  obtain ⟨A2, cap2, N2, ln2, cn2, H2, lh2, ch2, rfl, hd2, hb2⟩ := hx.lit
  obtain ⟨q, hq⟩ := exq (w2.heap.size)
  obtain ⟨W3, hW3⟩ := exq (w2.alloc (.cells #[.slice A2 R cap2, .int .i64 ((newE R C).g.row : Int), .int .i64 ((newE R C).g.col : Int), .int .i64 (newE R C).p.st, .slice N2 ln2 cn2, .slice H2 lh2 ch2, .int .u8 ((newE R C).pen.f : Int), .int .u8 ((newE R C).pen.g : Int), .int .u8 ((newE R C).pen.b : Int), .bool (newE R C).wrap] 40))
  have hb3 : Below w2.heap.size w2 W3 := by rw [← hW3]; exact new1W _ _
  have hb13 : Below w1.heap.size w1 W3 := hb2.trans (hb3.mono hb2.size)
  have HR0 : Hid (DoesR w b R C q W3 (newE R C) L A2 cap2 N2 ln2 cn2 H2 lh2 ch2) := ⟨HM.out.1.later hb13, HM.out.2.2, by rw [← hW3, ← hq]; exact Whole.new w2 40 [.slice A2 R cap2, .int .i64 ((newE R C).g.row : Int), .int .i64 ((newE R C).g.col : Int), .int .i64 (newE R C).p.st, .slice N2 ln2 cn2, .slice H2 lh2 ch2, .int .u8 ((newE R C).pen.f : Int), .int .u8 ((newE R C).pen.g : Int), .int .u8 ((newE R C).pen.b : Int), .bool (newE R C).wrap], hd2.below hb3, HM.out.2.1.trans (hb13.mono HM.out.2.1.size)⟩
  have HQW : Hid (w.heap.size ≤ q) := by unfold Hid; rw [← hq]; exact Nat.le_trans HM.out.2.1.size hb2.size
  have HW3 := hide hW3; have HQ := hide hq; clear hx hd2 hb2 hb3 hb13 hW3 hq
  obtain ⟨mm, hm1, hm2, hm3⟩ : ∃ mm : Nat, mm ≤ len ∧ mm ≤ 40 ∧ (mm = len ∨ mm = 40) := ⟨min len 40, by omega, by omega, by omega⟩
  go_wp2
  try rw [HW3.out, HQ.out]
  go_loopw [10, 11] (fun i _ wr => ∃ (k : Nat) (ej : Em) (L1 : Nat) (A5 : Option Addr) (cap5 : Nat) (N5 : Option Addr) (ln5 cn5 : Nat) (H5 : Option Addr) (lh5 ch5 : Nat), k ≤ mm ∧ i = .int .i64 k ∧ DoesR w b R C q wr ej L1 A5 cap5 N5 ln5 cn5 H5 lh5 ch5) (fun i _ _ => mm - (intOf i).toNat)
  case atStart => exact ⟨0, _, _, _, _, _, _, _, _, _, _, Nat.zero_le _, rfl, HR0.out⟩
  case round =>
   obtain ⟨k, ej, L1, A5, cap5, N5, ln5, cn5, H5, lh5, ch5, hk, rfl, hrr⟩ := hrel
   have HRR := hide hrr; clear hrr
   go_upto_region 7 with fail
   go_cut [45] (fun v wx => v = .bool (decide (k < mm)) ∧ wx = wr)
   case first =>
    by_cases hkm : k < mm
    ·have g1 : (k : Int) < (len : Int) := by omega
     have g2 : (k : Int) < 40 := by omega
     go_wp2
     go_meet
     case rel => exact ⟨by rw [decide_eq_true hkm], rfl⟩
    ·by_cases g1 : k < len
     ·have g2' : decide ((k : Int) < 40) = false := by simp; omega
      go_wp2
      go_meet
      case rel => exact ⟨by rw [decide_eq_false hkm], rfl⟩
     ·have g1' : decide ((k : Int) < (len : Int)) = false := by simp; omega
      go_wp2
      go_meet
      case rel => exact ⟨by rw [decide_eq_false hkm], rfl⟩
   case rest =>
    obtain ⟨hv, hwc⟩ := hcut
    subst hv
    rw [hwc]
    clear hwc
    by_cases hkm : k < mm
    ·have hd : decide (k < mm) = true := by simp [hkm]
     rw [hd]
     clear hd; have HKM := hide hkm
     rcases HEV.out with h0 | ⟨bb, off, rfl, hall⟩
     ·exfalso; omega
     obtain ⟨kd, r, A, n, c, zs, y0, y1, y2, hin⟩ := hall k (by omega)
     have hblt := block_lt_of_cell y0
     have z0 : wr.cell? ⟨bb, off + k * 3, none⟩ = some (.int .i64 kd) := (HRR.out.2.2.2.2.cell (p := ⟨bb, off + k * 3, none⟩) hblt).trans y0
     have z1 : wr.cell? ⟨bb, off + k * 3 + 1, none⟩ = some (.int .i32 r) := (HRR.out.2.2.2.2.cell (p := ⟨bb, off + k * 3 + 1, none⟩) hblt).trans y1
     have z2 : wr.cell? ⟨bb, off + k * 3 + 2, none⟩ = some (.slice A n c) := (HRR.out.2.2.2.2.cell (p := ⟨bb, off + k * 3 + 2, none⟩) hblt).trans y2
     obtain ⟨hzl, hnc, hn0, hmaxc⟩ := hin.row.len
     have hmaxc2 := hmaxc
     unfold maxLen at hmaxc2
     obtain ⟨n10, hn10, hnb, hnn⟩ : ∃ n10 : Nat, min (n : Int) 10 = (n10 : Int) ∧ n10 ≤ 10 ∧ n10 ≤ n := ⟨min n 10, by omega, by omega, by omega⟩
     obtain ⟨ys, hys⟩ := exq (zs.take n10)
     have HYL : Hid (ys.length = n10) := by unfold Hid; rw [← hys, List.length_take, hzl]; omega
     have HIY : Hid (Ints .i64 w A ys) := by unfold Hid; rw [← hys]; exact hin.row.ints.take n10
     have HR32 : Hid (R32 r) := ⟨hin.r0, hin.r1⟩
     have f0 : (0 : Int) ≤ (n10 : Int) := by omega
     have f1 : (n10 : Int) ≤ (c : Int) := by omega
     have HG1 : Hid ((k : Int) < (len : Int)) := by unfold Hid; omega
     have g1 := HG1.out
     have g1n : k < len := by omega
     clear hall y0 y1 y2 hys hkm hzl hin
     obtain ⟨qx, hqx⟩ := exq (wr.heap.size)
     go_wp2_with fail
     obtain ⟨W2, hW2⟩ := exq ((wr.alloc (.cells #[.int .i64 kd, .int .i32 r, .slice A n10 c] 56)).alloc (.cells #[.int .i64 kd, .int .i32 r, .slice A n10 c] 56))
     have hb2 : Below wr.heap.size wr W2 := by rw [← hW2]; exact two_new _ _ _ _ _
     have hxb : Whole W2 qx 56 [.int .i64 kd, .int .i32 r, .slice A n10 c] := by rw [← hW2, ← hqx]; exact (Whole.new _ _ _).alloc _
     have hxs : Whole W2 (qx + 1) 56 [.int .i64 kd, .int .i32 r, .slice A n10 c] := by rw [← hW2, ← hqx]; exact whole_snd _ _ _ _
     have HB2 : Hid (Below w.heap.size w W2) := HRR.out.2.2.2.2.trans (hb2.mono HRR.out.2.2.2.2.size)
     have HES : Hid (Evs w.heap.size 56 .i32 W2 (some ⟨qx + 1, 0, none⟩) [⟨kd, r, ys⟩]) := Evs.one hxs HYL.out (IntsT.old HIY.out HB2.out)
     have HE2 := hide (HRR.out.1.later hb2)
     have HM2 := hide (HRR.out.2.2.1.later hb2)
     have HD2 := hide (HRR.out.2.2.2.1.below hb2)
     have HXB := hide hxb
     have HEB : Hid (∀ x ∈ ([⟨kd, r, ys⟩] : List Ev), EvB x) := by
      unfold Hid
      have := HYL.out
      intro x hx
      simp only [List.mem_cons, List.not_mem_nil, or_false] at hx
      subst hx
      exact ⟨HR32.out.1, HR32.out.2, by show ys.length ≤ _; omega⟩
     have HEN : Hid (∀ x ∈ ([⟨kd, r, ys⟩] : List Ev), x.n.length ≤ 1000000) := by
      unfold Hid
      have := HYL.out
      intro x hx
      simp only [List.mem_cons, List.not_mem_nil, or_false] at hx
      subst hx
      show ys.length ≤ _
      omega
     rw [hW2]
     clear hb2 hxb hxs hW2
     refine (edo_any HE2.out (some ⟨qx + 1, 0, none⟩) 1 1 [⟨kd, r, ys⟩] HES.out rfl (by omega) (B := w.heap.size) HRR.out.2.1 HB2.out.size HEB.out HEN.out).mono ?_
     rintro e w3 ⟨rfl, L3, ha⟩
     rw [doAll_cons, doAll_nil] at ha
     obtain ⟨en, hen⟩ := exq (doE ej C ⟨kd, r, ys⟩)
     rw [hen] at ha
     have HENX := hide hen; have HE3 := hide ha.emu
     have HM3 := hide (HE2.out.keeps ha HM2.out (by decide))
     have HX3 := hide (HE2.out.keeps ha HXB.out (by decide))
     have HD3 := hide (HD2.out.turn HE2.out ha.ch)
     have HB3 : Hid (Below w.heap.size w w3) := ha.ch.below HB2.out HB2.out.size HRR.out.2.1
     have HL3 : Hid (Low w.heap.size b L3) := Low.at HRR.out.2.1 ha HB2.out.size
     clear ha hen z0 z1 z2 hqx
     obtain ⟨t0, t1, t2, t3, t4, t5, t6, t7, t8, t9, lt⟩ := cells10 HM3.out
     obtain ⟨x0, x1, x2, lX⟩ := cells3 HX3.out
     go_wp2
     refine rgL (fun w' => Below w3.heap.size w3 w') 4 [(0, 0), (1, 1), (1, 2), (1, 3), (3, 4)] bd1 ?_
     refine stL (hy := fun w hS => by obtain ⟨v0, v1, v2, v3, v4, v5, v6, v7, v8, v9, -⟩ := cells10 (HM3.out.later hS); go_simp <;> with_reducible rfl) (h := ?_)
     refine alL fun K hK => ?_
     go_wp2
     refine hK.out _ _ bd1 ?_
     clear hK K
     refine alL fun K hK => ?_
     go_wp2_with fail
     refine (lpof_any kd r A n10 c _ HR32.out.1 HR32.out.2).mono ?_
     rintro x k4 ⟨rfl, hb⟩
     have B4 : Below w3.heap.size w3 k4 := bd1.trans hb
     clear hb; go_wp2
     refine hK.out _ _ (B4) ?_
     clear hK K
     refine alL fun K hK => ?_
     go_wp2_with fail
     have hdo := redo_any (HD3.out.below B4) HRR.out.1.ok kd r A n10 c ys (HIY.out.below (HB3.out.trans (B4.mono HB3.out.size))) HYL.out HR32.out (by omega)
     rw [HENX.out] at hdo
     refine hdo.mono ?_
     rintro x k5 hx
     obtain ⟨A6, cap6, N6, ln6, cn6, H6, lh6, ch6, rfl, hd5, hb5⟩ := hx.lit
     have B5 : Below w3.heap.size w3 k5 := B4.trans (hb5.mono B4.size)
     clear hdo hx hb5; go_wp2
     refine hK.out _ _ (B5) ?_
     clear hK K
     refine laL fun K hK => ?_
     have hp5 := HM3.out.later B5
     obtain ⟨W6, hW6⟩ := exq (((((((((((k5.setCell ⟨q, 0, none⟩ (.slice A6 R cap6)).setCell ⟨q, 1, none⟩ (.int .i64 en.g.row)).setCell ⟨q, 2, none⟩ (.int .i64 en.g.col)).setCell ⟨q, 3, none⟩ (.int .i64 en.p.st)).setCell ⟨q, 4, none⟩ (.slice N6 ln6 cn6)).setCell ⟨q, 5, none⟩ (.slice H6 lh6 ch6)).setCell ⟨q, 6, none⟩ (.int .u8 en.pen.f)).setCell ⟨q, 7, none⟩ (.int .u8 en.pen.g)).setCell ⟨q, 8, none⟩ (.int .u8 en.pen.b)).setCell ⟨q, 9, none⟩ (.bool en.wrap)))
     have ho6 : Only q k5 W6 := by rw [← hW6]; exact only10 _ _ _ _ _ _ _ _ _ _
     have he5 := HE3.out.later B5
     have hq5 : q ∉ b.l L3 := HE3.out.other HM3.out (by decide)
     have hbb5 := HB3.out.trans (B5.mono HB3.out.size)
     have HR6 : Hid (DoesR w b R C q W6 en L3 A6 cap6 N6 ln6 cn6 H6 lh6 ch6) := ⟨he5.far (Ch.of_only ho6 (by simp : q ∈ [q])) (fun x hx hy => by simp at hy; exact hq5 (hy ▸ hx)) (by have := HQW.out; have := HS.out.size; simp; omega), HL3.out, by rw [← hW6]; exact put10 hp5 _ _ _ _ _ _ _ _ _ _, hd5.only ho6 hp5, ho6.below hbb5 hbb5.size HQW.out⟩
     obtain ⟨r0, r1, r2, r3, r4, r5, r6, r7, r8, r9, lr⟩ := cells10 hp5
     have zp5 := hp5.frozen
     clear hp5 ho6 he5 hq5 hbb5 hd5 B4 B5; go_wp2
     refine hK.out _ _ ?_
     clear hK K
     refine chainL_nil ?_
     have hqq : q ∉ b.l L3 := HE3.out.other HM3.out (by decide)
     clear r0 r1 r2 r3 r4 r5 r6 r7 r8 r9 lr zp5
     obtain ⟨t0, t1, t2, t3, t4, t5, t6, t7, t8, t9, lt⟩ := cells10 HR6.out.2.2.1
     go_wp2_with fail
     try rw [hW6]
     refine (ealike_any HR6.out.1 HR6.out.2.2.2.1).mono ?_
     rintro x w7 ⟨rfl, hb7⟩
     have HR7 : Hid (DoesR w b R C q w7 en L3 A6 cap6 N6 ln6 cn6 H6 lh6 ch6) := ⟨HR6.out.1.later hb7, HR6.out.2.1, HR6.out.2.2.1.later hb7, HR6.out.2.2.2.1.below hb7, HR6.out.2.2.2.2.trans (hb7.mono HR6.out.2.2.2.2.size)⟩
     clear hb7; go_wp2
     go_roundw
     case rel => exact ⟨k + 1, en, L3, A6, cap6, N6, ln6, cn6, H6, lh6, ch6, by have := HKM.out; omega, by have := HKM.out; go_num, HR7.out⟩
     case measure => have := HKM.out; simp [intOf]; omega
    ·have hd : decide (k < mm) = false := by simp [hkm]
     rw [hd]
     go_wp2_with fail
     refine (eknown_any wr HRR.out.1.sp).mono ?_
     rintro e w9 ⟨rfl, hb9⟩
     have HB9 := hide (HRR.out.2.2.2.2.trans (hb9.mono HRR.out.2.2.2.2.size))
     clear hb9; go_wp2; go_ret
     exact ⟨rfl, HB9.out⟩
 ·have HSZ : Hid (sizeB sr sc = false) := by unfold Hid sizeB; simpa using hs
  go_enter Tryz.func4, Tryz.ntmps4
  go_wp2_with fail
  refine (esmall_any rows w).mono ?_
  rintro e w1 ⟨rfl, rfl⟩
  rw [HSR.out]
  go_wp2_with fail
  refine (esmall_any cols w).mono ?_
  rintro e w1 ⟨rfl, rfl⟩
  rw [HSC.out]
  go_wp2_with fail
  refine (enew_no sr sc hs w).mono ?_
  rintro e w1 ⟨rfl, rfl⟩
  go_wp2_with fail
  refine (eknown_any w HS.out).mono ?_
  rintro e w1 ⟨rfl, hb⟩
  have HB1 := hide hb; clear hb; go_wp2_with fail
  refine (rsize_any sr sc w1).mono ?_
  rintro e w2 ⟨rfl, rfl⟩
  rw [HSZ.out]
  go_wp2; go_ret
  exact ⟨rfl, HB1.out⟩
end
end Go.Proofs.YtkijclgbpbhglaaGreatDoor
