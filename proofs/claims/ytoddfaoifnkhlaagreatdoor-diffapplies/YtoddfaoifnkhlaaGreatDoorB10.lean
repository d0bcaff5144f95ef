/-
  Contracts and plain mathematics of GRef4, GMove, GChg, GMade.
-/
import Derived.Test.YtoddfaoifnkhlaaGreatDoorB9
import Derived.Test.YtoddfaoifnkhlaaGreatDoorB8
import Derived.Test.YtoddfaoifnkhlaaGreatDoorB1
import Derived.Test.YtoddfaoifnkhlaaGreatDoorB2
namespace Go.Proofs.YtoddfaoifnkhlaaGreatDoor
set_option maxRecDepth 100000
set_option linter.unusedVariables false
set_option maxHeartbeats 8000000
section
open Go.ChangeShapes Go.WideShapes Go.ChangeAt Go.RowKit
theorem rgerase_any (A : Option Addr) (R C cap : Nat) (g : Gd) (w : World) (h : Lns w A g.ls) (hok : GOk g R C) (R0 x y : Int) (f g2 b : Nat) :
  Calls Tryz.prog 66 #[.agg #[.slice A R cap, .int .i64 g.row, .int .i64 g.col], .int .i64 R0, .int .i64 x, .int .i64 y, .agg #[.int .u8 f, .int .u8 g2, .int .u8 b]] w (GaveD R (eraseG g R0 x y ⟨f, g2, b⟩) w) := by
 obtain ⟨W0, hW0⟩ := exq (((w.alloc (.cells #[.slice A R cap, .int .i64 g.row, .int .i64 g.col] 26)).alloc (.cells #[.int .u8 f, .int .u8 g2, .int .u8 b] 93)).alloc (.cells #[.slice none 0 0, .int .i64 0, .int .i64 0] 26))
 have HB0 : Hid (Below w.heap.size w W0) := by unfold Hid; rw [← hW0]; exact three_new w _ _ _
 have HX0 : Hid (Whole W0 (w.heap.size) 26 [.slice A R cap, .int .i64 g.row, .int .i64 g.col]) := by unfold Hid; rw [← hW0]; exact (((Whole.new _ _ _).alloc _).alloc _)
 have HX1 : Hid (Whole W0 (w.heap.size + 1) 93 [.int .u8 f, .int .u8 g2, .int .u8 b]) := by unfold Hid; rw [← hW0]; exact ((whole_snd _ _ _ _).alloc _)
 have HX2 : Hid (Whole W0 (w.heap.size + 2) 26 [.slice none 0 0, .int .i64 0, .int .i64 0]) := by unfold Hid; rw [← hW0]; exact (whole_thd w _ _ 26 [.slice none 0 0, .int .i64 0, .int .i64 0])
 have HW0 := hide hW0; clear hW0
 have HL := hide (h.below HB0.out)
 have HGO := hide hok
 have hR1 := hok.r1
 have hR2 := hok.r2
 have hC0 := hok.c1
 have hC2 := hok.c2
 have hC1 : C ≤ 1000000 := by omega
 have HLen := hide hok.len
 obtain ⟨p0, p1, p2, lp⟩ := cells3 HX0.out
 obtain ⟨a0, a1, a2, la⟩ := cells3 HX1.out
 clear h hok
 by_cases hr : hasG R R0
 ·obtain ⟨q, hq⟩ : ∃ q : Nat, R0 = (q : Int) := ⟨R0.toNat, by unfold hasG at hr; omega⟩
  subst hq
  have hqR : q < R := by unfold hasG at hr; omega
  have HR := hide hr; clear hr
  by_cases hp : rightN ⟨f, g2, b⟩ = true
  ·have HGE : Hid (eraseG g (q : Int) x y ⟨f, g2, b⟩ = { g with ls := g.ls.set q (eraseC (lAt g.ls q) x y ⟨f, g2, b⟩) }) := by unfold Hid eraseG; rw [if_pos ⟨by rw [HLen.out]; exact HR.out, hp⟩, Int.toNat_natCast]
   obtain ⟨X, hX⟩ := exq (eraseC (lAt g.ls q) x y ⟨f, g2, b⟩)
   rw [hX] at HGE
   have HNr := hide ((HGO.out.each q hqR).1)
   have HXL : Hid (X.length = C) := by unfold Hid; rw [← hX, erase_len, HNr.out]
   have HXX := hide hX; have HPR := hide hp; clear hX hp
   go_enter Tryz.func66, Tryz.ntmps66
   go_wp2_with fail
   rw [HW0.out]
   refine (rhas_any A R cap g.row g.col q W0).mono ?_
   rintro e W1 ⟨rfl, hb⟩
   rw [hasG_in hqR]
   have HL0 := hide (HL.out.below hb)
   have HP0 := hide (HX0.out.later hb)
   have HY0 := hide (HX1.out.later hb)
   have HZ0 := hide (HX2.out.later hb)
   have HB1 := hide (HB0.out.trans (hb.mono HB0.out.size))
   clear hb p0 p1 p2 lp a0 a1 a2 la
   obtain ⟨a0, a1, a2, la⟩ := cells3 HY0.out
   go_wp2_with fail
   refine (rright_any f g2 b W1).mono ?_
   rintro e W2 ⟨rfl, hb⟩
   rw [HPR.out]
   have HL1 := hide (HL0.out.below hb)
   have HP := hide (HP0.out.later hb)
   have HY := hide (HY0.out.later hb)
   have HZ := hide (HZ0.out.later hb)
   have HB2 := hide (HB1.out.trans (hb.mono HB1.out.size))
   clear hb a0 a1 a2 la
   obtain ⟨b0, A', c', rfl, lb, hcell, -, hcels, hA'⟩ := HL1.out.at (i := q) (by rw [HLen.out]; exact hqR)
   rw [HNr.out] at hcell
   have HCr := hide hcels; clear hcels
   obtain ⟨a0, a1, a2, la⟩ := cells3 HY.out
   go_wp2
   refine rgL (fun w' => Below W2.heap.size W2 w') 12 [(0, 1), (0, 4), (0, 7), (0, 8), (0, 2), (0, 0), (0, 3), (0, 5), (0, 6), (1, 9), (1, 10), (1, 11), (3, 12)] bd1 ?_
   iterate 5 refine stL (h := ?_)
   refine stL (hy := fun w hS => by obtain ⟨e0, e1, e2, -⟩ := cells3 (HP.out.later hS); go_simp <;> with_reducible rfl) (h := ?_)
   refine stL (hy := fun w hS => by obtain ⟨e0, e1, e2, -⟩ := cells3 (HP.out.later hS); go_simp <;> with_reducible rfl) (h := ?_)
   refine stL (h := ?_)
   refine stL (hy := fun w hS => by have f0 : w.cell? ⟨b0, q, none⟩ = some (.slice A' C c') := (hS.cell (p := ⟨b0, q, none⟩) lb).trans hcell; go_simp <;> with_reducible rfl) (h := ?_)
   refine alL fun K hK => ?_
   go_wp2
   refine hK.out _ _ bd1 ?_
   clear hK K
   refine alL fun K hK => ?_
   go_wp2_with fail
   refine (rerase_v x y f g2 b HXX.out HCr.out.drew HNr.out hC1).mono ?_
   rintro e k1 ⟨A1, c1, rfl, hc1, hb⟩
   have HC1 := hide hc1
   have Bk1 : Below W2.heap.size W2 k1 := ((Below.refl W2.heap.size W2).drewN 1).trans hb
   clear hb hc1; go_wp2
   refine hK.out _ _ (Bk1) ?_
   clear hK K
   refine alL fun K hK => ?_
   go_wp2_with fail
   refine (with7_any _ R cap g.row g.col g.ls k1 (HL1.out.below Bk1) HLen.out hR2 q hqR A1 C c1 X HC1.out HXL.out hC0 hC1).mono ?_
   rintro e k2 ⟨A2, cap2, rfl, hl, hb⟩
   have HL3 := hide hl
   have Bk2 : Below W2.heap.size W2 k2 := Bk1.trans (hb.mono Bk1.size)
   have HZ3 := hide (HZ.out.later Bk2)
   have HB3 := hide (HB2.out.trans (Bk2.mono HB2.out.size))
   clear hl hb
   obtain ⟨z0, z1, z2, lz⟩ := cells3 HZ3.out
   have hzf := HZ3.out.frozen
   go_wp2
   refine hK.out _ _ (Bk2) ?_
   clear hK K
   refine laL fun K hK => ?_
   go_wp2
   refine hK.out _ _ ?_
   clear hK K
   refine chainL_nil ?_
   clear Bk1 Bk2 a0 a1 a2 la; go_wp2
   refine retG Tryz.results66 rfl rfl (put3 HZ3.out _ _ _) ⟨A2, cap2, ?_, ?_, below_put3 HB3.out (by omega) _ _ _⟩
   ·rw [HGE.out]
   ·rw [HGE.out]
    exact HL3.out.put3 HZ3.out (by decide) (by decide) _ _ _
  ·have HGE : Hid (eraseG g (q : Int) x y ⟨f, g2, b⟩ = g) := by unfold Hid eraseG; rw [if_neg (fun q => hp q.2)]
   have HPR : Hid (rightN ⟨f, g2, b⟩ = false) := by unfold Hid; simpa using hp
   clear hp
   go_enter Tryz.func66, Tryz.ntmps66
   go_wp2_with fail
   rw [HW0.out]
   refine (rhas_any A R cap g.row g.col q W0).mono ?_
   rintro e W1 ⟨rfl, hb⟩
   rw [hasG_in hqR]
   have HL0 := hide (HL.out.below hb)
   have HP0 := hide (HX0.out.later hb)
   have HY0 := hide (HX1.out.later hb)
   have HZ0 := hide (HX2.out.later hb)
   have HB1 := hide (HB0.out.trans (hb.mono HB0.out.size))
   clear hb p0 p1 p2 lp a0 a1 a2 la
   obtain ⟨a0, a1, a2, la⟩ := cells3 HY0.out
   go_wp2_with fail
   refine (rright_any f g2 b W1).mono ?_
   rintro e W2 ⟨rfl, hb⟩
   rw [HPR.out]
   have HL1 := hide (HL0.out.below hb)
   have HP := hide (HP0.out.later hb)
   have HZ := hide (HZ0.out.later hb)
   have HB2 := hide (HB1.out.trans (hb.mono HB1.out.size))
   clear hb a0 a1 a2 la
   obtain ⟨p0, p1, p2, lp⟩ := cells3 HP.out
   obtain ⟨z0, z1, z2, lz⟩ := cells3 HZ.out
   have hzf := HZ.out.frozen
   go_wp2
   refine retG Tryz.results66 rfl rfl (put3 HZ.out _ _ _) ⟨A, cap, ?_, ?_, below_put3 HB2.out (by omega) _ _ _⟩
   ·rw [HGE.out]
   ·rw [HGE.out]
    exact HL1.out.put3 HZ.out (by decide) (by decide) _ _ _
 ·have HGE : Hid (eraseG g R0 x y ⟨f, g2, b⟩ = g) := by unfold Hid eraseG; rw [HLen.out, if_neg (fun q => hr q.1)]
  have HD : Hid (decide (hasG R R0) = false) := by unfold Hid; simp [hr]
  clear hr
  go_enter Tryz.func66, Tryz.ntmps66
  go_wp2_with fail
  rw [HW0.out]
  refine (rhas_any A R cap g.row g.col R0 W0).mono ?_
  rintro e W1 ⟨rfl, hb⟩
  rw [HD.out]
  have HL1 := hide (HL.out.below hb)
  have HP := hide (HX0.out.later hb)
  have HZ := hide (HX2.out.later hb)
  have HB1 := hide (HB0.out.trans (hb.mono HB0.out.size))
  clear hb p0 p1 p2 lp a0 a1 a2 la
  obtain ⟨p0, p1, p2, lp⟩ := cells3 HP.out
  obtain ⟨z0, z1, z2, lz⟩ := cells3 HZ.out
  have hzf := HZ.out.frozen
  go_wp2
  refine retG Tryz.results66 rfl rfl (put3 HZ.out _ _ _) ⟨A, cap, ?_, ?_, below_put3 HB1.out (by omega) _ _ _⟩
  ·rw [HGE.out]
  ·rw [HGE.out]
   exact HL1.out.put3 HZ.out (by decide) (by decide) _ _ _
theorem rglay_any (A : Option Addr) (R C cap : Nat) (g : Gd) (w : World) (h : Lns w A g.ls) (hok : GOk g R C) (R0 : Int) (Al : Option Addr) (nl cl : Nat) (zs : List Cel) (hz : Cels .i64 w Al zs) (hn : zs.length = nl) (hl : nl ≤ 1000000) (hlb : LB zs) :
  Calls Tryz.prog 54 #[.agg #[.slice A R cap, .int .i64 g.row, .int .i64 g.col], .int .i64 R0, .slice Al nl cl] w (GaveD2 R (layG g R0 zs C) (layOk g R0 zs C) w) := by
 obtain ⟨W0, hW0⟩ := exq ((w.alloc (.cells #[.slice A R cap, .int .i64 g.row, .int .i64 g.col] 26)).alloc (.cells #[.slice none 0 0, .int .i64 0, .int .i64 0] 26))
 have HB0 : Hid (Below w.heap.size w W0) := by unfold Hid; rw [← hW0]; exact two_new _ _ _ _ _
 have HX0 : Hid (Whole W0 (w.heap.size) 26 [.slice A R cap, .int .i64 g.row, .int .i64 g.col]) := by unfold Hid; rw [← hW0]; exact ((Whole.new _ _ _).alloc _)
 have HX1 : Hid (Whole W0 (w.heap.size + 1) 26 [.slice none 0 0, .int .i64 0, .int .i64 0]) := by unfold Hid; rw [← hW0]; exact (whole_snd _ _ _ _)
 have HW0 := hide hW0; clear hW0
 have HL := hide (h.below HB0.out)
 have HGO := hide hok
 have hR1 := hok.r1
 have hR2 := hok.r2
 have hC0 := hok.c1
 have hC2 := hok.c2
 have hC1 : C ≤ 1000000 := by omega
 have HLen := hide hok.len
 have HC0 := hide (hok.each 0 hok.r1).1
 have HZs := hide hz; have HNz := hide hn; have HLz := hide hlb
 obtain ⟨p0, p1, p2, lp⟩ := cells3 HX0.out
 clear h hok hz hn hlb
 by_cases hr : hasG R R0
 ·obtain ⟨q, hq⟩ : ∃ q : Nat, R0 = (q : Int) := ⟨R0.toNat, by unfold hasG at hr; omega⟩
  subst hq
  have hqR : q < R := by unfold hasG at hr; omega
  have HK : Hid (layOk g (q : Int) zs C = (decide (nl = C) && rightL zs)) := by unfold Hid layOk; rw [HLen.out, hasG_in hqR, Bool.true_and, HNz.out]
  clear hr
  by_cases hnC : nl = C
  ·have e1 : ((nl : Int) != (C : Int)) = false := by simp [hnC]
   have HNC := hide hnC
   cases hrt : rightL zs
   case false =>
    have HRT := hide hrt
    have HGE : Hid (layG g (q : Int) zs C = g ∧ layOk g (q : Int) zs C = false) := by
     unfold Hid layG
     rw [HK.out, hrt]
     simp
    clear hrt hnC
    go_enter Tryz.func54, Tryz.ntmps54
    go_wp2_with fail
    rw [HW0.out]
    refine (rhas_any A R cap g.row g.col q W0).mono ?_
    rintro e W1 ⟨rfl, hb⟩
    rw [hasG_in hqR]
    have HL0 := hide (HL.out.below hb)
    have HP0 := hide (HX0.out.later hb)
    have HZ0 := hide (HX1.out.later hb)
    have HB00 := hide (HB0.out.trans (hb.mono HB0.out.size))
    clear hb p0 p1 p2 lp
    obtain ⟨p0, p1, p2, lp⟩ := cells3 HP0.out
    go_wp2_with fail
    refine (rgcols_any A R cap C g.row g.col g.ls W1 HL0.out HLen.out hR1 HC0.out).mono ?_
    rintro e W2 ⟨rfl, hb⟩
    have HL1 := hide (HL0.out.below hb)
    have HP := hide (HP0.out.later hb)
    have HZ := hide (HZ0.out.later hb)
    have HB1 := hide (HB00.out.trans (hb.mono HB00.out.size))
    clear hb p0 p1 p2 lp; go_wp2_with fail
    refine (rlright_any Al nl cl zs W2 (HZs.out.below HB1.out) HNz.out hl HLz.out).mono ?_
    rintro e W3 ⟨rfl, hb⟩
    rw [HRT.out]
    have HL1' := hide (HL1.out.below hb)
    have HP' := hide (HP.out.later hb)
    have HZ' := hide (HZ.out.later hb)
    have HB1' := hide (HB1.out.trans (hb.mono HB1.out.size))
    clear hb; clear HL1 HP HZ HB1
    have HL1 := HL1'
    have HP := HP'
    have HZ := HZ'
    have HB1 := HB1'
    obtain ⟨p0, p1, p2, lp⟩ := cells3 HP.out
    obtain ⟨z0, z1, z2, lz⟩ := cells3 HZ.out
    have hzf := HZ.out.frozen
    go_wp2
    refine retG2 Tryz.results54 rfl rfl rfl (put3 HZ.out _ _ _) ⟨A, cap, ?_, ?_, below_put3 HB1.out (by omega) _ _ _⟩
    ·rw [HGE.out.1, HGE.out.2]; rfl
    ·rw [HGE.out.1]
     exact HL1.out.put3 HZ.out (by decide) (by decide) _ _ _
   case true =>
    have HRT := hide hrt
    have HGE : Hid (layG g (q : Int) zs C = { g with ls := g.ls.set q zs } ∧ layOk g (q : Int) zs C = true) := by
     unfold Hid layG
     rw [HK.out, hrt, hnC, Int.toNat_natCast]
     simp
    clear hrt hnC
    go_enter Tryz.func54, Tryz.ntmps54
    go_wp2_with fail
    rw [HW0.out]
    refine (rhas_any A R cap g.row g.col q W0).mono ?_
    rintro e W1 ⟨rfl, hb⟩
    rw [hasG_in hqR]
    have HL0 := hide (HL.out.below hb)
    have HP0 := hide (HX0.out.later hb)
    have HZ0 := hide (HX1.out.later hb)
    have HB00 := hide (HB0.out.trans (hb.mono HB0.out.size))
    clear hb p0 p1 p2 lp
    obtain ⟨p0, p1, p2, lp⟩ := cells3 HP0.out
    go_wp2_with fail
    refine (rgcols_any A R cap C g.row g.col g.ls W1 HL0.out HLen.out hR1 HC0.out).mono ?_
    rintro e W2 ⟨rfl, hb⟩
    have HL1 := hide (HL0.out.below hb)
    have HP := hide (HP0.out.later hb)
    have HZ := hide (HZ0.out.later hb)
    have HB1 := hide (HB00.out.trans (hb.mono HB00.out.size))
    clear hb p0 p1 p2 lp; go_wp2_with fail
    refine (rlright_any Al nl cl zs W2 (HZs.out.below HB1.out) HNz.out hl HLz.out).mono ?_
    rintro e W3 ⟨rfl, hb⟩
    rw [HRT.out]
    have HL1' := hide (HL1.out.below hb)
    have HP' := hide (HP.out.later hb)
    have HZ' := hide (HZ.out.later hb)
    have HB1' := hide (HB1.out.trans (hb.mono HB1.out.size))
    clear hb
    obtain ⟨p0, p1, p2, lp⟩ := cells3 HP'.out
    go_wp2_with fail
    refine (with7_any _ R cap g.row g.col g.ls W3 HL1'.out HLen.out hR2 q hqR Al nl cl zs (HZs.out.below HB1'.out) HNz.out (by rw [HNC.out]; exact hC0) hl).mono ?_
    rintro e k2 ⟨A2, cap2, rfl, hl2, hb⟩
    have HL3 := hide hl2
    have HZ3 := hide (HZ'.out.later hb)
    have HB3 := hide (HB1'.out.trans (hb.mono HB1'.out.size))
    clear hl2 hb p0 p1 p2 lp
    obtain ⟨z0, z1, z2, lz⟩ := cells3 HZ3.out
    have hzf := HZ3.out.frozen
    go_wp2
    refine retG2 Tryz.results54 rfl rfl rfl (put3 HZ3.out _ _ _) ⟨A2, cap2, ?_, ?_, below_put3 HB3.out (by omega) _ _ _⟩
    ·rw [HGE.out.1, HGE.out.2]; rfl
    ·rw [HGE.out.1]
     exact HL3.out.put3 HZ3.out (by decide) (by decide) _ _ _
  ·have e1 : ((nl : Int) != (C : Int)) = true := by simp; omega
   have HGE : Hid (layG g (q : Int) zs C = g ∧ layOk g (q : Int) zs C = false) := by
    unfold Hid layG
    rw [HK.out]
    simp [hnC]
   clear hnC
   go_enter Tryz.func54, Tryz.ntmps54
   go_wp2_with fail
   rw [HW0.out]
   refine (rhas_any A R cap g.row g.col q W0).mono ?_
   rintro e W1 ⟨rfl, hb⟩
   rw [hasG_in hqR]
   have HL0 := hide (HL.out.below hb)
   have HP0 := hide (HX0.out.later hb)
   have HZ0 := hide (HX1.out.later hb)
   have HB00 := hide (HB0.out.trans (hb.mono HB0.out.size))
   clear hb p0 p1 p2 lp
   obtain ⟨p0, p1, p2, lp⟩ := cells3 HP0.out
   go_wp2_with fail
   refine (rgcols_any A R cap C g.row g.col g.ls W1 HL0.out HLen.out hR1 HC0.out).mono ?_
   rintro e W2 ⟨rfl, hb⟩
   have HL1 := hide (HL0.out.below hb)
   have HP := hide (HP0.out.later hb)
   have HZ := hide (HZ0.out.later hb)
   have HB1 := hide (HB00.out.trans (hb.mono HB00.out.size))
   clear hb p0 p1 p2 lp
   obtain ⟨p0, p1, p2, lp⟩ := cells3 HP.out
   obtain ⟨z0, z1, z2, lz⟩ := cells3 HZ.out
   have hzf := HZ.out.frozen
   go_wp2
   refine retG2 Tryz.results54 rfl rfl rfl (put3 HZ.out _ _ _) ⟨A, cap, ?_, ?_, below_put3 HB1.out (by omega) _ _ _⟩
   ·rw [HGE.out.1, HGE.out.2]; rfl
   ·rw [HGE.out.1]
    exact HL1.out.put3 HZ.out (by decide) (by decide) _ _ _
 ·have HD : Hid (decide (hasG R R0) = false) := by unfold Hid; simp [hr]
  have HGE : Hid (layG g R0 zs C = g ∧ layOk g R0 zs C = false) := by
   have : layOk g R0 zs C = false := by unfold layOk; rw [HLen.out]; simp [hr]
   unfold Hid layG
   rw [this]
   simp
  clear hr
  go_enter Tryz.func54, Tryz.ntmps54
  go_wp2_with fail
  rw [HW0.out]
  refine (rhas_any A R cap g.row g.col R0 W0).mono ?_
  rintro e W1 ⟨rfl, hb⟩
  rw [HD.out]
  have HL1 := hide (HL.out.below hb)
  have HP := hide (HX0.out.later hb)
  have HZ := hide (HX1.out.later hb)
  have HB1 := hide (HB0.out.trans (hb.mono HB0.out.size))
  clear hb p0 p1 p2 lp
  obtain ⟨p0, p1, p2, lp⟩ := cells3 HP.out
  obtain ⟨z0, z1, z2, lz⟩ := cells3 HZ.out
  have hzf := HZ.out.frozen
  go_wp2
  refine retG2 Tryz.results54 rfl rfl rfl (put3 HZ.out _ _ _) ⟨A, cap, ?_, ?_, below_put3 HB1.out (by omega) _ _ _⟩
  ·rw [HGE.out.1, HGE.out.2]; rfl
  ·rw [HGE.out.1]
   exact HL1.out.put3 HZ.out (by decide) (by decide) _ _ _
theorem rgmove_any (A : Option Addr) (R C cap : Nat) (g : Gd) (w : World) (h : Lns w A g.ls) (hR : g.ls.length = R) (hR1 : 1 ≤ R) (hR2 : R ≤ 512) (hC0 : 1 ≤ C) (hC2 : C ≤ 512) (hc0 : (lAt g.ls 0).length = C) (r c : Int) :
  Calls Tryz.prog 55 #[.agg #[.slice A R cap, .int .i64 g.row, .int .i64 g.col], .int .i64 r, .int .i64 c] w (GaveD R (moveG g r c C) w) := by
 obtain ⟨W0, hW0⟩ := exq ((w.alloc (.cells #[.slice A R cap, .int .i64 g.row, .int .i64 g.col] 26)).alloc (.cells #[.slice none 0 0, .int .i64 0, .int .i64 0] 26))
 have HB0 : Hid (Below w.heap.size w W0) := by unfold Hid; rw [← hW0]; exact two_new _ _ _ _ _
 have HX0 : Hid (Whole W0 (w.heap.size) 26 [.slice A R cap, .int .i64 g.row, .int .i64 g.col]) := by unfold Hid; rw [← hW0]; exact ((Whole.new _ _ _).alloc _)
 have HX1 : Hid (Whole W0 (w.heap.size + 1) 26 [.slice none 0 0, .int .i64 0, .int .i64 0]) := by unfold Hid; rw [← hW0]; exact (whole_snd _ _ _ _)
 have HW0 := hide hW0; clear hW0
 have HL := hide (h.below HB0.out)
 have HLen := hide hR; have HC0 := hide hc0
 obtain ⟨p0, p1, p2, lp⟩ := cells3 HX0.out
 have e1 : ((R : Int) == 0) = false := by simp; omega
 obtain ⟨r', hr'⟩ := exq (nearN r R)
 obtain ⟨c', hc'⟩ := exq (nearN c C)
 have HRN := hide hr'; have HCN := hide hc'
 have HE : Hid (moveG g r c C = { g with row := r', col := c' }) := by unfold Hid moveG; rw [hR, hr', hc']
 clear hr' hc' h hR hc0
 go_enter Tryz.func55, Tryz.ntmps55
 go_wp2; rw [HW0.out]
 refine rgL (fun w' => Below W0.heap.size W0 w') 10 [(0, 0), (0, 5), (0, 1), (0, 2), (0, 3), (0, 6), (1, 4), (2, 9), (1, 7), (1, 8), (3, 10), (3, 11), (3, 12)] bd1 ?_
 iterate 3 refine stL (h := ?_)
 refine stL (hy := fun w hS => by obtain ⟨e0, e1, e2, -⟩ := cells3 (HX0.out.later hS); go_simp <;> with_reducible rfl) (h := ?_)
 refine stL (h := ?_)
 refine stL (hy := fun w hS => by obtain ⟨e0, e1, e2, -⟩ := cells3 (HX0.out.later hS); go_simp <;> with_reducible rfl) (h := ?_)
 refine alL fun K hK => ?_
 go_wp2_with fail
 refine (bring_any r R hR1 hR2 _).mono ?_
 rintro e k1 ⟨rfl, rfl⟩
 rw [HRN.out]
 go_wp2
 refine hK.out _ _ bd1 ?_
 clear hK K
 refine puL (h := ?_)
 refine alL fun K hK => ?_
 go_wp2_with fail
 refine (rgcols_any A R cap C g.row g.col g.ls _ (HL.out.drewN 1) HLen.out hR1 HC0.out).mono ?_
 rintro e k1 ⟨rfl, hb⟩
 have Bk1 : Below W0.heap.size W0 k1 := ((Below.refl W0.heap.size W0).drewN 1).trans hb
 clear hb; go_wp2
 refine hK.out _ _ (Bk1) ?_
 clear hK K
 refine alL fun K hK => ?_
 go_wp2_with fail
 refine (bring_any c C hC0 hC2 _).mono ?_
 rintro e k2 ⟨rfl, rfl⟩
 rw [HCN.out]
 clear p0 p1 p2 lp
 have HP1 := hide (HX0.out.later Bk1)
 obtain ⟨p0, p1, p2, lp⟩ := cells3 HP1.out
 have hpf := HP1.out.frozen
 go_wp2
 refine hK.out _ _ (Bk1) ?_
 clear hK K
 refine laL fun K hK => ?_
 go_wp2
 refine hK.out _ _ ?_
 clear hK K
 refine laL fun K hK => ?_
 go_wp2
 refine hK.out _ _ ?_
 clear hK K
 refine laL fun K hK => ?_
 go_wp2
 refine hK.out _ _ ?_
 clear hK K
 refine chainL_nil ?_
 have HP2 : Hid (Whole ((k1.setCell ⟨w.heap.size, 1, none⟩ (.int .i64 r')).setCell ⟨w.heap.size, 2, none⟩ (.int .i64 c')) w.heap.size 26 [.slice A R cap, .int .i64 r', .int .i64 c']) := by unfold Hid; exact (HP1.out.put 1 _).put 2 _
 obtain ⟨W3, hW3⟩ := exq ((k1.setCell ⟨w.heap.size, 1, none⟩ (.int .i64 r')).setCell ⟨w.heap.size, 2, none⟩ (.int .i64 c'))
 have HO3 : Hid (Only w.heap.size k1 W3) := by unfold Hid; rw [← hW3]; exact (Only.put _ _).trans (Only.put _ _)
 have HL3 : Hid (Lns W3 A g.ls) := by
  unfold Hid
  rw [← hW3]
  exact (HL.out.below Bk1).keep ((Stays.put HP1.out (by decide)).trans (Stays.put (HP1.out.put 1 _) (by decide))) ((Stays.put HP1.out (by decide)).trans (Stays.put (HP1.out.put 1 _) (by decide)))
 rw [hW3] at HP2 ⊢
 have HZ3 := hide ((HX1.out.later Bk1).far HO3.out (by omega))
 have HB3 := hide (HO3.out.below (HB0.out.trans (Bk1.mono HB0.out.size)) (Nat.le_trans HB0.out.size Bk1.size) (Nat.le_refl _))
 clear hW3 p0 p1 p2 lp hpf Bk1
 obtain ⟨p0, p1, p2, lp⟩ := cells3 HP2.out
 obtain ⟨z0, z1, z2, lz⟩ := cells3 HZ3.out
 have hzf := HZ3.out.frozen
 go_wp2
 refine retG Tryz.results55 rfl rfl (put3 HZ3.out _ _ _) ⟨A, cap, ?_, ?_, below_put3 HB3.out (by omega) _ _ _⟩
 ·rw [HE.out]
 ·rw [HE.out]
  exact HL3.out.put3 HZ3.out (by decide) (by decide) _ _ _
section
variable {w w' : World} {G L M R C : Nat} {g : Gd} {cap : Nat} {ps : Nat → Nat} {room : List Cel} {more : List Value}
theorem only2 {a b : Value} : Only G w ((w.setCell ⟨G, 0, none⟩ a).setCell ⟨G, 1, none⟩ b) := (Only.put _ _).trans (Only.put _ _)
theorem GridAt.cursor (h : GridAt w G L M R C g cap ps room more) (a b : Nat) : GridAt ((w.setCell ⟨G, 0, none⟩ (.int .i64 a)).setCell ⟨G, 1, none⟩ (.int .i64 b)) G L M R C { g with row := a, col := b } cap ps room more :=
 ⟨(h.top.put 0 _).put 1 _, h.lines.far only2 (Ne.symm h.neGL), h.piece.far only2 (Ne.symm h.neGM), h.len, h.cap1, h.cap2, h.perm, h.inj, h.ls⟩
theorem move_any (h : Grd w G L M R C g) (hR : 1 ≤ R) (hR2 : R ≤ 512) (hC : 1 ≤ C) (hC2 : C ≤ 512) (r c : Int) :
  Calls Tryz.prog 29 #[.pointer (some ⟨G, 0, none⟩), .int .i64 r, .int .i64 c] w fun e w' => e = .returned (.tuple #[]) ∧ Grd w' G L M R C (moveG g r c C) ∧ Only G w w' := by
 have HG := hide h
 obtain ⟨cap, ps, room, more, h⟩ := h
 obtain ⟨c0, c1, c2, lG, lL, lM⟩ := h.three
 have hz := h.top.frozen
 have HA := hide h; have HLen := hide h.glen; clear h
 obtain ⟨r', hr'⟩ := exq (nearN r R)
 obtain ⟨c', hc'⟩ := exq (nearN c C)
 have HR := hide hr'; have HC := hide hc'; clear hr' hc'
 go_enter Tryz.func29, Tryz.ntmps29
 go_wp2_with fail
 refine (rows_any HG.out).mono ?_
 rintro e w1 ⟨rfl, rfl⟩
 go_wp2_with fail
 refine (within_any r R hR hR2 w).mono ?_
 rintro e w1 ⟨rfl, rfl⟩
 rw [HR.out]
 go_wp2_with fail
 refine (cols_any HG.out hR).mono ?_
 rintro e w1 ⟨rfl, rfl⟩
 go_wp2_with fail
 refine (within_any c C hC hC2 w).mono ?_
 rintro e w1 ⟨rfl, rfl⟩
 rw [HC.out]
 go_wp2
 refine bodyPost_end (v := .tuple #[]) (by simp [results, Tryz.results29]) rfl ⟨rfl, ?_, only2⟩
 have e : moveG g r c C = { g with row := r', col := c' } := by unfold moveG; rw [HLen.out, HR.out, HC.out]
 rw [e]
 exact .of (HA.out.cursor r' c')
end
def Makes (w : World) (C : Nat) (x : List Cel) (ok : Bool) (e : Ending) (w' : World) : Prop := ∃ A n c, e = .returned (.tuple #[.slice A n c, .bool ok]) ∧ Below w.heap.size w w' ∧ (ok = true → n = C ∧ Cels .i32 w' A x ∧ x.length = C)
theorem enter_of {P : Program} {f : FuncId} {fn : Func} (hf : P.funcs[f]? = some fn) (hn : (fn.name == "runtime.NumGoroutine") = false) (hb : fn.body.isNone = false) : ∀ args w, (callFunc f args).run P w = .ok (.enter f args) w := by
 intro args w
 simp only [callFunc, Sem.run_bind]
 simp [hf, go_sem]
 rw [if_neg (by simpa using hn), if_neg (by intro q; simp [q] at hb)]
section
variable {w : World} {G L M R C : Nat} {g : Gd}
theorem change_any (h : Grd w G L M R C g) (f : FuncId) (caps : Array Value) (r : Nat) (hr : r < R) (x : List Cel) (ok : Bool)
  (hfc : ∀ args w, (callFunc f args).run Tryz.prog w = .ok (.enter f args) w) (hf : ∀ (off c : Nat), Cels .i32 w (some ⟨M, off, none⟩) (lAt g.ls r) → ∀ args, args = #[.slice (some ⟨M, off, none⟩) C C] ++ caps → Calls Tryz.prog f args w (Makes w C x ok)) :
  Calls Tryz.prog 78 #[.pointer (some ⟨G, 0, none⟩), .int .i64 r, .func (.func f) #[] caps] w fun e w' => e = .returned (.bool ok) ∧ Grd w' G L M R C (if ok = true then { g with ls := g.ls.set r x } else g) ∧ Trn G L M w w' := by
 have HG := hide h
 obtain ⟨cap, ps, room, more, h⟩ := h
 obtain ⟨c0, c1, c2, lG, lL, lM⟩ := h.three
 have c3 := h.row hr
 have HF := hide (hf (ps r * C * 7) 0 (h.cels hr) _ rfl)
 have HA := hide h; clear h hf
 go_enter Tryz.func78, Tryz.ntmps78
 go_wp2_with fail
 refine (has_any HG.out r).mono ?_
 rintro e w1 ⟨rfl, rfl⟩
 rw [hasG_in hr]
 go_wp2_with fail
 refine (HF.out).mono ?_
 rintro e w1 ⟨A, n, c, rfl, hb, hok⟩
 have HA1 := hide (HA.out.later hb)
 have HB := hide hb; clear c0 c1 c2 c3 lG lL lM hb
 cases ok
 case false =>
  go_wp2; go_ret
  exact ⟨rfl, .of HA1.out, .of_below HB.out⟩
 case true =>
  obtain ⟨rfl, hc, hx⟩ := hok rfl
  obtain ⟨c0, c1, c2, lG, lL, lM⟩ := HA1.out.three
  have c3 := HA1.out.row hr
  have hm := mul_room (HA1.out.perm r hr) HA1.out.len
  obtain ⟨w2, hrun, hw2, ho2⟩ := run_copyL elemL w1 3 M (ps r * n) 65 room x A n n n c HA1.out.piece hc hx hm
  rw [List.take_of_length_le (Nat.le_of_eq hx)] at hw2
  have HA2 := hide (HA1.out.lay hr x hx ho2 hw2)
  have HT : Hid (Trn G L M w w2) := by unfold Hid; exact (Trn.of_below HB.out).trans (Trn.of_onlyM ho2) (.inl rfl)
  clear hw2 ho2 hm hc hx hok; go_wp2; go_ret
  exact ⟨rfl, .of HA2.out, HT.out⟩
theorem change_no (h : Grd w G L M R C g) (f : FuncId) (caps : Array Value) (r : Int) (hr : ¬ hasG R r) :
  Calls Tryz.prog 78 #[.pointer (some ⟨G, 0, none⟩), .int .i64 r, .func (.func f) #[] caps] w fun e w' => e = .returned (.bool false) ∧ w = w' := by
 have HG := hide h
 have HD : Hid (decide (hasG R r) = false) := by unfold Hid; simp [hr]
 clear h hr
 go_enter Tryz.func78, Tryz.ntmps78
 go_wp2_with fail
 refine (has_any HG.out r).mono ?_
 rintro e w1 ⟨rfl, rfl⟩
 rw [HD.out]
 go_wp2; go_ret
 exact ⟨rfl, rfl⟩
theorem Trn.ofB {G L M : Nat} {w w0 w' : World} (hb : Below w.heap.size w w0) (h : Trn G L M w0 w') : Trn G L M w w' := (Trn.of_below hb).trans h (.inl rfl)
theorem LineN2.makes {w w' : World} {C : Nat} {X : List Cel} {ok : Bool} {e : Ending} (h : LineN2 .i32 C X ok w e w') (hx : X.length = C) : Makes w C X ok e w' := by
 obtain ⟨A, c, rfl, hc, hb⟩ := h
 exact ⟨A, C, c, rfl, hb, fun _ => ⟨rfl, hc, hx⟩⟩
theorem put1_any (off : Nat) (q q2 : Nat) (at_ r m x : Int) (d f y b : Nat) (cs : List Cel) (w : World) (hd : d < 256) (ha : -9223372036854775808 ≤ at_ ∧ at_ < 9223372036854775808) (h : Cels .i32 w (some ⟨M, off, none⟩) cs) (hn : cs.length = C) (hC : C ≤ 1000000) (hS : Spans w)
  (h1 : Whole w q 3 [.int .i64 at_]) (h2 : Whole w q2 65 [.int .i32 r, .int .i32 m, .int .i32 x, .int .u8 d, .int .u8 f, .int .u8 y, .int .u8 b]) {X : List Cel} {ok : Bool} (hX : putC cs at_ ⟨r, m, x, d, ⟨f, y, b⟩⟩ = X) (hok : putOk cs at_ ⟨r, m, x, d, ⟨f, y, b⟩⟩ = ok) :
  Calls Tryz.prog 79 #[.slice (some ⟨M, off, none⟩) C C, .pointer (some ⟨q, 0, none⟩), .pointer (some ⟨q2, 0, none⟩)] w (Makes w C X ok) := by
 have HXX := hide hX; have HOK := hide hok
 have HXL : Hid (X.length = cs.length) := by unfold Hid; rw [← hX, put_len]
 have c0 : w.cell? ⟨q, 0, none⟩ = some (.int .i64 at_) := h1.cell 0
 have lq := h1.lt
 obtain ⟨a0, a1, a2, a3, a4, a5, a6, lq2⟩ := cells7 h2
 have HC := hide h; have HN := hide hn; have HS := hide hS; have HA := hide ha; clear h hn hS h1 h2 ha hX hok
 go_enter Tryz.func79, Tryz.ntmps79
 go_wp2_with fail
 refine (put_v at_ r m x d f y b HA.out HXX.out HOK.out HC.out HN.out hC hd HS.out).mono ?_
 intro e w1 hl
 have HL := hide (hl.makes (by rw [HXL.out, HN.out]))
 obtain ⟨A, n, rfl, -, -⟩ := hl
 clear c0 a0 a1 a2 a3 a4 a5 a6; go_wp2; go_ret2
 exact HL.out
theorem put_chg (g : Gd) (r : Nat) (hr : r < g.ls.length) (c : Int) (x : Cel) : (if putOk (lAt g.ls r) c x = true then { g with ls := g.ls.set r (putC (lAt g.ls r) c x) } else g) = putG g (r : Int) c x := by
 have e : putG g (r : Int) c x = { g with ls := g.ls.set r (putC (lAt g.ls r) c x) } := by unfold putG; rw [if_pos (by unfold hasG; omega), Int.toNat_natCast]
 rw [e]
 split
 ·rfl
 ·rename_i h
  rw [putL_no _ _ _ (by simpa using h), set_same]
theorem put_ok (g : Gd) (r : Nat) (hr : r < g.ls.length) (c : Int) (x : Cel) : putGOk g (r : Int) c x = putOk (lAt g.ls r) c x := by
 unfold putGOk
 rw [hasG_in hr, Int.toNat_natCast, Bool.true_and]
theorem put_none (g : Gd) (r : Int) (hr : ¬ hasG g.ls.length r) (c : Int) (x : Cel) : putG g r c x = g ∧ putGOk g r c x = false := by
 unfold putG putGOk
 rw [if_neg hr]
 simp [hr]
theorem gput_any (h : Grd w G L M R C g) (hC : C ≤ 512) (hS : Spans w) (R0 at_ r m x : Int) (d f y b : Nat) (hd : d < 256) (ha : -9223372036854775808 ≤ at_ ∧ at_ < 9223372036854775808) :
  Calls Tryz.prog 35 #[.pointer (some ⟨G, 0, none⟩), .int .i64 R0, .int .i64 at_, .agg #[.int .i32 r, .int .i32 m, .int .i32 x, .int .u8 d, .int .u8 f, .int .u8 y, .int .u8 b]] w fun e w' => e = .returned (.bool (putGOk g R0 at_ ⟨r, m, x, d, ⟨f, y, b⟩⟩)) ∧ Grd w' G L M R C (putG g R0 at_ ⟨r, m, x, d, ⟨f, y, b⟩⟩) ∧ Trn G L M w w' := by
 obtain ⟨W0, hW0⟩ := exq ((w.alloc (.cells #[.int .i64 at_] 3)).alloc (.cells #[.int .i32 r, .int .i32 m, .int .i32 x, .int .u8 d, .int .u8 f, .int .u8 y, .int .u8 b] 65))
 have HB : Hid (Below w.heap.size w W0) := by unfold Hid; rw [← hW0]; exact two_new _ _ _ _ _
 have HS : Hid (Spans W0) := by unfold Hid; rw [← hW0]; exact (hS.alloc _).alloc _
 have HX0 : Hid (Whole W0 (w.heap.size) 3 [.int .i64 at_]) := by unfold Hid; rw [← hW0]; exact ((Whole.new _ _ _).alloc _)
 have HX1 : Hid (Whole W0 (w.heap.size + 1) 65 [.int .i32 r, .int .i32 m, .int .i32 x, .int .u8 d, .int .u8 f, .int .u8 y, .int .u8 b]) := by unfold Hid; rw [← hW0]; exact (whole_snd _ _ _ _)
 have HG := hide (h.later HB.out)
 have HLen := hide h.glen; have HW0 := hide hW0; clear hW0 h hS
 by_cases hr : hasG R R0
 ·obtain ⟨q, hq⟩ : ∃ q : Nat, R0 = (q : Int) := ⟨R0.toNat, by unfold hasG at hr; omega⟩
  subst hq
  have hqR : q < R := by unfold hasG at hr; omega
  have HE := hide (put_chg g q (by rw [HLen.out]; exact hqR) at_ ⟨r, m, x, d, ⟨f, y, b⟩⟩)
  have HO := hide (put_ok g q (by rw [HLen.out]; exact hqR) at_ ⟨r, m, x, d, ⟨f, y, b⟩⟩)
  go_enter Tryz.func35, Tryz.ntmps35
  go_wp2_with fail
  rw [HW0.out]
  obtain ⟨cap, ps, room, more, hat⟩ := HG.out
  refine (change_any HG.out 79 _ q hqR (putC (lAt g.ls q) at_ ⟨r, m, x, d, ⟨f, y, b⟩⟩) (putOk (lAt g.ls q) at_ ⟨r, m, x, d, ⟨f, y, b⟩⟩) (enter_of Tryz.func79 (by kernel_rfl) (by kernel_rfl)) (fun off c9 hc args hargs => ?_)).mono ?_
  ·have ha2 : args = #[.slice (some ⟨M, off, none⟩) C C, .pointer (some ⟨w.heap.size, 0, none⟩), .pointer (some ⟨w.heap.size + 1, 0, none⟩)] := by simpa using hargs
   subst ha2
   exact put1_any off _ _ at_ r m x d f y b _ W0 hd ha hc (hat.lenAt hqR) (by omega) HS.out HX0.out HX1.out rfl rfl
  rintro e w1 ⟨rfl, hg, ht⟩
  rw [HE.out] at hg
  have HG1 := hide hg
  have HT1 := hide (Trn.ofB HB.out ht)
  clear hg ht hat
  rw [← HO.out]
  go_wp2; go_ret
  exact ⟨rfl, HG1.out, HT1.out⟩
 ·have HE := hide (put_none g R0 (by rw [HLen.out]; exact hr) at_ ⟨r, m, x, d, ⟨f, y, b⟩⟩)
  go_enter Tryz.func35, Tryz.ntmps35
  go_wp2_with fail
  rw [HW0.out]
  refine (change_no HG.out 79 _ R0 hr).mono ?_
  rintro e w1 ⟨rfl, rfl⟩
  go_wp2; go_ret
  exact ⟨by rw [HE.out.2]; rfl, by rw [HE.out.1]; exact HG.out, Trn.of_below HB.out⟩
theorem mark1_any (off : Nat) (q q2 : Nat) (at_ y : Int) (cs : List Cel) (w : World) (h : Cels .i32 w (some ⟨M, off, none⟩) cs) (hn : cs.length = C) (hC : C ≤ 1000000) (hS : Spans w)
  (h1 : Whole w q 3 [.int .i64 at_]) (h2 : Whole w q2 21 [.int .i32 y]) {X : List Cel} {ok : Bool} (hX : lmarkC cs at_ y = (X, ok)) :
  Calls Tryz.prog 96 #[.slice (some ⟨M, off, none⟩) C C, .pointer (some ⟨q, 0, none⟩), .pointer (some ⟨q2, 0, none⟩)] w (Makes w C X ok) := by
 have HXX := hide hX
 have HXL : Hid (X.length = cs.length) := by unfold Hid; rw [← lmark_len cs at_ y, hX]
 have c0 : w.cell? ⟨q, 0, none⟩ = some (.int .i64 at_) := h1.cell 0
 have lq := h1.lt
 have a0 : w.cell? ⟨q2, 0, none⟩ = some (.int .i32 y) := h2.cell 0
 have lq2 := h2.lt
 have HC := hide h; have HN := hide hn; have HS := hide hS; clear h hn hS h1 h2 hX
 go_enter Tryz.func96, Tryz.ntmps96
 go_wp2_with fail
 refine (lmark_v at_ y HXX.out HC.out HN.out hC HS.out).mono ?_
 intro e w1 hl
 have HL := hide (hl.makes (by rw [HXL.out, HN.out]))
 obtain ⟨A, n, rfl, -, -⟩ := hl
 clear c0 a0; go_wp2; go_ret2
 exact HL.out
theorem mark_chg (g : Gd) (r : Nat) (hr : r < g.ls.length) (c y : Int) : (if (lmarkC (lAt g.ls r) c y).2 = true then { g with ls := g.ls.set r (lmarkC (lAt g.ls r) c y).1 } else g) = markG g (r : Int) c y := by
 have e : markG g (r : Int) c y = { g with ls := g.ls.set r (lmarkC (lAt g.ls r) c y).1 } := by unfold markG; rw [if_pos (by unfold hasG; omega), Int.toNat_natCast]
 rw [e]
 split
 ·rfl
 ·rename_i h
  rw [markL_no _ _ _ (by simpa using h), set_same]
theorem mark_ok (g : Gd) (r : Nat) (hr : r < g.ls.length) (c y : Int) : markGOk g (r : Int) c y = (lmarkC (lAt g.ls r) c y).2 := by
 unfold markGOk
 rw [hasG_in hr, Int.toNat_natCast, Bool.true_and]
theorem mark_none (g : Gd) (r : Int) (hr : ¬ hasG g.ls.length r) (c y : Int) : markG g r c y = g ∧ markGOk g r c y = false := by
 unfold markG markGOk
 rw [if_neg hr]
 simp [hr]
theorem gmark_any (h : Grd w G L M R C g) (hC : C ≤ 512) (hS : Spans w) (R0 at_ y : Int) :
  Calls Tryz.prog 64 #[.pointer (some ⟨G, 0, none⟩), .int .i64 R0, .int .i64 at_, .int .i32 y] w fun e w' => e = .returned (.bool (markGOk g R0 at_ y)) ∧ Grd w' G L M R C (markG g R0 at_ y) ∧ Trn G L M w w' := by
 obtain ⟨W0, hW0⟩ := exq ((w.alloc (.cells #[.int .i64 at_] 3)).alloc (.cells #[.int .i32 y] 21))
 have HB : Hid (Below w.heap.size w W0) := by unfold Hid; rw [← hW0]; exact two_new _ _ _ _ _
 have HS : Hid (Spans W0) := by unfold Hid; rw [← hW0]; exact (hS.alloc _).alloc _
 have HX0 : Hid (Whole W0 (w.heap.size) 3 [.int .i64 at_]) := by unfold Hid; rw [← hW0]; exact ((Whole.new _ _ _).alloc _)
 have HX1 : Hid (Whole W0 (w.heap.size + 1) 21 [.int .i32 y]) := by unfold Hid; rw [← hW0]; exact (whole_snd _ _ _ _)
 have HG := hide (h.later HB.out)
 have HLen := hide h.glen; have HW0 := hide hW0; clear hW0 h hS
 by_cases hr : hasG R R0
 ·obtain ⟨q, hq⟩ : ∃ q : Nat, R0 = (q : Int) := ⟨R0.toNat, by unfold hasG at hr; omega⟩
  subst hq
  have hqR : q < R := by unfold hasG at hr; omega
  have HE := hide (mark_chg g q (by rw [HLen.out]; exact hqR) at_ y)
  have HO := hide (mark_ok g q (by rw [HLen.out]; exact hqR) at_ y)
  go_enter Tryz.func64, Tryz.ntmps64
  go_wp2_with fail
  rw [HW0.out]
  obtain ⟨cap, ps, room, more, hat⟩ := HG.out
  refine (change_any HG.out 96 _ q hqR ((lmarkC (lAt g.ls q) at_ y).1) ((lmarkC (lAt g.ls q) at_ y).2) (enter_of Tryz.func96 (by kernel_rfl) (by kernel_rfl)) (fun off c9 hc args hargs => ?_)).mono ?_
  ·have ha2 : args = #[.slice (some ⟨M, off, none⟩) C C, .pointer (some ⟨w.heap.size, 0, none⟩), .pointer (some ⟨w.heap.size + 1, 0, none⟩)] := by simpa using hargs
   subst ha2
   exact mark1_any off _ _ at_ y _ W0 hc (hat.lenAt hqR) (by omega) HS.out HX0.out HX1.out rfl
  rintro e w1 ⟨rfl, hg, ht⟩
  rw [HE.out] at hg
  have HG1 := hide hg
  have HT1 := hide (Trn.ofB HB.out ht)
  clear hg ht hat
  rw [← HO.out]
  go_wp2; go_ret
  exact ⟨rfl, HG1.out, HT1.out⟩
 ·have HE := hide (mark_none g R0 (by rw [HLen.out]; exact hr) at_ y)
  go_enter Tryz.func64, Tryz.ntmps64
  go_wp2_with fail
  rw [HW0.out]
  refine (change_no HG.out 96 _ R0 hr).mono ?_
  rintro e w1 ⟨rfl, rfl⟩
  go_wp2; go_ret
  exact ⟨by rw [HE.out.2]; rfl, by rw [HE.out.1]; exact HG.out, Trn.of_below HB.out⟩
theorem erase1_any (off : Nat) (q q2 q3 : Nat) (x y : Int) (f g b : Nat) (cs : List Cel) (w : World) (h : Cels .i32 w (some ⟨M, off, none⟩) cs) (hn : cs.length = C) (hC : C ≤ 1000000)
  (h1 : Whole w q 3 [.int .i64 x]) (h2 : Whole w q2 3 [.int .i64 y]) (h3 : Whole w q3 63 [.int .u8 f, .int .u8 g, .int .u8 b]) {X : List Cel} {ok : Bool} (hX : eraseC cs x y ⟨f, g, b⟩ = X) (hok : rightN ⟨f, g, b⟩ = ok) :
  Calls Tryz.prog 98 #[.slice (some ⟨M, off, none⟩) C C, .pointer (some ⟨q, 0, none⟩), .pointer (some ⟨q2, 0, none⟩), .pointer (some ⟨q3, 0, none⟩)] w (Makes w C X ok) := by
 have HX := hide hX
 have HXL : Hid (X.length = cs.length) := by unfold Hid; rw [← hX, erase_len]
 have HC := hide h; have HN := hide hn; have H1 := hide h1; have H2 := hide h2; have H3 := hide h3; have HOK := hide hok; clear h hn h1 h2 h3 hX hok
 go_enter Tryz.func98, Tryz.ntmps98
 go_wp2
 refine rgH (fun w' => Below w.heap.size w w') [(true, 0), (true, 1), (true, 2), (true, 3), (true, 5), (false, 4), (false, 6), (false, 7), (false, 8)] bd1 ?_
 refine stH (h := ?_)
 refine stH (hy := fun w hS => by have f0 := (H1.out.later hS).cell 0; go_simp <;> with_reducible rfl) (h := ?_)
 refine stH (hy := fun w hS => by have f0 := (H2.out.later hS).cell 0; go_simp <;> with_reducible rfl) (h := ?_)
 refine stH (hy := fun w hS => by obtain ⟨a0, a1, a2, -⟩ := cells3 (H3.out.later hS); go_simp <;> with_reducible rfl) (h := ?_)
 refine stH (hy := fun w hS => by obtain ⟨a0, a1, a2, -⟩ := cells3 (H3.out.later hS); go_simp <;> with_reducible rfl) (h := ?_)
 refine alH fun K hK => ?_
 go_wp2_with fail
 refine (erase_v x y f g b HX.out HC.out.drew HN.out hC).mono ?_
 rintro e k1 ⟨A1, c1, rfl, hc1, hb⟩
 have Bk1 : Below w.heap.size w k1 := bd1.trans hb
 have HC1 := hide hc1; clear hb hc1; go_wp2
 refine hK.out _ _ Bk1 ?_
 clear hK K
 refine alH fun K hK => ?_
 go_wp2_with fail
 refine (right_any f g b k1).mono ?_
 rintro e k2 ⟨rfl, hb⟩
 have Bk2 : Below w.heap.size w k2 := Bk1.trans (hb.mono Bk1.size)
 have HC2 := hide (HC1.out.below hb)
 clear hb; go_wp2
 refine hK.out _ _ Bk2 ?_
 clear hK K
 refine alH fun K hK => ?_
 go_wp2
 refine hK.out _ _ Bk2 ?_
 clear hK K
 refine alH fun K hK => ?_
 go_wp2
 refine hK.out _ _ Bk2 ?_
 clear hK K
 refine chainH_nil ?_
 clear Bk1; have HB := hide Bk2; clear Bk2
 rw [HOK.out]
 go_wp2; go_ret2
 exact ⟨A1, C, c1, rfl, HB.out, fun _ => ⟨rfl, HC2.out, by rw [HXL.out, HN.out]⟩⟩
theorem erase_chg (g : Gd) (r : Nat) (hr : r < g.ls.length) (x y : Int) (p : Pn) : (if rightN p = true then { g with ls := g.ls.set r (eraseC (lAt g.ls r) x y p) } else g) = eraseG g (r : Int) x y p := by
 have hh : hasG g.ls.length (r : Int) := by unfold hasG; omega
 unfold eraseG
 by_cases hp : rightN p = true
 ·rw [if_pos hp, if_pos ⟨hh, hp⟩, Int.toNat_natCast]
 ·rw [if_neg hp, if_neg (fun q => hp q.2)]
theorem erase_none (g : Gd) (r : Int) (hr : ¬ hasG g.ls.length r) (x y : Int) (p : Pn) : eraseG g r x y p = g := by
 unfold eraseG
 rw [if_neg (fun q => hr q.1)]
theorem gerase_any (h : Grd w G L M R C g) (hC : C ≤ 512) (hS : Spans w) (R0 x y : Int) (f y2 b : Nat) :
  Calls Tryz.prog 65 #[.pointer (some ⟨G, 0, none⟩), .int .i64 R0, .int .i64 x, .int .i64 y, .agg #[.int .u8 f, .int .u8 y2, .int .u8 b]] w fun e w' => e = .returned (.tuple #[]) ∧ Grd w' G L M R C (eraseG g R0 x y ⟨f, y2, b⟩) ∧ Trn G L M w w' := by
 obtain ⟨W0, hW0⟩ := exq (((w.alloc (.cells #[.int .i64 x] 3)).alloc (.cells #[.int .i64 y] 3)).alloc (.cells #[.int .u8 f, .int .u8 y2, .int .u8 b] 63))
 have HB : Hid (Below w.heap.size w W0) := by unfold Hid; rw [← hW0]; exact three_new w _ _ _
 have HS : Hid (Spans W0) := by unfold Hid; rw [← hW0]; exact ((hS.alloc _).alloc _).alloc _
 have HX0 : Hid (Whole W0 (w.heap.size) 3 [.int .i64 x]) := by unfold Hid; rw [← hW0]; exact (((Whole.new _ _ _).alloc _).alloc _)
 have HX1 : Hid (Whole W0 (w.heap.size + 1) 3 [.int .i64 y]) := by unfold Hid; rw [← hW0]; exact ((whole_snd _ _ _ _).alloc _)
 have HX2 : Hid (Whole W0 (w.heap.size + 2) 63 [.int .u8 f, .int .u8 y2, .int .u8 b]) := by unfold Hid; rw [← hW0]; exact (whole_thd w _ _ 63 [.int .u8 f, .int .u8 y2, .int .u8 b])
 have HG := hide (h.later HB.out)
 have HLen := hide h.glen; have HW0 := hide hW0; clear hW0 h hS
 by_cases hr : hasG R R0
 ·obtain ⟨q, hq⟩ : ∃ q : Nat, R0 = (q : Int) := ⟨R0.toNat, by unfold hasG at hr; omega⟩
  subst hq
  have hqR : q < R := by unfold hasG at hr; omega
  have HE := hide (erase_chg g q (by rw [HLen.out]; exact hqR) x y ⟨f, y2, b⟩)
  go_enter Tryz.func65, Tryz.ntmps65
  go_wp2_with fail
  rw [HW0.out]
  obtain ⟨cap, ps, room, more, hat⟩ := HG.out
  refine (change_any HG.out 98 _ q hqR (eraseC (lAt g.ls q) x y ⟨f, y2, b⟩) (rightN ⟨f, y2, b⟩) (enter_of Tryz.func98 (by kernel_rfl) (by kernel_rfl)) (fun off c9 hc args hargs => ?_)).mono ?_
  ·have ha2 : args = #[.slice (some ⟨M, off, none⟩) C C, .pointer (some ⟨w.heap.size, 0, none⟩), .pointer (some ⟨w.heap.size + 1, 0, none⟩), .pointer (some ⟨w.heap.size + 2, 0, none⟩)] := by simpa using hargs
   subst ha2
   exact erase1_any off _ _ _ x y f y2 b _ W0 hc (hat.lenAt hqR) (by omega) HX0.out HX1.out HX2.out rfl rfl
  rintro e w1 ⟨rfl, hg, ht⟩
  rw [HE.out] at hg
  have HG1 := hide hg
  have HT1 := hide (Trn.ofB HB.out ht)
  clear hg ht hat; go_wp2
  exact bodyPost_end (v := .tuple #[]) (by simp [results, Tryz.results65]) rfl ⟨rfl, HG1.out, HT1.out⟩
 ·have HE := hide (erase_none g R0 (by rw [HLen.out]; exact hr) x y ⟨f, y2, b⟩)
  go_enter Tryz.func65, Tryz.ntmps65
  go_wp2_with fail
  rw [HW0.out]
  refine (change_no HG.out 98 _ R0 hr).mono ?_
  rintro e w1 ⟨rfl, rfl⟩
  go_wp2
  exact bodyPost_end (v := .tuple #[]) (by simp [results, Tryz.results65]) rfl ⟨rfl, by rw [HE.out]; exact HG.out, Trn.of_below HB.out⟩
theorem lay1_any (off : Nat) (q : Nat) (A : Option Addr) (n c : Nat) (zs : List Cel) (w : World) (hz : Cels .i32 w A zs) (hn : zs.length = n) (hl : n ≤ 1000000) (hlb : LB zs) (hS : Spans w)
  (h1 : Whole w q 45 [.slice A n c]) {ok : Bool} (hok : (decide (zs.length = C) && rightL zs) = ok) :
  Calls Tryz.prog 84 #[.slice (some ⟨M, off, none⟩) C C, .pointer (some ⟨q, 0, none⟩)] w (Makes w C zs ok) := by
 have HZ := hide hz; have HN := hide hn; have H1 := hide h1; have HLB := hide hlb; have HS := hide hS
 have f1 : w.cell? ⟨q, 0, none⟩ = some (.slice A n c) := h1.cell 0
 have lq := h1.lt
 by_cases hnC : n = C
 ·have e1 : ((n : Int) == (C : Int)) = true := by simp [hnC]
  have HOK : Hid (rightL zs = ok) := by unfold Hid; rw [← hok, hn, hnC]; simp
  have HNC := hide hnC; clear hz hn h1 hlb hS hok hnC
  go_enter Tryz.func84, Tryz.ntmps84
  go_wp2
  refine rgH (fun w' => Below w.heap.size w w') [(true, 3), (true, 4), (true, 0), (false, 1), (false, 2), (false, 5), (false, 6), (false, 7), (false, 8), (true, 10), (false, 9), (false, 11)] bd1 ?_
  refine stH (h := ?_)
  refine stH (h := ?_)
  refine stH (hy := fun w hS => by have f0 := (H1.out.later hS).cell 0; go_simp <;> with_reducible rfl) (h := ?_)
  refine alH fun K hK => ?_
  go_wp2
  refine hK.out _ _ bd1 ?_
  clear hK K
  refine alH fun K hK => ?_
  go_wp2
  refine hK.out _ _ bd1 ?_
  clear hK K
  refine alH fun K hK => ?_
  go_wp2
  refine hK.out _ _ bd1 ?_
  clear hK K
  refine alH fun K hK => ?_
  go_wp2
  refine hK.out _ _ bd1 ?_
  clear hK K
  refine alH fun K hK => ?_
  go_wp2
  refine hK.out _ _ bd1 ?_
  clear hK K
  refine alH fun K hK => ?_
  go_wp2_with fail
  refine (lright_any A n c zs _ HZ.out.drew HN.out hl HLB.out HS.out.drew).mono ?_
  rintro e k1 ⟨rfl, hb⟩
  have Bk1 : Below w.heap.size w k1 := bd1.trans hb
  clear hb; go_wp2
  refine hK.out _ _ Bk1 ?_
  clear hK K
  refine stH (h := ?_)
  refine alH fun K hK => ?_
  go_wp2
  refine hK.out _ _ Bk1 ?_
  clear hK K
  refine alH fun K hK => ?_
  go_wp2
  refine hK.out _ _ Bk1 ?_
  clear hK K
  refine chainH_nil ?_
  have HB := hide Bk1; clear Bk1
  rw [HOK.out]
  go_wp2; go_ret2
  exact ⟨A, n, c, rfl, HB.out, fun _ => ⟨HNC.out, HZ.out.below HB.out, by rw [HN.out, HNC.out]⟩⟩
 ·have e1 : ((n : Int) == (C : Int)) = false := by simp; omega
  have HOK : Hid (ok = false) := by unfold Hid; rw [← hok, hn]; simp [hnC]
  clear hz hn h1 hlb hS hok hnC
  go_enter Tryz.func84, Tryz.ntmps84
  go_wp2
  refine rgH (fun w' => Below w.heap.size w w') [(true, 3), (true, 4), (true, 0), (false, 1), (false, 2), (false, 5), (false, 6), (false, 7), (false, 8), (true, 10), (false, 9), (false, 11)] bd1 ?_
  refine stH (h := ?_)
  refine stH (h := ?_)
  refine stH (hy := fun w hS => by have f0 := (H1.out.later hS).cell 0; go_simp <;> with_reducible rfl) (h := ?_)
  refine alH fun K hK => ?_
  go_wp2
  refine hK.out _ _ bd1 ?_
  clear hK K
  refine alH fun K hK => ?_
  go_wp2
  refine hK.out _ _ bd1 ?_
  clear hK K
  refine alH fun K hK => ?_
  go_wp2
  refine hK.out _ _ bd1 ?_
  clear hK K
  refine alH fun K hK => ?_
  go_wp2
  refine hK.out _ _ bd1 ?_
  clear hK K
  refine paH bd1 (h := ?_)
  refine paH bd1 (h := ?_)
  refine stH (h := ?_)
  refine alH fun K hK => ?_
  go_wp2
  refine hK.out _ _ bd1 ?_
  clear hK K
  refine alH fun K hK => ?_
  go_wp2
  refine hK.out _ _ bd1 ?_
  clear hK K
  refine chainH_nil ?_
  go_wp2; go_ret2
  exact ⟨A, n, c, by rw [HOK.out]; rfl, (Below.refl _ _).drewN 1, fun q => by rw [HOK.out] at q; cases q⟩
theorem lay_chg (g : Gd) (r : Nat) (hr : r < g.ls.length) (zs : List Cel) (C : Nat) : (if (decide (zs.length = C) && rightL zs) = true then { g with ls := g.ls.set r zs } else g) = layG g (r : Int) zs C := by
 unfold layG layOk
 rw [hasG_in hr, Bool.true_and, Int.toNat_natCast]
theorem lay_ok (g : Gd) (r : Nat) (hr : r < g.ls.length) (zs : List Cel) (C : Nat) : layOk g (r : Int) zs C = (decide (zs.length = C) && rightL zs) := by
 unfold layOk
 rw [hasG_in hr, Bool.true_and]
theorem lay_none (g : Gd) (r : Int) (hr : ¬ hasG g.ls.length r) (zs : List Cel) (C : Nat) : layG g r zs C = g ∧ layOk g r zs C = false := by
 have : layOk g r zs C = false := by unfold layOk; simp [hr]
 unfold layG
 rw [this]
 exact ⟨rfl, rfl⟩
theorem glay_any (h : Grd w G L M R C g) (hC : C ≤ 512) (hS : Spans w) (R0 : Int) (A : Option Addr) (n c : Nat) (zs : List Cel) (hz : Cels .i32 w A zs) (hn : zs.length = n) (hl : n ≤ 1000000) (hlb : LB zs) :
  Calls Tryz.prog 47 #[.pointer (some ⟨G, 0, none⟩), .int .i64 R0, .slice A n c] w fun e w' => e = .returned (.bool (layOk g R0 zs C)) ∧ Grd w' G L M R C (layG g R0 zs C) ∧ Trn G L M w w' := by
 obtain ⟨W0, hW0⟩ := exq (w.alloc (.cells #[.slice A n c] 45))
 have HB : Hid (Below w.heap.size w W0) := by unfold Hid; rw [← hW0]; exact (Below.refl _ _).alloc (Nat.le_refl _) _
 have HS : Hid (Spans W0) := by unfold Hid; rw [← hW0]; exact hS.alloc _
 have HX0 : Hid (Whole W0 (w.heap.size) 45 [.slice A n c]) := by unfold Hid; rw [← hW0]; exact (Whole.new _ _ _)
 have HG := hide (h.later HB.out)
 have HLen := hide h.glen; have HW0 := hide hW0; clear hW0 h hS
 by_cases hr : hasG R R0
 ·obtain ⟨q, hq⟩ : ∃ q : Nat, R0 = (q : Int) := ⟨R0.toNat, by unfold hasG at hr; omega⟩
  subst hq
  have hqR : q < R := by unfold hasG at hr; omega
  have HE := hide (lay_chg g q (by rw [HLen.out]; exact hqR) zs C)
  have HO := hide (lay_ok g q (by rw [HLen.out]; exact hqR) zs C)
  go_enter Tryz.func47, Tryz.ntmps47
  go_wp2_with fail
  rw [HW0.out]
  obtain ⟨cap, ps, room, more, hat⟩ := HG.out
  refine (change_any HG.out 84 _ q hqR (zs) (decide (zs.length = C) && rightL zs) (enter_of Tryz.func84 (by kernel_rfl) (by kernel_rfl)) (fun off c9 hc args hargs => ?_)).mono ?_
  ·have ha2 : args = #[.slice (some ⟨M, off, none⟩) C C, .pointer (some ⟨w.heap.size, 0, none⟩)] := by simpa using hargs
   subst ha2
   exact lay1_any off _ A n c zs W0 (hz.below HB.out) hn hl hlb HS.out HX0.out rfl
  rintro e w1 ⟨rfl, hg, ht⟩
  rw [HE.out] at hg
  have HG1 := hide hg
  have HT1 := hide (Trn.ofB HB.out ht)
  clear hg ht hat
  rw [← HO.out]
  go_wp2; go_ret
  exact ⟨rfl, HG1.out, HT1.out⟩
 ·have HE := hide (lay_none g R0 (by rw [HLen.out]; exact hr) zs C)
  go_enter Tryz.func47, Tryz.ntmps47
  go_wp2_with fail
  rw [HW0.out]
  refine (change_no HG.out 84 _ R0 hr).mono ?_
  rintro e w1 ⟨rfl, rfl⟩
  go_wp2; go_ret
  exact ⟨by rw [HE.out.2]; rfl, by rw [HE.out.1]; exact HG.out, Trn.of_below HB.out⟩
end
theorem whole_owned1 {w : World} {B : Nat} {e : TypeId} {g n : Nat} {xs : List Value} (h : w.ownsRow B e 1 (.slice (some ⟨g, 0, none⟩) n n) n xs) : Whole w g e xs := by
 rcases h.2 with ⟨h', _⟩ | ⟨g', cap', cur, h', hb, hg, hnc, hcm, hcs, htake⟩
 ·cases h'
 ·simp only [Value.slice.injEq, Option.some.injEq, Addr.mk.injEq, and_true, true_and] at h'
  obtain ⟨rfl, rfl⟩ := h'
  rw [List.take_of_length_le (Nat.le_of_eq (by rw [Array.length_toList, hcs]))] at htake
  subst htake
  exact hg
theorem zeros_rows (n : Nat) : (madeCells #[Value.slice none 0 0] n).toList = List.replicate n (.slice none 0 0) := by
 apply List.ext_getElem?
 intro j
 by_cases hj : j < n
 ·simp only [madeCells, Array.toList_map, List.getElem?_map, Array.toList_range, List.getElem?_range hj, Option.map_some, List.getElem?_replicate, if_pos hj]
  simp [Nat.mod_one]
 ·rw [List.getElem?_eq_none (by rw [Array.length_toList, size_madeCells]; omega), List.getElem?_eq_none (by simp; omega)]
theorem wpList_makeR {ops : Array Oper} {rest : List Oper} {o : Oper} {a : Act} {w : World} {Q : Exit → Act → World → Prop} (hg : o.guard = none) (x y : Operand) (hop : o.op = .makeSlice 100 x y)
  (n : Nat) (hx : a.eval x = .int .i64 n) (hy : a.eval y = .int .i64 n) (hn : n ≤ 1000000)
  (h : ∀ w', Whole w' w.heap.size 45 (List.replicate n (.slice none 0 0)) → Below w.heap.size w w' → wpList Tryz.prog ops Q rest (a.put o.dst (.slice (some ⟨w.heap.size, 0, none⟩) n n)) w') : wpList Tryz.prog ops Q (o :: rest) a w := by
 obtain ⟨i0, hi, hz0, hz1, hz2⟩ := info_parts elemRL.info
 have hb : 24 * n ≤ 24 * 1000000 := Nat.mul_le_mul (Nat.le_refl _) hn
 refine wpList_make_full w hg x y 100 hop w.heap.size 45 i0 _ 1 elemRL.under hi hz0 hz1 .i64 .i64 n n n hx hy rfl rfl (by rw [hz2]; omega) (by unfold maxLen; omega) (Nat.le_refl _) ?_
 intro w' ho hgr
 have hw := whole_owned1 ho
 rw [show (Value.slice none 0 0).cells = #[Value.slice none 0 0] from rfl, Nat.mul_one, zeros_rows] at hw
 exact h w' hw ⟨hgr.os, hgr.tape, hgr.output, hgr.size, fun i hi => hgr.block i hi (by simp)⟩
def rowsTo (M C R k : Nat) : List Value := rowsV M C (fun i => i) k ++ List.replicate (R - k) (.slice none 0 0)
theorem rowsTo_0 (M C R : Nat) : rowsTo M C R 0 = List.replicate R (.slice none 0 0) := by simp [rowsTo, rowsV]
theorem rowsTo_all (M C R : Nat) : rowsTo M C R R = rowsV M C (fun i => i) R ++ [] := by simp [rowsTo]
theorem rowsTo_len (M C R k : Nat) (h : k ≤ R) : (rowsTo M C R k).length = R := by unfold rowsTo; rw [List.length_append, rowsV_len, List.length_replicate]; omega
theorem rowsTo_next (M C R k : Nat) (h : k < R) : (rowsTo M C R k).set k (.slice (some ⟨M, k * C * 7, none⟩) C C) = rowsTo M C R (k + 1) := by
 apply List.ext_getElem?
 intro i
 rw [List.getElem?_set, rowsTo_len M C R k (by omega)]
 unfold rowsTo
 by_cases e : k = i
 ·subst e
  rw [if_pos rfl, if_pos h, List.getElem?_append_left (by rw [rowsV_len]; omega), rowsV_get _ _ _ _ _ (by omega)]
  rfl
 ·rw [if_neg e]
  by_cases h1 : i < k
  ·rw [List.getElem?_append_left (by rw [rowsV_len]; omega), List.getElem?_append_left (by rw [rowsV_len]; omega), rowsV_get _ _ _ _ _ h1, rowsV_get _ _ _ _ _ (by omega)]
  ·rw [List.getElem?_append_right (by rw [rowsV_len]; omega), List.getElem?_append_right (by rw [rowsV_len]; omega), rowsV_len, rowsV_len, List.getElem?_replicate, List.getElem?_replicate]
   by_cases h2 : i < R
   ·rw [if_pos (by omega), if_pos (by omega)]
   ·rw [if_neg (by omega), if_neg (by omega)]
theorem rowsTo_row (M C R k : Nat) (h : k < R) : (rowsTo M C R (k + 1))[k]? = some (.slice (some ⟨M, k * C * 7, none⟩) C C) := by
 unfold rowsTo
 rw [List.getElem?_append_left (by rw [rowsV_len]; omega), rowsV_get _ _ _ _ _ (by omega)]
 rfl
def Tells (C : Nat) (z : List Cel) (w : World) (e : Ending) (w' : World) : Prop := ∃ A c, e = .returned (.slice A C c) ∧ Below w.heap.size w w' ∧ Cels .i32 w' A z ∧ z.length = C
def NewGrd (R C : Nat) (g : Gd) (w : World) (G L M : Nat) (w' : World) : Prop := Grd w' G L M R C g ∧ Below w.heap.size w w' ∧ w.heap.size ≤ G ∧ w.heap.size ≤ L ∧ w.heap.size ≤ M
theorem made_any (R C : Nat) (hR : R ≤ 512) (hC1 : 1 ≤ C) (hC : C ≤ 512) (f : FuncId) (caps : Array Value) (F : Nat → List Cel) (w : World) (hfc : ∀ args w, (callFunc f args).run Tryz.prog w = .ok (.enter f args) w)
  (hf : ∀ (k : Nat) (wr : World), k < R → Below w.heap.size w wr → ∀ args, args = #[.int .i64 k] ++ caps → Calls Tryz.prog f args wr (Tells C (F k) wr)) :
  Calls Tryz.prog 59 #[.int .i64 R, .int .i64 C, .func (.func f) #[] caps] w fun e w' => ∃ G L M, e = .returned (.pointer (some ⟨G, 0, none⟩)) ∧ NewGrd R C ⟨gtab R F, 0, 0⟩ w G L M w' := by
 obtain ⟨N, hN⟩ := exq (R * C)
 have hN2 : N ≤ 262144 := by rw [← hN]; exact Nat.mul_le_mul hR hC
 have hmul : (R : Int) * (C : Int) = (N : Int) := by rw [← hN]; simp
 have HN := hide hN; clear hN
 go_enter Tryz.func59, Tryz.ntmps59
 go_wp2_with (at_make; refine stopw ?_)
 unfold Hid
 refine wpList_makeR rfl _ _ rfl R rfl rfl (by omega) ?_
 intro w1 hw1 hb1
 obtain ⟨GB, hGB⟩ := exq (w1.heap.size)
 obtain ⟨W1, hW1⟩ := exq (w1.alloc (.cells #[.int .i64 0, .int .i64 0, .slice (some ⟨w.heap.size, 0, none⟩) R R] 102))
 have HL1 : Hid (Whole W1 w.heap.size 45 (List.replicate R (.slice none 0 0))) := by unfold Hid; rw [← hW1]; exact hw1.alloc _
 have HG1 : Hid (Whole W1 GB 102 [.int .i64 0, .int .i64 0, .slice (some ⟨w.heap.size, 0, none⟩) R R]) := by unfold Hid; rw [← hW1, ← hGB]; exact Whole.new _ _ _
 have HB1 : Hid (Below w.heap.size w W1) := by unfold Hid; rw [← hW1]; exact hb1.alloc hb1.size _
 have HGB : Hid (w.heap.size ≤ GB) := by unfold Hid; rw [← hGB]; exact hb1.size
 have HW1 := hide hW1; have HGB1 := hide hGB; clear hw1 hb1 hW1 hGB
 go_wp2_with (at_make; refine stopw ?_)
 unfold Hid
 rw [HW1.out, HGB1.out]
 refine wpList_makeL elemL rfl _ _ rfl N rfl rfl (by omega) (by omega) ?_
 intro W2 hw2 hb2
 obtain ⟨MB, hMB⟩ := exq (W1.heap.size)
 rw [hMB] at hw2
 have HL2 := hide (HL1.out.later hb2)
 have HG2 := hide (HG1.out.later hb2)
 have HM2 := hide hw2
 have HB2 := hide (HB1.out.trans (hb2.mono HB1.out.size))
 have HMB : Hid (w.heap.size ≤ MB) := by unfold Hid; rw [← hMB]; exact HB1.out.size
 clear hw2 hb2 HL1 HG1
 obtain ⟨t0, t1, t2, lt⟩ := cells3 HG2.out
 have HMB1 := hide hMB; go_wp2; clear hMB t0 t1 t2 lt
 go_loopw [9, 10, 11, 25] (fun _ _ _ i wr => ∃ (k : Nat) (room : List Cel), k ≤ R ∧ i = .int .i64 k ∧ Whole wr w.heap.size 45 (rowsTo MB C R k) ∧ Whole wr GB 102 [.int .i64 0, .int .i64 0, .slice (some ⟨w.heap.size, 0, none⟩) R R] ∧ Whole wr MB 65 (flatC .i32 room) ∧ room.length = N ∧ (∀ q, q < k → partC room C q = F q) ∧ Below w.heap.size w wr) (fun _ _ _ i _ => R - (intOf i).toNat)
 case atStart => exact ⟨0, _, Nat.zero_le _, rfl, by rw [rowsTo_0]; exact HL2.out, HG2.out, HM2.out, by simp, fun q hq => by omega, HB2.out⟩
 case round =>
  obtain ⟨k, room, hk, rfl, hwL, hwG, hwM, hlen, hpart, hbel⟩ := hrel
  have HLk := hide hwL; have HGk := hide hwG; have HMk := hide hwM; have HRL := hide hlen; have HPk := hide hpart; have HBk := hide hbel; clear hwL hwG hwM hlen hpart hbel
  by_cases hlt : k < R
  ·obtain ⟨K1, hK1⟩ := exq (k * C)
   have hm1 : (k : Int) * (C : Int) = (K1 : Int) := by rw [← hK1]; simp
   obtain ⟨K2, hK2⟩ := exq (K1 + C)
   have hm2 : ((k : Int) + 1) * (C : Int) = (K2 : Int) := by rw [← hK2, ← hK1, Int.add_mul]; simp
   have HK2 : Hid (K1 + C ≤ N) := by unfold Hid; rw [← hK1]; exact mul_room hlt HN.out.symm
   have hl1 : K1 ≤ K2 := by omega
   have hl2 : K2 ≤ N := by have := HK2.out; omega
   have HKC : Hid (K2 - K1 = C) := by unfold Hid; omega
   have HK1 := hide hK1
   obtain ⟨t0, t1, t2, lt⟩ := cells3 HGk.out
   have hz := HLk.out.frozen
   have lL := HLk.out.lt
   obtain ⟨x0, hx0⟩ : ∃ x, wr.cell? ⟨w.heap.size, k, none⟩ = some x := ⟨_, by rw [HLk.out.cell, List.getElem?_eq_getElem (by rw [rowsTo_len _ _ _ _ hk]; exact hlt)]⟩
   have hne : ¬ N = K1 := by omega
   have HKK := hide hK2; clear hK1 hK2; go_wp2
   refine rgL (fun _ => True) 11 [(0, 0), (0, 4), (0, 5), (0, 6), (0, 7), (0, 8), (0, 1), (0, 2), (0, 9), (1, 3), (1, 10), (3, 11)] (trivial) ?_
   iterate 8 refine stL (h := ?_)
   refine chainL_take (v := .slice (some ⟨MB, K1 * 7, none⟩) C C) (by simp only [List.getElem?_toArray, List.getElem?_cons_zero, List.getElem?_cons_succ]; rfl) (by rfl) (fun w hS => ?_) ?_
   ·go_simp
    rw [HKC.out]
    exact ⟨fun q => absurd q (by have := HKK.out; omega), rfl⟩
   simp only [Act.put, List.setIfInBounds_toArray, List.set_cons_zero, List.set_cons_succ]
   refine alL fun K hK => ?_
   go_wp2
   refine hK.out _ _ (trivial) ?_
   clear hK K
   refine alL fun K hK => ?_
   go_wp2
   refine hK.out _ _ (trivial) ?_
   clear hK K
   refine laL fun K hK => ?_
   go_wp2
   refine hK.out _ _ ?_
   clear hK K
   refine chainL_nil ?_
   obtain ⟨W3, hW3⟩ := exq ((wr.setCell ⟨w.heap.size, k, none⟩ (.slice (some ⟨MB, K1 * 7, none⟩) C C)).drew)
   have HL3 : Hid (Whole W3 w.heap.size 45 (rowsTo MB C R (k + 1))) := by unfold Hid; rw [← hW3, ← rowsTo_next _ _ _ _ hlt, HK1.out]; exact (HLk.out.put k _).drew
   have HG3 : Hid (Whole W3 GB 102 [.int .i64 0, .int .i64 0, .slice (some ⟨w.heap.size, 0, none⟩) R R]) := by unfold Hid; rw [← hW3]; exact (HGk.out.far (Only.put k _) (HGk.out.ne HLk.out (by decide))).drew
   have HM3 : Hid (Whole W3 MB 65 (flatC .i32 room)) := by unfold Hid; rw [← hW3]; exact (HMk.out.far (Only.put k _) (HMk.out.ne HLk.out (by decide))).drew
   have HB3 : Hid (Below w.heap.size w W3) := by unfold Hid; rw [← hW3]; exact (HBk.out.setCell (p := ⟨w.heap.size, k, none⟩) (Nat.le_refl _) _).drewN 1
   have HRW : Hid ((rowsTo MB C R (k + 1))[k]? = some (.slice (some ⟨MB, K1 * 7, none⟩) C C)) := by unfold Hid; rw [rowsTo_row _ _ _ _ hlt, HK1.out]
   rw [hW3]
   clear hW3 t0 t1 t2 lt hz lL hx0 HLk HGk HMk HBk; go_wp2
   refine rgL (fun w' => Below W3.heap.size W3 w') 10 [(0, 0), (0, 4), (0, 7), (0, 8), (0, 1), (0, 2), (0, 3), (0, 5), (0, 6), (1, 9), (3, 10)] bd1 ?_
   iterate 6 refine stL (h := ?_)
   refine stL (hy := fun w hS => by obtain ⟨t0, t1, t2, -⟩ := cells3 (HG3.out.later hS); go_simp <;> with_reducible rfl) (h := ?_)
   refine stL (h := ?_)
   refine stL (hy := fun w hS => by have l0 := (HL3.out.later hS).cell k; rw [HRW.out] at l0; go_simp <;> with_reducible rfl) (h := ?_)
   refine alL fun K hK => ?_
   go_wp2_with fail
   refine (hf k W3.drew hlt ((HB3.out).drewN 1) _ rfl).mono ?_
   rintro e k1 ⟨A, c, rfl, hb, hc, hn⟩
   have Bk1 : Below W3.heap.size W3 k1 := bd1.trans hb
   clear hb
   obtain ⟨k2, hrun, hw2, ho2⟩ := run_copyL elemL k1 3 MB K1 65 room (F k) A C C C c (HM3.out.later Bk1) hc hn (by rw [HRL.out]; exact HK2.out)
   rw [List.take_of_length_le (Nat.le_of_eq hn)] at hw2
   have HO2 := hide ho2; have HW2 := hide hw2; have HFn := hide hn; have HBk1 := hide Bk1; clear hw2 ho2 hc hn; go_wp2
   refine hK.out _ _ (Bk1) ?_
   clear hK K
   refine laL fun K hK => ?_
   go_wp2
   refine hK.out _ _ ?_
   clear hK K
   refine chainL_nil ?_
   go_wp2
   go_roundw
   case rel =>
    refine ⟨k + 1, layC room K1 (F k), by omega, by go_num, ?_, ?_, HW2.out, ?_, ?_, ?_⟩
    ·exact (HL3.out.later HBk1.out).far HO2.out (HL3.out.ne HM3.out (by decide))
    ·exact (HG3.out.later HBk1.out).far HO2.out (HG3.out.ne HM3.out (by decide))
    ·rw [lay_len _ _ _ (by rw [HFn.out, HRL.out]; exact HK2.out), HRL.out]
    ·intro q hq
     rw [← HK1.out, part_lay room (F k) C q k R hlt (by omega) (by rw [HRL.out, HN.out]) HFn.out]
     split
     ·rename_i e; rw [e]
     ·rename_i e; exact HPk.out q (by omega)
    ·exact HO2.out.below (HB3.out.trans (HBk1.out.mono HB3.out.size)) (Nat.le_trans HB3.out.size HBk1.out.size) HMB.out
   case measure => simp [intOf]; omega
  ·obtain rfl : k = R := by omega
   go_wp2; go_ret
   refine ⟨GB, _, MB, rfl, ⟨k, fun i => i, room, [], ?_⟩, HBk.out, HGB.out, Nat.le_refl _, HMB.out⟩
   refine ⟨HGk.out, by rw [← rowsTo_all]; exact HLk.out, HMk.out, by rw [HRL.out, HN.out], Nat.le_refl _, by unfold maxLen; omega, fun i hi => hi, fun i j _ _ h => h, gtab_eq fun i hi => (HPk.out i hi).symm⟩
end
end Go.Proofs.YtoddfaoifnkhlaaGreatDoor
