/-
  Contracts and plain mathematics of GRef2, GRef5, GRef4.
-/
import Derived.Test.YtkijclgbpbhglaaGreatDoorQd18
import Derived.Test.YtkijclgbpbhglaaGreatDoorQd10
namespace Go.Proofs.YtkijclgbpbhglaaGreatDoor
set_option maxRecDepth 100000
set_option linter.unusedVariables false
set_option maxHeartbeats 8000000
section
open Go.ChangeShapes Go.WideShapes Go.ChangeAt Go.RowKit
theorem Cels.addr {k : IntKind} {w : World} {A : Option Addr} {z : List Cel} (h : Cels k w A z) (h1 : 1 ≤ z.length) : A = none → False := by
 rintro rfl
 rcases h with rfl | ⟨b, off, e, _⟩
 ·simp at h1
 ·cases e
theorem with7_any (A : Option Addr) (R cap row col : Nat) (ls : List (List Cel)) (w : World) (h : Lns w A ls) (hR : ls.length = R) (hR2 : R ≤ 512) (r : Nat) (hr : r < R) (Al : Option Addr) (nl cl : Nat) (zs : List Cel) (hz : Cels .i64 w Al zs) (hn : zs.length = nl) (h1 : 1 ≤ nl) (hl : nl ≤ 1000000) :
  Calls Tryz.prog 161 #[.agg #[.slice A R cap, .int .i64 row, .int .i64 col], .int .i64 r, .slice Al nl cl] w (GaveD R ⟨ls.set r zs, row, col⟩ w) := by
 obtain ⟨W0, hW0⟩ := exq ((w.alloc (.cells #[.slice A R cap, .int .i64 row, .int .i64 col] 32)).alloc (.cells #[.slice none 0 0, .int .i64 0, .int .i64 0] 32))
 have HB0 : Hid (Below w.heap.size w W0) := by unfold Hid; rw [← hW0]; exact two_new _ _ _ _ _
 have HP0 : Hid (Whole W0 w.heap.size 32 [.slice A R cap, .int .i64 row, .int .i64 col]) := by unfold Hid; rw [← hW0]; exact (Whole.new _ _ _).alloc _
 have HQ0 : Hid (Whole W0 (w.heap.size + 1) 32 [.slice none 0 0, .int .i64 0, .int .i64 0]) := by unfold Hid; rw [← hW0]; exact whole_snd _ _ _ _
 obtain ⟨F, hF⟩ : ∃ F : Nat → List Cel, (fun i => if i = r then zs else lAt ls i) = F := ⟨_, rfl⟩
 have HF1 : Hid (F r = zs) := by unfold Hid; rw [← hF]; simp
 have HF2 : Hid (∀ i, i ≠ r → F i = lAt ls i) := by unfold Hid; intro i hi; rw [← hF]; simp [hi]
 have HFE : Hid (gtab R F = ls.set r zs) := by unfold Hid; rw [← hF, set_gtab, hR]
 have HL := hide h; have HZ := hide hz; have HN := hide hn; have HR := hide hR
 have HAl : Hid (Al = none → cl = 0) := by unfold Hid; intro e; exact absurd e (fun q => hz.addr (by omega) q)
 have HW0 := hide hW0; clear hW0 h hz hn hF hR
 go_enter Tryz.func161, Tryz.ntmps161
 go_wp2; rw [HW0.out]
 go_loopw [7, 8] (fun v i wr => ∃ (k : Nat), k ≤ R ∧ i = .int .i64 k ∧ RwsC w.heap.size w wr v (gtab k F) ∧ Whole wr w.heap.size 32 [.slice A R cap, .int .i64 row, .int .i64 col] ∧ Whole wr (w.heap.size + 1) 32 [.slice none 0 0, .int .i64 0, .int .i64 0]) (fun _ i _ => R - (intOf i).toNat)
 case atStart => exact ⟨0, Nat.zero_le _, rfl, RwsC.from0 HB0.out.size HB0.out, HP0.out, HQ0.out⟩
 case round =>
  obtain ⟨k, hk, rfl, hv, hp, hq⟩ := hrel
  have HV := hide hv; have HQ := hide hq; have HP := hide hp; clear hv hq hp
  obtain ⟨b0, b1, b2, lb⟩ := cells3 HP.out
  by_cases hlt : k < R
  ·by_cases hkr : k = r
   ·have e1 : ((k : Int) == (r : Int)) = true := by simp [hkr]
    have HKR := hide hkr; clear hkr
    go_wp2_with (at_builtin; refine stopw ?_)
    unfold Hid
    refine wpList_catC elemLC rfl _ _ rfl rfl rfl (OwnC.empty wr 166 .i64) ((HZ.out.below HV.out.bel).alloc _) HN.out HAl.out (by simp; omega) (by omega) ?_
    intro x w1 hx
    simp only [List.nil_append] at hx
    have HX := hide hx.rowOk; have HB1 := hide hx.bel
    obtain ⟨Ax, cx, rfl, -⟩ := hx.rowOk
    clear hx
    have HV1 := hide (HV.out.later HB1.out)
    have HP1 := hide (HP.out.later HB1.out)
    have HQ1 := hide (HQ.out.later HB1.out)
    clear b0 b1 b2 lb
    go_wp2_with (at_builtin; refine stopw ?_)
    unfold Hid
    refine wpList_pushL rfl _ _ rfl rfl rfl HV1.out HX.out (by rw [gtab_len]; omega) ?_
    intro v2 w2 hown hoth
    have HV2 : Hid (RwsC w.heap.size w w2 v2 (gtab (k + 1) F)) := by unfold Hid; rw [gtab_snoc, HKR.out, HF1.out, ← HKR.out]; exact hown
    have HQ2 := hide (hoth _ _ _ (by decide) HQ1.out)
    have HP2 := hide (hoth _ _ _ (by decide) HP1.out)
    clear hown hoth; go_wp2
    go_roundw
    case rel => exact ⟨k + 1, by omega, by go_num, HV2.out, HP2.out, HQ2.out⟩
    case measure => simp [intOf]; omega
   ·have e1 : ((k : Int) == (r : Int)) = false := by simp; omega
    obtain ⟨b, A', c', rfl, lb', hc, hrow, -, -⟩ := (HL.out.below HV.out.bel).at (i := k) (by rw [HR.out]; exact hlt)
    have HX := hide hrow
    have HFk := hide (HF2.out k hkr)
    clear hrow hkr
    go_wp2_with (at_builtin; refine stopw ?_)
    unfold Hid
    refine wpList_pushL rfl _ _ rfl rfl rfl HV.out HX.out (by rw [gtab_len]; omega) ?_
    intro v2 w2 hown hoth
    have HV2 : Hid (RwsC w.heap.size w w2 v2 (gtab (k + 1) F)) := by unfold Hid; rw [gtab_snoc, HFk.out]; exact hown
    have HQ2 := hide (hoth _ _ _ (by decide) HQ.out)
    have HP2 := hide (hoth _ _ _ (by decide) HP.out)
    clear hown hoth b0 b1 b2 lb hc lb'; go_wp2
    go_roundw
    case rel => exact ⟨k + 1, by omega, by go_num, HV2.out, HP2.out, HQ2.out⟩
    case measure => simp [intOf]; omega
  ·obtain rfl : k = R := by omega
   obtain ⟨d0, d1, d2, ld⟩ := cells3 HQ.out
   have hz := HQ.out.frozen
   obtain ⟨A3, c3, rfl, -, -, -, hL⟩ := HV.out.form
   rw [gtab_len] at HV ⊢
   have HL3 := hide hL; clear hL; go_wp2
   refine retG Tryz.results161 rfl rfl (put3 HQ.out _ _ _) ⟨A3, c3, rfl, ?_, below_put3 HV.out.bel (by omega) _ _ _⟩
   rw [HFE.out] at HL3
   exact HL3.out.put3 HQ.out (by decide) (by decide) _ _ _
theorem rgscroll_any (A : Option Addr) (R C cap : Nat) (g : Gd) (w : World) (h : Lns w A g.ls) (hok : GOk g R C) (n : Int) (f g2 b : Nat) :
  Calls Tryz.prog 107 #[.agg #[.slice A R cap, .int .i64 g.row, .int .i64 g.col], .int .i64 n, .agg #[.int .u8 f, .int .u8 g2, .int .u8 b]] w (GaveD R (scrollG g C n ⟨f, g2, b⟩) w) := by
 obtain ⟨W0, hW0⟩ := exq (((w.alloc (.cells #[.slice A R cap, .int .i64 g.row, .int .i64 g.col] 32)).alloc (.cells #[.int .u8 f, .int .u8 g2, .int .u8 b] 38)).alloc (.cells #[.slice none 0 0, .int .i64 0, .int .i64 0] 32))
 have HB0 : Hid (Below w.heap.size w W0) := by unfold Hid; rw [← hW0]; exact three_new w _ _ _
 have HX0 : Hid (Whole W0 (w.heap.size) 32 [.slice A R cap, .int .i64 g.row, .int .i64 g.col]) := by unfold Hid; rw [← hW0]; exact (((Whole.new _ _ _).alloc _).alloc _)
 have HX1 : Hid (Whole W0 (w.heap.size + 1) 38 [.int .u8 f, .int .u8 g2, .int .u8 b]) := by unfold Hid; rw [← hW0]; exact ((whole_snd _ _ _ _).alloc _)
 have HX2 : Hid (Whole W0 (w.heap.size + 2) 32 [.slice none 0 0, .int .i64 0, .int .i64 0]) := by unfold Hid; rw [← hW0]; exact (whole_thd w _ _ 32 [.slice none 0 0, .int .i64 0, .int .i64 0])
 have HW0 := hide hW0; clear hW0; have HL := hide h
 have hR1 := hok.r1
 have hR2 := hok.r2
 have hC0 := hok.c1
 have hC2 := hok.c2
 have HLen := hide hok.len
 have HC0 := hide (hok.each 0 hok.r1).1
 obtain ⟨p0, p1, p2, lp⟩ := cells3 HX0.out
 obtain ⟨a0, a1, a2, la⟩ := cells3 HX1.out
 clear h hok
 by_cases hp : rightN ⟨f, g2, b⟩ = true
 ·have HPR := hide hp
  clear hp
  by_cases h1 : (R : Int) < n
  ·have hn1 : (R : Int) < n := h1
   have HCL : Hid (clampI n R = (R : Int)) := by unfold Hid clampI; omega
   obtain ⟨F, hF⟩ := exq (scrollAt g.ls C (clampI n R) ⟨f, g2, b⟩)
   have HGE : Hid (scrollG g C n ⟨f, g2, b⟩ = { g with ls := gtab R F }) := by unfold Hid scrollG; rw [if_pos HPR.out, HLen.out, hF]
   have HF : Hid (∀ i, F i = if 0 ≤ (i : Int) + (R : Int) ∧ (i : Int) + (R : Int) < (R : Int) then lAt g.ls ((i : Int) + (R : Int)).toNat else tab C (fun _ => blankC ⟨f, g2, b⟩)) := by
    unfold Hid; intro i
    rw [← hF, HCL.out]
    unfold scrollAt
    rw [HLen.out]
   clear hF HCL h1
   go_enter Tryz.func107, Tryz.ntmps107
   go_wp2_with fail
   rw [HW0.out]
   refine (rright_any f g2 b W0).mono ?_
   rintro e W1 ⟨rfl, hb⟩
   rw [HPR.out]
   have HP0 := hide (HX0.out.later hb)
   have HY0 := hide (HX1.out.later hb)
   have HZ0 := hide (HX2.out.later hb)
   have HB1 := hide (HB0.out.trans (hb.mono HB0.out.size))
   clear hb p0 p1 p2 lp a0 a1 a2 la
   obtain ⟨p0, p1, p2, lp⟩ := cells3 HP0.out
   go_wp2; clear p0 p1 p2 lp
   go_loopw [8, 9] (fun v i wr => ∃ (k : Nat), k ≤ R ∧ i = .int .i64 k ∧ RwsC w.heap.size w wr v (gtab k F) ∧ Whole wr w.heap.size 32 [.slice A R cap, .int .i64 g.row, .int .i64 g.col] ∧ Whole wr (w.heap.size + 1) 38 [.int .u8 f, .int .u8 g2, .int .u8 b] ∧ Whole wr (w.heap.size + 2) 32 [.slice none 0 0, .int .i64 0, .int .i64 0]) (fun _ i _ => R - (intOf i).toNat)
   case atStart => exact ⟨0, Nat.zero_le _, rfl, RwsC.from0 HB1.out.size HB1.out, HP0.out, HY0.out, HZ0.out⟩
   case round =>
    obtain ⟨k, hk, rfl, hv, hp, hy, hz⟩ := hrel
    have HV := hide hv; have HP := hide hp; have HY := hide hy; have HZ := hide hz
    obtain ⟨Av, cv, rfl, -⟩ := hv.form
    rw [gtab_len] at HV ⊢
    clear hv hp hy hz
    by_cases hlt : k < R
    ·have HFb : Hid (F k = tab C (fun _ => blankC ⟨f, g2, b⟩)) := by unfold Hid; rw [HF.out, if_neg (by omega)]
     have h0 : 0 ≤ (k : Int) + (R : Int) := by omega
     have h3 : ¬ (k : Int) + (R : Int) < (R : Int) := by omega
     obtain ⟨p0, p1, p2, lp⟩ := cells3 HP.out
     go_wp2; clear p0 p1 p2 lp
     refine rgL (fun w' => Below wr.heap.size wr w') 9 [(0, 0), (0, 1), (0, 4), (0, 6), (1, 2), (1, 3), (1, 5), (1, 7), (1, 8), (3, 9), (3, 10)] bd1 ?_
     refine stL (h := ?_)
     refine stL (hy := fun w hS => by obtain ⟨e0, e1, e2, -⟩ := cells3 (HP.out.later hS); go_simp <;> with_reducible rfl) (h := ?_)
     refine stL (hy := fun w hS => by obtain ⟨e0, e1, e2, -⟩ := cells3 (HP.out.later hS); go_simp <;> with_reducible rfl) (h := ?_)
     refine stL (hy := fun w hS => by obtain ⟨e0, e1, e2, -⟩ := cells3 (HY.out.later hS); go_simp <;> with_reducible rfl) (h := ?_)
     refine alL fun K hK => ?_
     go_wp2_with fail
     refine (rgcols_any A R cap C g.row g.col g.ls _ ((HL.out.below HV.out.bel).drewN 1) HLen.out hR1 HC0.out).mono ?_
     rintro e k1 ⟨rfl, hb⟩
     have Bk1 : Below wr.heap.size wr k1 := ((Below.refl wr.heap.size wr).drewN 1).trans hb
     clear hb; go_wp2
     refine hK.out _ _ (Bk1) ?_
     clear hK K
     refine alL fun K hK => ?_
     go_wp2_with fail
     refine (rnew_any (C : Int) k1).mono ?_
     rintro e k2 ⟨v2, rfl, hx⟩
     obtain ⟨A2, c2, rfl, hc2, -⟩ := hx.form
     have Bk2 : Below wr.heap.size wr k2 := Bk1.trans (hx.bel.mono Bk1.size)
     have HC2 := hide hc2
     rw [newC_len C hC2]
     clear hx hc2; go_wp2
     refine hK.out _ _ (Bk2) ?_
     clear hK K
     refine alL fun K hK => ?_
     go_wp2_with fail
     refine (rgcols_any A R cap C g.row g.col g.ls _ ((HL.out.below HV.out.bel).below Bk2) HLen.out hR1 HC0.out).mono ?_
     rintro e k3 ⟨rfl, hb⟩
     have Bk3 : Below wr.heap.size wr k3 := Bk2.trans (hb.mono Bk2.size)
     have HC3 := hide (HC2.out.below hb)
     clear hb; go_wp2
     refine hK.out _ _ (Bk3) ?_
     clear hK K
     refine alL fun K hK => ?_
     go_wp2_with fail
     refine (rerase_any A2 C c2 0 (C : Int) f g2 b (newC (C : Int)) k3 HC3.out (newC_len C hC2) (by omega)).mono ?_
     rintro e k4 ⟨x, rfl, hx⟩
     rw [erase_all _ C (newC_len C hC2)] at hx
     have HX := hide hx.rowOk
     have Bk4 : Below wr.heap.size wr k4 := Bk3.trans (hx.bel.mono Bk3.size)
     obtain ⟨Ax, cx, rfl, -⟩ := hx.rowOk
     have HV1 := hide (HV.out.later Bk4)
     have HP1 := hide (HP.out.later Bk4)
     have HY1 := hide (HY.out.later Bk4)
     have HZ1 := hide (HZ.out.later Bk4)
     clear hx; go_wp2
     refine hK.out _ _ (Bk4) ?_
     clear hK K
     refine alL fun K hK => ?_
     go_wp2
     refine hK.out _ _ (Bk4.alloc Bk4.size _) ?_
     clear hK K
     refine laL fun K hK => ?_
     go_wp2_with (at_builtin; refine stopw ?_)
     unfold Hid
     refine wpList_pushL rfl _ _ rfl rfl rfl HV1.out HX.out (by rw [gtab_len]; omega) ?_
     intro v9 w9 hown hoth
     have HV2 : Hid (RwsC w.heap.size w w9 v9 (gtab (k + 1) F)) := by unfold Hid; rw [gtab_snoc, HFb.out]; exact hown
     have HP2 := hide (hoth _ _ _ (by decide) HP1.out)
     have HY2 := hide (hoth _ _ _ (by decide) HY1.out)
     have HZ2 := hide (hoth _ _ _ (by decide) HZ1.out)
     clear hown hoth; go_wp2
     refine hK.out _ _ ?_
     clear hK K
     refine laL fun K hK => ?_
     go_wp2
     refine hK.out _ _ ?_
     clear hK K
     refine chainL_nil ?_
     clear Bk1 Bk2 Bk3 Bk4; go_wp2
     go_roundw
     case rel => exact ⟨k + 1, by omega, by go_num, HV2.out, HP2.out, HY2.out, HZ2.out⟩
     case measure => simp [intOf]; omega
    ·obtain rfl : k = R := by omega
     obtain ⟨p0, p1, p2, lp⟩ := cells3 HP.out
     obtain ⟨z0, z1, z2, lz⟩ := cells3 HZ.out
     have hzf := HZ.out.frozen
     obtain ⟨A3, c3, e3, -, -, -, hL⟩ := HV.out.form
     rw [gtab_len] at e3
     cases e3
     have HL3 := hide hL; clear hL; go_wp2
     refine retG Tryz.results107 rfl rfl (put3 HZ.out _ _ _) ⟨Av, cv, ?_, ?_, below_put3 HV.out.bel (by omega) _ _ _⟩
     ·rw [HGE.out]
     ·rw [HGE.out]
      exact HL3.out.put3 HZ.out (by decide) (by decide) _ _ _
  ·by_cases h2 : n < -(R : Int)
   ·have hn1 : ¬ (R : Int) < n := h1
    have hn2 : n < -(R : Int) := h2
    have HCL : Hid (clampI n R = (-(R : Int))) := by unfold Hid clampI; omega
    obtain ⟨F, hF⟩ := exq (scrollAt g.ls C (clampI n R) ⟨f, g2, b⟩)
    have HGE : Hid (scrollG g C n ⟨f, g2, b⟩ = { g with ls := gtab R F }) := by unfold Hid scrollG; rw [if_pos HPR.out, HLen.out, hF]
    have HF : Hid (∀ i, F i = if 0 ≤ (i : Int) + (-(R : Int)) ∧ (i : Int) + (-(R : Int)) < (R : Int) then lAt g.ls ((i : Int) + (-(R : Int))).toNat else tab C (fun _ => blankC ⟨f, g2, b⟩)) := by
     unfold Hid; intro i
     rw [← hF, HCL.out]
     unfold scrollAt
     rw [HLen.out]
    clear hF HCL h1 h2
    go_enter Tryz.func107, Tryz.ntmps107
    go_wp2_with fail
    rw [HW0.out]
    refine (rright_any f g2 b W0).mono ?_
    rintro e W1 ⟨rfl, hb⟩
    rw [HPR.out]
    have HP0 := hide (HX0.out.later hb)
    have HY0 := hide (HX1.out.later hb)
    have HZ0 := hide (HX2.out.later hb)
    have HB1 := hide (HB0.out.trans (hb.mono HB0.out.size))
    clear hb p0 p1 p2 lp a0 a1 a2 la
    obtain ⟨p0, p1, p2, lp⟩ := cells3 HP0.out
    go_wp2; clear p0 p1 p2 lp
    go_loopw [8, 9] (fun v i wr => ∃ (k : Nat), k ≤ R ∧ i = .int .i64 k ∧ RwsC w.heap.size w wr v (gtab k F) ∧ Whole wr w.heap.size 32 [.slice A R cap, .int .i64 g.row, .int .i64 g.col] ∧ Whole wr (w.heap.size + 1) 38 [.int .u8 f, .int .u8 g2, .int .u8 b] ∧ Whole wr (w.heap.size + 2) 32 [.slice none 0 0, .int .i64 0, .int .i64 0]) (fun _ i _ => R - (intOf i).toNat)
    case atStart => exact ⟨0, Nat.zero_le _, rfl, RwsC.from0 HB1.out.size HB1.out, HP0.out, HY0.out, HZ0.out⟩
    case round =>
     obtain ⟨k, hk, rfl, hv, hp, hy, hz⟩ := hrel
     have HV := hide hv; have HP := hide hp; have HY := hide hy; have HZ := hide hz
     obtain ⟨Av, cv, rfl, -⟩ := hv.form
     rw [gtab_len] at HV ⊢
     clear hv hp hy hz
     by_cases hlt : k < R
     ·have HFb : Hid (F k = tab C (fun _ => blankC ⟨f, g2, b⟩)) := by unfold Hid; rw [HF.out, if_neg (by omega)]
      have h0 : ¬ 0 ≤ (k : Int) + -(R : Int) := by omega
      obtain ⟨p0, p1, p2, lp⟩ := cells3 HP.out
      go_wp2; clear p0 p1 p2 lp
      refine rgL (fun w' => Below wr.heap.size wr w') 9 [(0, 0), (0, 1), (0, 4), (0, 6), (1, 2), (1, 3), (1, 5), (1, 7), (1, 8), (3, 9), (3, 10)] bd1 ?_
      refine stL (h := ?_)
      refine stL (hy := fun w hS => by obtain ⟨e0, e1, e2, -⟩ := cells3 (HP.out.later hS); go_simp <;> with_reducible rfl) (h := ?_)
      refine stL (hy := fun w hS => by obtain ⟨e0, e1, e2, -⟩ := cells3 (HP.out.later hS); go_simp <;> with_reducible rfl) (h := ?_)
      refine stL (hy := fun w hS => by obtain ⟨e0, e1, e2, -⟩ := cells3 (HY.out.later hS); go_simp <;> with_reducible rfl) (h := ?_)
      refine alL fun K hK => ?_
      go_wp2_with fail
      refine (rgcols_any A R cap C g.row g.col g.ls _ ((HL.out.below HV.out.bel).drewN 1) HLen.out hR1 HC0.out).mono ?_
      rintro e k1 ⟨rfl, hb⟩
      have Bk1 : Below wr.heap.size wr k1 := ((Below.refl wr.heap.size wr).drewN 1).trans hb
      clear hb; go_wp2
      refine hK.out _ _ (Bk1) ?_
      clear hK K
      refine alL fun K hK => ?_
      go_wp2_with fail
      refine (rnew_any (C : Int) k1).mono ?_
      rintro e k2 ⟨v2, rfl, hx⟩
      obtain ⟨A2, c2, rfl, hc2, -⟩ := hx.form
      have Bk2 : Below wr.heap.size wr k2 := Bk1.trans (hx.bel.mono Bk1.size)
      have HC2 := hide hc2
      rw [newC_len C hC2]
      clear hx hc2; go_wp2
      refine hK.out _ _ (Bk2) ?_
      clear hK K
      refine alL fun K hK => ?_
      go_wp2_with fail
      refine (rgcols_any A R cap C g.row g.col g.ls _ ((HL.out.below HV.out.bel).below Bk2) HLen.out hR1 HC0.out).mono ?_
      rintro e k3 ⟨rfl, hb⟩
      have Bk3 : Below wr.heap.size wr k3 := Bk2.trans (hb.mono Bk2.size)
      have HC3 := hide (HC2.out.below hb)
      clear hb; go_wp2
      refine hK.out _ _ (Bk3) ?_
      clear hK K
      refine alL fun K hK => ?_
      go_wp2_with fail
      refine (rerase_any A2 C c2 0 (C : Int) f g2 b (newC (C : Int)) k3 HC3.out (newC_len C hC2) (by omega)).mono ?_
      rintro e k4 ⟨x, rfl, hx⟩
      rw [erase_all _ C (newC_len C hC2)] at hx
      have HX := hide hx.rowOk
      have Bk4 : Below wr.heap.size wr k4 := Bk3.trans (hx.bel.mono Bk3.size)
      obtain ⟨Ax, cx, rfl, -⟩ := hx.rowOk
      have HV1 := hide (HV.out.later Bk4)
      have HP1 := hide (HP.out.later Bk4)
      have HY1 := hide (HY.out.later Bk4)
      have HZ1 := hide (HZ.out.later Bk4)
      clear hx; go_wp2
      refine hK.out _ _ (Bk4) ?_
      clear hK K
      refine alL fun K hK => ?_
      go_wp2
      refine hK.out _ _ (Bk4.alloc Bk4.size _) ?_
      clear hK K
      refine laL fun K hK => ?_
      go_wp2_with (at_builtin; refine stopw ?_)
      unfold Hid
      refine wpList_pushL rfl _ _ rfl rfl rfl HV1.out HX.out (by rw [gtab_len]; omega) ?_
      intro v9 w9 hown hoth
      have HV2 : Hid (RwsC w.heap.size w w9 v9 (gtab (k + 1) F)) := by unfold Hid; rw [gtab_snoc, HFb.out]; exact hown
      have HP2 := hide (hoth _ _ _ (by decide) HP1.out)
      have HY2 := hide (hoth _ _ _ (by decide) HY1.out)
      have HZ2 := hide (hoth _ _ _ (by decide) HZ1.out)
      clear hown hoth; go_wp2
      refine hK.out _ _ ?_
      clear hK K
      refine laL fun K hK => ?_
      go_wp2
      refine hK.out _ _ ?_
      clear hK K
      refine chainL_nil ?_
      clear Bk1 Bk2 Bk3 Bk4; go_wp2
      go_roundw
      case rel => exact ⟨k + 1, by omega, by go_num, HV2.out, HP2.out, HY2.out, HZ2.out⟩
      case measure => simp [intOf]; omega
     ·obtain rfl : k = R := by omega
      obtain ⟨p0, p1, p2, lp⟩ := cells3 HP.out
      obtain ⟨z0, z1, z2, lz⟩ := cells3 HZ.out
      have hzf := HZ.out.frozen
      obtain ⟨A3, c3, e3, -, -, -, hL⟩ := HV.out.form
      rw [gtab_len] at e3
      cases e3
      have HL3 := hide hL; clear hL; go_wp2
      refine retG Tryz.results107 rfl rfl (put3 HZ.out _ _ _) ⟨Av, cv, ?_, ?_, below_put3 HV.out.bel (by omega) _ _ _⟩
      ·rw [HGE.out]
      ·rw [HGE.out]
       exact HL3.out.put3 HZ.out (by decide) (by decide) _ _ _
   ·have hn1 : ¬ (R : Int) < n := h1
    have hn2 : ¬ n < -(R : Int) := h2
    have HCL : Hid (clampI n R = n) := by unfold Hid clampI; omega
    obtain ⟨F, hF⟩ := exq (scrollAt g.ls C (clampI n R) ⟨f, g2, b⟩)
    have HGE : Hid (scrollG g C n ⟨f, g2, b⟩ = { g with ls := gtab R F }) := by unfold Hid scrollG; rw [if_pos HPR.out, HLen.out, hF]
    have HF : Hid (∀ i, F i = if 0 ≤ (i : Int) + n ∧ (i : Int) + n < (R : Int) then lAt g.ls ((i : Int) + n).toNat else tab C (fun _ => blankC ⟨f, g2, b⟩)) := by
     unfold Hid; intro i
     rw [← hF, HCL.out]
     unfold scrollAt
     rw [HLen.out]
    clear hF HCL h1 h2
    go_enter Tryz.func107, Tryz.ntmps107
    go_wp2_with fail
    rw [HW0.out]
    refine (rright_any f g2 b W0).mono ?_
    rintro e W1 ⟨rfl, hb⟩
    rw [HPR.out]
    have HP0 := hide (HX0.out.later hb)
    have HY0 := hide (HX1.out.later hb)
    have HZ0 := hide (HX2.out.later hb)
    have HB1 := hide (HB0.out.trans (hb.mono HB0.out.size))
    clear hb p0 p1 p2 lp a0 a1 a2 la
    obtain ⟨p0, p1, p2, lp⟩ := cells3 HP0.out
    go_wp2; clear p0 p1 p2 lp
    go_loopw [8, 9] (fun v i wr => ∃ (k : Nat), k ≤ R ∧ i = .int .i64 k ∧ RwsC w.heap.size w wr v (gtab k F) ∧ Whole wr w.heap.size 32 [.slice A R cap, .int .i64 g.row, .int .i64 g.col] ∧ Whole wr (w.heap.size + 1) 38 [.int .u8 f, .int .u8 g2, .int .u8 b] ∧ Whole wr (w.heap.size + 2) 32 [.slice none 0 0, .int .i64 0, .int .i64 0]) (fun _ i _ => R - (intOf i).toNat)
    case atStart => exact ⟨0, Nat.zero_le _, rfl, RwsC.from0 HB1.out.size HB1.out, HP0.out, HY0.out, HZ0.out⟩
    case round =>
     obtain ⟨k, hk, rfl, hv, hp, hy, hz⟩ := hrel
     have HV := hide hv; have HP := hide hp; have HY := hide hy; have HZ := hide hz
     obtain ⟨Av, cv, rfl, -⟩ := hv.form
     rw [gtab_len] at HV ⊢
     clear hv hp hy hz
     by_cases hlt : k < R
     ·by_cases h0 : 0 ≤ (k : Int) + n
      ·by_cases h3 : (k : Int) + n < (R : Int)
       ·obtain ⟨j, hj⟩ : ∃ j : Nat, (k : Int) + n = (j : Int) := ⟨((k : Int) + n).toNat, by omega⟩
        have hjR : j < R := by omega
        have HFb : Hid (F k = lAt g.ls j) := by unfold Hid; rw [HF.out, if_pos ⟨h0, h3⟩, hj, Int.toNat_natCast]
        obtain ⟨b0, A', c', rfl, lb', hc, hrow, -, -⟩ := (HL.out.below HV.out.bel).at (i := j) (by rw [HLen.out]; exact hjR)
        have HX := hide hrow
        obtain ⟨p0, p1, p2, lp⟩ := cells3 HP.out
        clear hrow h0 h3
        go_wp2_with (at_builtin; refine stopw ?_)
        unfold Hid
        refine wpList_pushL rfl _ _ rfl rfl rfl HV.out HX.out (by rw [gtab_len]; omega) ?_
        intro v9 w9 hown hoth
        have HV2 : Hid (RwsC w.heap.size w w9 v9 (gtab (k + 1) F)) := by unfold Hid; rw [gtab_snoc, HFb.out]; exact hown
        have HP2 := hide (hoth _ _ _ (by decide) HP.out)
        have HY2 := hide (hoth _ _ _ (by decide) HY.out)
        have HZ2 := hide (hoth _ _ _ (by decide) HZ.out)
        clear hown hoth p0 p1 p2 lp hc lb'; go_wp2
        go_roundw
        case rel => exact ⟨k + 1, by omega, by go_num, HV2.out, HP2.out, HY2.out, HZ2.out⟩
        case measure => simp [intOf]; omega
       ·have HFb : Hid (F k = tab C (fun _ => blankC ⟨f, g2, b⟩)) := by unfold Hid; rw [HF.out, if_neg (fun q => h3 q.2)]
        obtain ⟨p0, p1, p2, lp⟩ := cells3 HP.out
        go_wp2; clear p0 p1 p2 lp
        refine rgL (fun w' => Below wr.heap.size wr w') 9 [(0, 0), (0, 1), (0, 4), (0, 6), (1, 2), (1, 3), (1, 5), (1, 7), (1, 8), (3, 9), (3, 10)] bd1 ?_
        refine stL (h := ?_)
        refine stL (hy := fun w hS => by obtain ⟨e0, e1, e2, -⟩ := cells3 (HP.out.later hS); go_simp <;> with_reducible rfl) (h := ?_)
        refine stL (hy := fun w hS => by obtain ⟨e0, e1, e2, -⟩ := cells3 (HP.out.later hS); go_simp <;> with_reducible rfl) (h := ?_)
        refine stL (hy := fun w hS => by obtain ⟨e0, e1, e2, -⟩ := cells3 (HY.out.later hS); go_simp <;> with_reducible rfl) (h := ?_)
        refine alL fun K hK => ?_
        go_wp2_with fail
        refine (rgcols_any A R cap C g.row g.col g.ls _ ((HL.out.below HV.out.bel).drewN 1) HLen.out hR1 HC0.out).mono ?_
        rintro e k1 ⟨rfl, hb⟩
        have Bk1 : Below wr.heap.size wr k1 := ((Below.refl wr.heap.size wr).drewN 1).trans hb
        clear hb; go_wp2
        refine hK.out _ _ (Bk1) ?_
        clear hK K
        refine alL fun K hK => ?_
        go_wp2_with fail
        refine (rnew_any (C : Int) k1).mono ?_
        rintro e k2 ⟨v2, rfl, hx⟩
        obtain ⟨A2, c2, rfl, hc2, -⟩ := hx.form
        have Bk2 : Below wr.heap.size wr k2 := Bk1.trans (hx.bel.mono Bk1.size)
        have HC2 := hide hc2
        rw [newC_len C hC2]
        clear hx hc2; go_wp2
        refine hK.out _ _ (Bk2) ?_
        clear hK K
        refine alL fun K hK => ?_
        go_wp2_with fail
        refine (rgcols_any A R cap C g.row g.col g.ls _ ((HL.out.below HV.out.bel).below Bk2) HLen.out hR1 HC0.out).mono ?_
        rintro e k3 ⟨rfl, hb⟩
        have Bk3 : Below wr.heap.size wr k3 := Bk2.trans (hb.mono Bk2.size)
        have HC3 := hide (HC2.out.below hb)
        clear hb; go_wp2
        refine hK.out _ _ (Bk3) ?_
        clear hK K
        refine alL fun K hK => ?_
        go_wp2_with fail
        refine (rerase_any A2 C c2 0 (C : Int) f g2 b (newC (C : Int)) k3 HC3.out (newC_len C hC2) (by omega)).mono ?_
        rintro e k4 ⟨x, rfl, hx⟩
        rw [erase_all _ C (newC_len C hC2)] at hx
        have HX := hide hx.rowOk
        have Bk4 : Below wr.heap.size wr k4 := Bk3.trans (hx.bel.mono Bk3.size)
        obtain ⟨Ax, cx, rfl, -⟩ := hx.rowOk
        have HV1 := hide (HV.out.later Bk4)
        have HP1 := hide (HP.out.later Bk4)
        have HY1 := hide (HY.out.later Bk4)
        have HZ1 := hide (HZ.out.later Bk4)
        clear hx; go_wp2
        refine hK.out _ _ (Bk4) ?_
        clear hK K
        refine alL fun K hK => ?_
        go_wp2
        refine hK.out _ _ (Bk4.alloc Bk4.size _) ?_
        clear hK K
        refine laL fun K hK => ?_
        go_wp2_with (at_builtin; refine stopw ?_)
        unfold Hid
        refine wpList_pushL rfl _ _ rfl rfl rfl HV1.out HX.out (by rw [gtab_len]; omega) ?_
        intro v9 w9 hown hoth
        have HV2 : Hid (RwsC w.heap.size w w9 v9 (gtab (k + 1) F)) := by unfold Hid; rw [gtab_snoc, HFb.out]; exact hown
        have HP2 := hide (hoth _ _ _ (by decide) HP1.out)
        have HY2 := hide (hoth _ _ _ (by decide) HY1.out)
        have HZ2 := hide (hoth _ _ _ (by decide) HZ1.out)
        clear hown hoth; go_wp2
        refine hK.out _ _ ?_
        clear hK K
        refine laL fun K hK => ?_
        go_wp2
        refine hK.out _ _ ?_
        clear hK K
        refine chainL_nil ?_
        clear Bk1 Bk2 Bk3 Bk4; go_wp2
        go_roundw
        case rel => exact ⟨k + 1, by omega, by go_num, HV2.out, HP2.out, HY2.out, HZ2.out⟩
        case measure => simp [intOf]; omega
      ·have HFb : Hid (F k = tab C (fun _ => blankC ⟨f, g2, b⟩)) := by unfold Hid; rw [HF.out, if_neg (fun q => h0 q.1)]
       obtain ⟨p0, p1, p2, lp⟩ := cells3 HP.out
       go_wp2; clear p0 p1 p2 lp
       refine rgL (fun w' => Below wr.heap.size wr w') 9 [(0, 0), (0, 1), (0, 4), (0, 6), (1, 2), (1, 3), (1, 5), (1, 7), (1, 8), (3, 9), (3, 10)] bd1 ?_
       refine stL (h := ?_)
       refine stL (hy := fun w hS => by obtain ⟨e0, e1, e2, -⟩ := cells3 (HP.out.later hS); go_simp <;> with_reducible rfl) (h := ?_)
       refine stL (hy := fun w hS => by obtain ⟨e0, e1, e2, -⟩ := cells3 (HP.out.later hS); go_simp <;> with_reducible rfl) (h := ?_)
       refine stL (hy := fun w hS => by obtain ⟨e0, e1, e2, -⟩ := cells3 (HY.out.later hS); go_simp <;> with_reducible rfl) (h := ?_)
       refine alL fun K hK => ?_
       go_wp2_with fail
       refine (rgcols_any A R cap C g.row g.col g.ls _ ((HL.out.below HV.out.bel).drewN 1) HLen.out hR1 HC0.out).mono ?_
       rintro e k1 ⟨rfl, hb⟩
       have Bk1 : Below wr.heap.size wr k1 := ((Below.refl wr.heap.size wr).drewN 1).trans hb
       clear hb; go_wp2
       refine hK.out _ _ (Bk1) ?_
       clear hK K
       refine alL fun K hK => ?_
       go_wp2_with fail
       refine (rnew_any (C : Int) k1).mono ?_
       rintro e k2 ⟨v2, rfl, hx⟩
       obtain ⟨A2, c2, rfl, hc2, -⟩ := hx.form
       have Bk2 : Below wr.heap.size wr k2 := Bk1.trans (hx.bel.mono Bk1.size)
       have HC2 := hide hc2
       rw [newC_len C hC2]
       clear hx hc2; go_wp2
       refine hK.out _ _ (Bk2) ?_
       clear hK K
       refine alL fun K hK => ?_
       go_wp2_with fail
       refine (rgcols_any A R cap C g.row g.col g.ls _ ((HL.out.below HV.out.bel).below Bk2) HLen.out hR1 HC0.out).mono ?_
       rintro e k3 ⟨rfl, hb⟩
       have Bk3 : Below wr.heap.size wr k3 := Bk2.trans (hb.mono Bk2.size)
       have HC3 := hide (HC2.out.below hb)
       clear hb; go_wp2
       refine hK.out _ _ (Bk3) ?_
       clear hK K
       refine alL fun K hK => ?_
       go_wp2_with fail
       refine (rerase_any A2 C c2 0 (C : Int) f g2 b (newC (C : Int)) k3 HC3.out (newC_len C hC2) (by omega)).mono ?_
       rintro e k4 ⟨x, rfl, hx⟩
       rw [erase_all _ C (newC_len C hC2)] at hx
       have HX := hide hx.rowOk
       have Bk4 : Below wr.heap.size wr k4 := Bk3.trans (hx.bel.mono Bk3.size)
       obtain ⟨Ax, cx, rfl, -⟩ := hx.rowOk
       have HV1 := hide (HV.out.later Bk4)
       have HP1 := hide (HP.out.later Bk4)
       have HY1 := hide (HY.out.later Bk4)
       have HZ1 := hide (HZ.out.later Bk4)
       clear hx; go_wp2
       refine hK.out _ _ (Bk4) ?_
       clear hK K
       refine alL fun K hK => ?_
       go_wp2
       refine hK.out _ _ (Bk4.alloc Bk4.size _) ?_
       clear hK K
       refine laL fun K hK => ?_
       go_wp2_with (at_builtin; refine stopw ?_)
       unfold Hid
       refine wpList_pushL rfl _ _ rfl rfl rfl HV1.out HX.out (by rw [gtab_len]; omega) ?_
       intro v9 w9 hown hoth
       have HV2 : Hid (RwsC w.heap.size w w9 v9 (gtab (k + 1) F)) := by unfold Hid; rw [gtab_snoc, HFb.out]; exact hown
       have HP2 := hide (hoth _ _ _ (by decide) HP1.out)
       have HY2 := hide (hoth _ _ _ (by decide) HY1.out)
       have HZ2 := hide (hoth _ _ _ (by decide) HZ1.out)
       clear hown hoth; go_wp2
       refine hK.out _ _ ?_
       clear hK K
       refine laL fun K hK => ?_
       go_wp2
       refine hK.out _ _ ?_
       clear hK K
       refine chainL_nil ?_
       clear Bk1 Bk2 Bk3 Bk4; go_wp2
       go_roundw
       case rel => exact ⟨k + 1, by omega, by go_num, HV2.out, HP2.out, HY2.out, HZ2.out⟩
       case measure => simp [intOf]; omega
     ·obtain rfl : k = R := by omega
      obtain ⟨p0, p1, p2, lp⟩ := cells3 HP.out
      obtain ⟨z0, z1, z2, lz⟩ := cells3 HZ.out
      have hzf := HZ.out.frozen
      obtain ⟨A3, c3, e3, -, -, -, hL⟩ := HV.out.form
      rw [gtab_len] at e3
      cases e3
      have HL3 := hide hL; clear hL; go_wp2
      refine retG Tryz.results107 rfl rfl (put3 HZ.out _ _ _) ⟨Av, cv, ?_, ?_, below_put3 HV.out.bel (by omega) _ _ _⟩
      ·rw [HGE.out]
      ·rw [HGE.out]
       exact HL3.out.put3 HZ.out (by decide) (by decide) _ _ _
 ·have HGE : Hid (scrollG g C n ⟨f, g2, b⟩ = g) := by unfold Hid scrollG; rw [if_neg hp]
  have HPR : Hid (rightN ⟨f, g2, b⟩ = false) := by unfold Hid; simpa using hp
  clear hp
  go_enter Tryz.func107, Tryz.ntmps107
  go_wp2_with fail
  rw [HW0.out]
  refine (rright_any f g2 b W0).mono ?_
  rintro e W1 ⟨rfl, hb⟩
  rw [HPR.out]
  have HB1 := hide (HB0.out.trans (hb.mono HB0.out.size))
  have HP := hide (HX0.out.later hb)
  have HZ := hide (HX2.out.later hb)
  clear hb p0 p1 p2 lp a0 a1 a2 la
  obtain ⟨p0, p1, p2, lp⟩ := cells3 HP.out
  obtain ⟨z0, z1, z2, lz⟩ := cells3 HZ.out
  have hzf := HZ.out.frozen
  go_wp2
  refine retG Tryz.results107 rfl rfl (put3 HZ.out _ _ _) ⟨A, cap, ?_, ?_, below_put3 HB1.out (by omega) _ _ _⟩
  ·rw [HGE.out]
  ·rw [HGE.out]
   exact (HL.out.below HB1.out).put3 HZ.out (by decide) (by decide) _ _ _
theorem rgerase_any (A : Option Addr) (R C cap : Nat) (g : Gd) (w : World) (h : Lns w A g.ls) (hok : GOk g R C) (R0 x y : Int) (f g2 b : Nat) :
  Calls Tryz.prog 109 #[.agg #[.slice A R cap, .int .i64 g.row, .int .i64 g.col], .int .i64 R0, .int .i64 x, .int .i64 y, .agg #[.int .u8 f, .int .u8 g2, .int .u8 b]] w (GaveD R (eraseG g R0 x y ⟨f, g2, b⟩) w) := by
 obtain ⟨W0, hW0⟩ := exq (((w.alloc (.cells #[.slice A R cap, .int .i64 g.row, .int .i64 g.col] 32)).alloc (.cells #[.int .u8 f, .int .u8 g2, .int .u8 b] 38)).alloc (.cells #[.slice none 0 0, .int .i64 0, .int .i64 0] 32))
 have HB0 : Hid (Below w.heap.size w W0) := by unfold Hid; rw [← hW0]; exact three_new w _ _ _
 have HX0 : Hid (Whole W0 (w.heap.size) 32 [.slice A R cap, .int .i64 g.row, .int .i64 g.col]) := by unfold Hid; rw [← hW0]; exact (((Whole.new _ _ _).alloc _).alloc _)
 have HX1 : Hid (Whole W0 (w.heap.size + 1) 38 [.int .u8 f, .int .u8 g2, .int .u8 b]) := by unfold Hid; rw [← hW0]; exact ((whole_snd _ _ _ _).alloc _)
 have HX2 : Hid (Whole W0 (w.heap.size + 2) 32 [.slice none 0 0, .int .i64 0, .int .i64 0]) := by unfold Hid; rw [← hW0]; exact (whole_thd w _ _ 32 [.slice none 0 0, .int .i64 0, .int .i64 0])
 have HW0 := hide hW0; clear hW0
 have HL := hide (h.below HB0.out)
 have HGO := hide hok
 have hR1 := hok.r1
 have hR2 := hok.r2
 have hC0 := hok.c1
 have hC2 := hok.c2
 have hC1 : C ≤ 1000000 := by omega
 have HLen := hide hok.len
 obtain ⟨p0, p1, p2, lp⟩ := cells3 HX0.out
 obtain ⟨a0, a1, a2, la⟩ := cells3 HX1.out
 clear h hok
 by_cases hr : hasG R R0
 ·obtain ⟨q, hq⟩ : ∃ q : Nat, R0 = (q : Int) := ⟨R0.toNat, by unfold hasG at hr; omega⟩
  subst hq
  have hqR : q < R := by unfold hasG at hr; omega
  have HR := hide hr; clear hr
  by_cases hp : rightN ⟨f, g2, b⟩ = true
  ·have HGE : Hid (eraseG g (q : Int) x y ⟨f, g2, b⟩ = { g with ls := g.ls.set q (eraseC (lAt g.ls q) x y ⟨f, g2, b⟩) }) := by unfold Hid eraseG; rw [if_pos ⟨by rw [HLen.out]; exact HR.out, hp⟩, Int.toNat_natCast]
   obtain ⟨X, hX⟩ := exq (eraseC (lAt g.ls q) x y ⟨f, g2, b⟩)
   rw [hX] at HGE
   have HNr := hide ((HGO.out.each q hqR).1)
   have HXL : Hid (X.length = C) := by unfold Hid; rw [← hX, erase_len, HNr.out]
   have HXX := hide hX; have HPR := hide hp; clear hX hp
   go_enter Tryz.func109, Tryz.ntmps109
   go_wp2_with fail
   rw [HW0.out]
   refine (rhas_any A R cap g.row g.col q W0).mono ?_
   rintro e W1 ⟨rfl, hb⟩
   rw [hasG_in hqR]
   have HL0 := hide (HL.out.below hb)
   have HP0 := hide (HX0.out.later hb)
   have HY0 := hide (HX1.out.later hb)
   have HZ0 := hide (HX2.out.later hb)
   have HB1 := hide (HB0.out.trans (hb.mono HB0.out.size))
   clear hb p0 p1 p2 lp a0 a1 a2 la
   obtain ⟨a0, a1, a2, la⟩ := cells3 HY0.out
   go_wp2_with fail
   refine (rright_any f g2 b W1).mono ?_
   rintro e W2 ⟨rfl, hb⟩
   rw [HPR.out]
   have HL1 := hide (HL0.out.below hb)
   have HP := hide (HP0.out.later hb)
   have HY := hide (HY0.out.later hb)
   have HZ := hide (HZ0.out.later hb)
   have HB2 := hide (HB1.out.trans (hb.mono HB1.out.size))
   clear hb a0 a1 a2 la
   obtain ⟨b0, A', c', rfl, lb, hcell, -, hcels, hA'⟩ := HL1.out.at (i := q) (by rw [HLen.out]; exact hqR)
   rw [HNr.out] at hcell
   have HCr := hide hcels; clear hcels
   obtain ⟨a0, a1, a2, la⟩ := cells3 HY.out
   go_wp2
   refine rgL (fun w' => Below W2.heap.size W2 w') 12 [(0, 1), (0, 4), (0, 7), (0, 8), (0, 2), (0, 0), (0, 3), (0, 5), (0, 6), (1, 9), (1, 10), (1, 11), (3, 12)] bd1 ?_
   iterate 5 refine stL (h := ?_)
   refine stL (hy := fun w hS => by obtain ⟨e0, e1, e2, -⟩ := cells3 (HP.out.later hS); go_simp <;> with_reducible rfl) (h := ?_)
   refine stL (hy := fun w hS => by obtain ⟨e0, e1, e2, -⟩ := cells3 (HP.out.later hS); go_simp <;> with_reducible rfl) (h := ?_)
   refine stL (h := ?_)
   refine stL (hy := fun w hS => by have f0 : w.cell? ⟨b0, q, none⟩ = some (.slice A' C c') := (hS.cell (p := ⟨b0, q, none⟩) lb).trans hcell; go_simp <;> with_reducible rfl) (h := ?_)
   refine alL fun K hK => ?_
   go_wp2
   refine hK.out _ _ bd1 ?_
   clear hK K
   refine alL fun K hK => ?_
   go_wp2_with fail
   refine (rerase_v x y f g2 b HXX.out HCr.out.drew HNr.out hC1).mono ?_
   rintro e k1 ⟨A1, c1, rfl, hc1, hb⟩
   have HC1 := hide hc1
   have Bk1 : Below W2.heap.size W2 k1 := ((Below.refl W2.heap.size W2).drewN 1).trans hb
   clear hb hc1; go_wp2
   refine hK.out _ _ (Bk1) ?_
   clear hK K
   refine alL fun K hK => ?_
   go_wp2_with fail
   refine (with7_any _ R cap g.row g.col g.ls k1 (HL1.out.below Bk1) HLen.out hR2 q hqR A1 C c1 X HC1.out HXL.out hC0 hC1).mono ?_
   rintro e k2 ⟨A2, cap2, rfl, hl, hb⟩
   have HL3 := hide hl
   have Bk2 : Below W2.heap.size W2 k2 := Bk1.trans (hb.mono Bk1.size)
   have HZ3 := hide (HZ.out.later Bk2)
   have HB3 := hide (HB2.out.trans (Bk2.mono HB2.out.size))
   clear hl hb
   obtain ⟨z0, z1, z2, lz⟩ := cells3 HZ3.out
   have hzf := HZ3.out.frozen
   go_wp2
   refine hK.out _ _ (Bk2) ?_
   clear hK K
   refine laL fun K hK => ?_
   go_wp2
   refine hK.out _ _ ?_
   clear hK K
   refine chainL_nil ?_
   clear Bk1 Bk2 a0 a1 a2 la; go_wp2
   refine retG Tryz.results109 rfl rfl (put3 HZ3.out _ _ _) ⟨A2, cap2, ?_, ?_, below_put3 HB3.out (by omega) _ _ _⟩
   ·rw [HGE.out]
   ·rw [HGE.out]
    exact HL3.out.put3 HZ3.out (by decide) (by decide) _ _ _
  ·have HGE : Hid (eraseG g (q : Int) x y ⟨f, g2, b⟩ = g) := by unfold Hid eraseG; rw [if_neg (fun q => hp q.2)]
   have HPR : Hid (rightN ⟨f, g2, b⟩ = false) := by unfold Hid; simpa using hp
   clear hp
   go_enter Tryz.func109, Tryz.ntmps109
   go_wp2_with fail
   rw [HW0.out]
   refine (rhas_any A R cap g.row g.col q W0).mono ?_
   rintro e W1 ⟨rfl, hb⟩
   rw [hasG_in hqR]
   have HL0 := hide (HL.out.below hb)
   have HP0 := hide (HX0.out.later hb)
   have HY0 := hide (HX1.out.later hb)
   have HZ0 := hide (HX2.out.later hb)
   have HB1 := hide (HB0.out.trans (hb.mono HB0.out.size))
   clear hb p0 p1 p2 lp a0 a1 a2 la
   obtain ⟨a0, a1, a2, la⟩ := cells3 HY0.out
   go_wp2_with fail
   refine (rright_any f g2 b W1).mono ?_
   rintro e W2 ⟨rfl, hb⟩
   rw [HPR.out]
   have HL1 := hide (HL0.out.below hb)
   have HP := hide (HP0.out.later hb)
   have HZ := hide (HZ0.out.later hb)
   have HB2 := hide (HB1.out.trans (hb.mono HB1.out.size))
   clear hb a0 a1 a2 la
   obtain ⟨p0, p1, p2, lp⟩ := cells3 HP.out
   obtain ⟨z0, z1, z2, lz⟩ := cells3 HZ.out
   have hzf := HZ.out.frozen
   go_wp2
   refine retG Tryz.results109 rfl rfl (put3 HZ.out _ _ _) ⟨A, cap, ?_, ?_, below_put3 HB2.out (by omega) _ _ _⟩
   ·rw [HGE.out]
   ·rw [HGE.out]
    exact HL1.out.put3 HZ.out (by decide) (by decide) _ _ _
 ·have HGE : Hid (eraseG g R0 x y ⟨f, g2, b⟩ = g) := by unfold Hid eraseG; rw [HLen.out, if_neg (fun q => hr q.1)]
  have HD : Hid (decide (hasG R R0) = false) := by unfold Hid; simp [hr]
  clear hr
  go_enter Tryz.func109, Tryz.ntmps109
  go_wp2_with fail
  rw [HW0.out]
  refine (rhas_any A R cap g.row g.col R0 W0).mono ?_
  rintro e W1 ⟨rfl, hb⟩
  rw [HD.out]
  have HL1 := hide (HL.out.below hb)
  have HP := hide (HX0.out.later hb)
  have HZ := hide (HX2.out.later hb)
  have HB1 := hide (HB0.out.trans (hb.mono HB0.out.size))
  clear hb p0 p1 p2 lp a0 a1 a2 la
  obtain ⟨p0, p1, p2, lp⟩ := cells3 HP.out
  obtain ⟨z0, z1, z2, lz⟩ := cells3 HZ.out
  have hzf := HZ.out.frozen
  go_wp2
  refine retG Tryz.results109 rfl rfl (put3 HZ.out _ _ _) ⟨A, cap, ?_, ?_, below_put3 HB1.out (by omega) _ _ _⟩
  ·rw [HGE.out]
  ·rw [HGE.out]
   exact HL1.out.put3 HZ.out (by decide) (by decide) _ _ _
theorem rgmove_any (A : Option Addr) (R C cap : Nat) (g : Gd) (w : World) (h : Lns w A g.ls) (hR : g.ls.length = R) (hR1 : 1 ≤ R) (hR2 : R ≤ 512) (hC0 : 1 ≤ C) (hC2 : C ≤ 512) (hc0 : (lAt g.ls 0).length = C) (r c : Int) :
  Calls Tryz.prog 77 #[.agg #[.slice A R cap, .int .i64 g.row, .int .i64 g.col], .int .i64 r, .int .i64 c] w (GaveD R (moveG g r c C) w) := by
 obtain ⟨W0, hW0⟩ := exq ((w.alloc (.cells #[.slice A R cap, .int .i64 g.row, .int .i64 g.col] 32)).alloc (.cells #[.slice none 0 0, .int .i64 0, .int .i64 0] 32))
 have HB0 : Hid (Below w.heap.size w W0) := by unfold Hid; rw [← hW0]; exact two_new _ _ _ _ _
 have HX0 : Hid (Whole W0 (w.heap.size) 32 [.slice A R cap, .int .i64 g.row, .int .i64 g.col]) := by unfold Hid; rw [← hW0]; exact ((Whole.new _ _ _).alloc _)
 have HX1 : Hid (Whole W0 (w.heap.size + 1) 32 [.slice none 0 0, .int .i64 0, .int .i64 0]) := by unfold Hid; rw [← hW0]; exact (whole_snd _ _ _ _)
 have HW0 := hide hW0; clear hW0
 have HL := hide (h.below HB0.out)
 have HLen := hide hR; have HC0 := hide hc0
 obtain ⟨p0, p1, p2, lp⟩ := cells3 HX0.out
 have e1 : ((R : Int) == 0) = false := by simp; omega
 obtain ⟨r', hr'⟩ := exq (nearN r R)
 obtain ⟨c', hc'⟩ := exq (nearN c C)
 have HRN := hide hr'; have HCN := hide hc'
 have HE : Hid (moveG g r c C = { g with row := r', col := c' }) := by unfold Hid moveG; rw [hR, hr', hc']
 clear hr' hc' h hR hc0
 go_enter Tryz.func77, Tryz.ntmps77
 go_wp2; rw [HW0.out]
 refine rgL (fun w' => Below W0.heap.size W0 w') 10 [(0, 0), (0, 5), (0, 1), (0, 2), (0, 3), (0, 6), (1, 4), (2, 9), (1, 7), (1, 8), (3, 10), (3, 11), (3, 12)] bd1 ?_
 iterate 3 refine stL (h := ?_)
 refine stL (hy := fun w hS => by obtain ⟨e0, e1, e2, -⟩ := cells3 (HX0.out.later hS); go_simp <;> with_reducible rfl) (h := ?_)
 refine stL (h := ?_)
 refine stL (hy := fun w hS => by obtain ⟨e0, e1, e2, -⟩ := cells3 (HX0.out.later hS); go_simp <;> with_reducible rfl) (h := ?_)
 refine alL fun K hK => ?_
 go_wp2_with fail
 refine (bring_any r R hR1 hR2 _).mono ?_
 rintro e k1 ⟨rfl, rfl⟩
 rw [HRN.out]
 go_wp2
 refine hK.out _ _ bd1 ?_
 clear hK K
 refine puL (h := ?_)
 refine alL fun K hK => ?_
 go_wp2_with fail
 refine (rgcols_any A R cap C g.row g.col g.ls _ (HL.out.drewN 1) HLen.out hR1 HC0.out).mono ?_
 rintro e k1 ⟨rfl, hb⟩
 have Bk1 : Below W0.heap.size W0 k1 := ((Below.refl W0.heap.size W0).drewN 1).trans hb
 clear hb; go_wp2
 refine hK.out _ _ (Bk1) ?_
 clear hK K
 refine alL fun K hK => ?_
 go_wp2_with fail
 refine (bring_any c C hC0 hC2 _).mono ?_
 rintro e k2 ⟨rfl, rfl⟩
 rw [HCN.out]
 clear p0 p1 p2 lp
 have HP1 := hide (HX0.out.later Bk1)
 obtain ⟨p0, p1, p2, lp⟩ := cells3 HP1.out
 have hpf := HP1.out.frozen
 go_wp2
 refine hK.out _ _ (Bk1) ?_
 clear hK K
 refine laL fun K hK => ?_
 go_wp2
 refine hK.out _ _ ?_
 clear hK K
 refine laL fun K hK => ?_
 go_wp2
 refine hK.out _ _ ?_
 clear hK K
 refine laL fun K hK => ?_
 go_wp2
 refine hK.out _ _ ?_
 clear hK K
 refine chainL_nil ?_
 have HP2 : Hid (Whole ((k1.setCell ⟨w.heap.size, 1, none⟩ (.int .i64 r')).setCell ⟨w.heap.size, 2, none⟩ (.int .i64 c')) w.heap.size 32 [.slice A R cap, .int .i64 r', .int .i64 c']) := by unfold Hid; exact (HP1.out.put 1 _).put 2 _
 obtain ⟨W3, hW3⟩ := exq ((k1.setCell ⟨w.heap.size, 1, none⟩ (.int .i64 r')).setCell ⟨w.heap.size, 2, none⟩ (.int .i64 c'))
 have HO3 : Hid (Only w.heap.size k1 W3) := by unfold Hid; rw [← hW3]; exact (Only.put _ _).trans (Only.put _ _)
 have HL3 : Hid (Lns W3 A g.ls) := by
  unfold Hid
  rw [← hW3]
  exact (HL.out.below Bk1).keep ((Stays.put HP1.out (by decide)).trans (Stays.put (HP1.out.put 1 _) (by decide))) ((Stays.put HP1.out (by decide)).trans (Stays.put (HP1.out.put 1 _) (by decide)))
 rw [hW3] at HP2 ⊢
 have HZ3 := hide ((HX1.out.later Bk1).far HO3.out (by omega))
 have HB3 := hide (HO3.out.below (HB0.out.trans (Bk1.mono HB0.out.size)) (Nat.le_trans HB0.out.size Bk1.size) (Nat.le_refl _))
 clear hW3 p0 p1 p2 lp hpf Bk1
 obtain ⟨p0, p1, p2, lp⟩ := cells3 HP2.out
 obtain ⟨z0, z1, z2, lz⟩ := cells3 HZ3.out
 have hzf := HZ3.out.frozen
 go_wp2
 refine retG Tryz.results77 rfl rfl (put3 HZ3.out _ _ _) ⟨A, cap, ?_, ?_, below_put3 HB3.out (by omega) _ _ _⟩
 ·rw [HE.out]
 ·rw [HE.out]
  exact HL3.out.put3 HZ3.out (by decide) (by decide) _ _ _
end
end Go.Proofs.YtkijclgbpbhglaaGreatDoor
