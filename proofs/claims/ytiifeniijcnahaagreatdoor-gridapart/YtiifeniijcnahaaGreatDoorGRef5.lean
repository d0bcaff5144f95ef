/-
  Contract: the document's grid whose rows moved.
-/
import Derived.Test.YtiifeniijcnahaaGreatDoorGRef2
namespace Go.Proofs.YtiifeniijcnahaaGreatDoor
set_option maxRecDepth 100000
open Go.ChangeShapes Go.WideShapes Go.ChangeAt Go.RowKit
set_option linter.unusedVariables false

set_option maxHeartbeats 8000000 in
theorem rgscroll_any (A : Option Addr) (R C cap : Nat) (g : Gd) (w : World) (h : Lns w A g.ls) (hok : GOk g R C) (n : Int) (f g2 b : Nat) :
    Calls Tryz.prog 47 #[.agg #[.slice A R cap, .int .i64 (g.row : Int), .int .i64 (g.col : Int)], .int .i64 n, .agg #[.int .u8 (f : Int), .int .u8 (g2 : Int), .int .u8 (b : Int)]] w (GaveD R (scrollG g C n ⟨f, g2, b⟩) w) := by
  obtain ⟨W0, hW0⟩ : ∃ W0, ((w.alloc (.cells #[.slice A R cap, .int .i64 (g.row : Int), .int .i64 (g.col : Int)] 32)).alloc (.cells #[.int .u8 (f : Int), .int .u8 (g2 : Int), .int .u8 (b : Int)] 50)).alloc (.cells #[.slice none 0 0, .int .i64 0, .int .i64 0] 32) = W0 := ⟨_, rfl⟩
  have HB0 : Hid (Below w.heap.size w W0) := by unfold Hid; rw [← hW0]; exact three_new w _ _ _
  have HX0 : Hid (Whole W0 (w.heap.size) 32 [.slice A R cap, .int .i64 (g.row : Int), .int .i64 (g.col : Int)]) := by unfold Hid; rw [← hW0]; exact (((Whole.new w 32 [.slice A R cap, .int .i64 (g.row : Int), .int .i64 (g.col : Int)]).alloc _).alloc _)
  have HX1 : Hid (Whole W0 (w.heap.size + 1) 50 [.int .u8 (f : Int), .int .u8 (g2 : Int), .int .u8 (b : Int)]) := by unfold Hid; rw [← hW0]; exact ((whole_snd w _ 50 [.int .u8 (f : Int), .int .u8 (g2 : Int), .int .u8 (b : Int)]).alloc _)
  have HX2 : Hid (Whole W0 (w.heap.size + 2) 32 [.slice none 0 0, .int .i64 0, .int .i64 0]) := by unfold Hid; rw [← hW0]; exact (whole_thd w _ _ 32 [.slice none 0 0, .int .i64 0, .int .i64 0])
  have HW0 := hide hW0
  clear hW0
  have HL := hide h
  have hR1 := hok.r1
  have hR2 := hok.r2
  have hC0 := hok.c1
  have hC2 := hok.c2
  have HLen := hide hok.len
  have HC0 := hide (hok.each 0 hok.r1).1
  obtain ⟨p0, p1, p2, lp⟩ := cells3 HX0.out
  obtain ⟨a0, a1, a2, la⟩ := cells3 HX1.out
  clear h hok
  by_cases hp : rightN ⟨f, g2, b⟩ = true
  · have HPR := hide hp
    clear hp
    by_cases h1 : (R : Int) < n
    · have hn1 : (R : Int) < n := h1
      have HCL : Hid (clampI n R = (R : Int)) := by unfold Hid clampI; omega
      obtain ⟨F, hF⟩ : ∃ F, scrollAt g.ls C (clampI n R) ⟨f, g2, b⟩ = F := ⟨_, rfl⟩
      have HGE : Hid (scrollG g C n ⟨f, g2, b⟩ = { g with ls := gtab R F }) := by unfold Hid scrollG; rw [if_pos HPR.out, HLen.out, hF]
      have HF : Hid (∀ i, F i = if 0 ≤ (i : Int) + (R : Int) ∧ (i : Int) + (R : Int) < (R : Int) then lAt g.ls ((i : Int) + (R : Int)).toNat else tab C (fun _ => blankC ⟨f, g2, b⟩)) := by
        unfold Hid
        intro i
        rw [← hF, HCL.out]
        unfold scrollAt
        rw [HLen.out]
      clear hF HCL h1
      go_enter Tryz.func47, Tryz.ntmps47
      go_wp2_with fail
      rw [HW0.out]
      refine (rright_any f g2 b W0).mono ?_
      rintro e W1 ⟨rfl, hb⟩
      rw [HPR.out]
      have HP0 := hide (HX0.out.later hb)
      have HY0 := hide (HX1.out.later hb)
      have HZ0 := hide (HX2.out.later hb)
      have HB1 := hide (HB0.out.trans (hb.mono HB0.out.size))
      clear hb p0 p1 p2 lp a0 a1 a2 la
      obtain ⟨p0, p1, p2, lp⟩ := cells3 HP0.out
      go_wp2
      clear p0 p1 p2 lp
      go_loopw [8, 9] (fun v i wr => ∃ (k : Nat), k ≤ R ∧ i = .int .i64 k ∧ RwsC w.heap.size w wr v (gtab k F) ∧ Whole wr w.heap.size 32 [.slice A R cap, .int .i64 (g.row : Int), .int .i64 (g.col : Int)] ∧ Whole wr (w.heap.size + 1) 50 [.int .u8 (f : Int), .int .u8 (g2 : Int), .int .u8 (b : Int)] ∧ Whole wr (w.heap.size + 2) 32 [.slice none 0 0, .int .i64 0, .int .i64 0]) (fun _ i _ => R - (intOf i).toNat)
      case atStart => exact ⟨0, Nat.zero_le _, rfl, RwsC.from0 HB1.out.size HB1.out, HP0.out, HY0.out, HZ0.out⟩
      case round =>
        obtain ⟨k, hk, rfl, hv, hp, hy, hz⟩ := hrel
        have HV := hide hv
        have HP := hide hp
        have HY := hide hy
        have HZ := hide hz
        obtain ⟨Av, cv, rfl, -⟩ := hv.form
        rw [gtab_len] at HV ⊢
        clear hv hp hy hz
        by_cases hlt : k < R
        · have HFb : Hid (F k = tab C (fun _ => blankC ⟨f, g2, b⟩)) := by unfold Hid; rw [HF.out, if_neg (by omega)]
          have h0 : 0 ≤ (k : Int) + (R : Int) := by omega
          have h3 : ¬ (k : Int) + (R : Int) < (R : Int) := by omega
          obtain ⟨p0, p1, p2, lp⟩ := cells3 HP.out
          go_wp2
          clear p0 p1 p2 lp
          refine wp_region_chainL (fun w' => Below wr.heap.size wr w') 9 [(0, 0), (0, 1), (0, 4), (0, 6), (1, 2), (1, 3), (1, 5), (1, 7), (1, 8), (3, 9), (3, 10)] (by kernel_rfl) (by kernel_rfl) (by kernel_rfl) (fun _ _ _ _ _ h => h) ?_ ?_
          · exact (Below.refl _ _).drewN 1
          refine chainL_take (v := ?_) (by simp only [List.getElem?_toArray, List.getElem?_cons_zero]; rfl) (by rfl) (fun w hS => ?_) ?_
          rotate_left
          · go_simp <;> with_reducible rfl
          simp only [Act.put, List.setIfInBounds_toArray, List.set_cons_zero, List.set_cons_succ]
          refine chainL_take (v := ?_) (by simp only [List.getElem?_toArray, List.getElem?_cons_zero, List.getElem?_cons_succ]; rfl) (by rfl) (fun w hS => ?_) ?_
          rotate_left
          · obtain ⟨e0, e1, e2, -⟩ := cells3 (HP.out.later hS); go_simp <;> with_reducible rfl
          simp only [Act.put, List.setIfInBounds_toArray, List.set_cons_zero, List.set_cons_succ]
          refine chainL_take (v := ?_) (by simp only [List.getElem?_toArray, List.getElem?_cons_zero, List.getElem?_cons_succ]; rfl) (by rfl) (fun w hS => ?_) ?_
          rotate_left
          · obtain ⟨e0, e1, e2, -⟩ := cells3 (HP.out.later hS); go_simp <;> with_reducible rfl
          simp only [Act.put, List.setIfInBounds_toArray, List.set_cons_zero, List.set_cons_succ]
          refine chainL_take (v := ?_) (by simp only [List.getElem?_toArray, List.getElem?_cons_zero, List.getElem?_cons_succ]; rfl) (by rfl) (fun w hS => ?_) ?_
          rotate_left
          · obtain ⟨e0, e1, e2, -⟩ := cells3 (HY.out.later hS); go_simp <;> with_reducible rfl
          simp only [Act.put, List.setIfInBounds_toArray, List.set_cons_zero, List.set_cons_succ]
          refine chainL_alone (by simp only [List.getElem?_toArray, List.getElem?_cons_zero, List.getElem?_cons_succ]; rfl) ?_
          intro K hK
          go_wp2_with fail
          refine (rgcols_any A R cap C g.row g.col g.ls _ ((HL.out.below HV.out.bel).drewN 1) HLen.out hR1 HC0.out).mono ?_
          rintro e k1 ⟨rfl, hb⟩
          have Bk1 : Below wr.heap.size wr k1 := ((Below.refl wr.heap.size wr).drewN 1).trans hb
          clear hb
          go_wp2
          refine hK.out _ _ (Bk1) ?_
          clear hK K
          refine chainL_alone (by simp only [List.getElem?_toArray, List.getElem?_cons_zero, List.getElem?_cons_succ]; rfl) ?_
          intro K hK
          go_wp2_with fail
          refine (rnew_any (C : Int) k1).mono ?_
          rintro e k2 ⟨v2, rfl, hx⟩
          obtain ⟨A2, c2, rfl, hc2, -⟩ := hx.form
          have Bk2 : Below wr.heap.size wr k2 := Bk1.trans (hx.bel.mono Bk1.size)
          have HC2 := hide hc2
          rw [newC_len C hC2]
          clear hx hc2
          go_wp2
          refine hK.out _ _ (Bk2) ?_
          clear hK K
          refine chainL_alone (by simp only [List.getElem?_toArray, List.getElem?_cons_zero, List.getElem?_cons_succ]; rfl) ?_
          intro K hK
          go_wp2_with fail
          refine (rgcols_any A R cap C g.row g.col g.ls _ ((HL.out.below HV.out.bel).below Bk2) HLen.out hR1 HC0.out).mono ?_
          rintro e k3 ⟨rfl, hb⟩
          have Bk3 : Below wr.heap.size wr k3 := Bk2.trans (hb.mono Bk2.size)
          have HC3 := hide (HC2.out.below hb)
          clear hb
          go_wp2
          refine hK.out _ _ (Bk3) ?_
          clear hK K
          refine chainL_alone (by simp only [List.getElem?_toArray, List.getElem?_cons_zero, List.getElem?_cons_succ]; rfl) ?_
          intro K hK
          go_wp2_with fail
          refine (rerase_any A2 C c2 0 (C : Int) f g2 b (newC (C : Int)) k3 HC3.out (newC_len C hC2) (by omega)).mono ?_
          rintro e k4 ⟨x, rfl, hx⟩
          rw [erase_all _ C (newC_len C hC2)] at hx
          have HX := hide hx.rowOk
          have Bk4 : Below wr.heap.size wr k4 := Bk3.trans (hx.bel.mono Bk3.size)
          obtain ⟨Ax, cx, rfl, -⟩ := hx.rowOk
          have HV1 := hide (HV.out.later Bk4)
          have HP1 := hide (HP.out.later Bk4)
          have HY1 := hide (HY.out.later Bk4)
          have HZ1 := hide (HZ.out.later Bk4)
          clear hx
          go_wp2
          refine hK.out _ _ (Bk4) ?_
          clear hK K
          refine chainL_alone (by simp only [List.getElem?_toArray, List.getElem?_cons_zero, List.getElem?_cons_succ]; rfl) ?_
          intro K hK
          go_wp2
          refine hK.out _ _ (Bk4.alloc Bk4.size _) ?_
          clear hK K
          refine chainL_late (by simp only [List.getElem?_toArray, List.getElem?_cons_zero, List.getElem?_cons_succ]; rfl) ?_
          intro K hK
          go_wp2_with (at_builtin; refine stopw ?_)
          unfold Hid
          refine wpList_pushL rfl _ _ rfl rfl rfl HV1.out HX.out (by rw [gtab_len]; omega) ?_
          intro v9 w9 hown hoth
          have HV2 : Hid (RwsC w.heap.size w w9 v9 (gtab (k + 1) F)) := by unfold Hid; rw [gtab_snoc, HFb.out]; exact hown
          have HP2 := hide (hoth _ _ _ (by decide) HP1.out)
          have HY2 := hide (hoth _ _ _ (by decide) HY1.out)
          have HZ2 := hide (hoth _ _ _ (by decide) HZ1.out)
          clear hown hoth
          go_wp2
          refine hK.out _ _ ?_
          clear hK K
          refine chainL_late (by simp only [List.getElem?_toArray, List.getElem?_cons_zero, List.getElem?_cons_succ]; rfl) ?_
          intro K hK
          go_wp2
          refine hK.out _ _ ?_
          clear hK K
          refine chainL_nil ?_
          clear Bk1 Bk2 Bk3 Bk4
          go_wp2
          go_roundw
          case rel => exact ⟨k + 1, by omega, by go_num, HV2.out, HP2.out, HY2.out, HZ2.out⟩
          case measure => simp [intOf]; omega
        · obtain rfl : k = R := by omega
          obtain ⟨p0, p1, p2, lp⟩ := cells3 HP.out
          obtain ⟨z0, z1, z2, lz⟩ := cells3 HZ.out
          have hzf := HZ.out.frozen
          obtain ⟨A3, c3, e3, -, -, -, hL⟩ := HV.out.form
          rw [gtab_len] at e3
          cases e3
          have HL3 := hide hL
          clear hL
          go_wp2
          refine retG Tryz.results47 rfl rfl (put3 HZ.out _ _ _) ⟨Av, cv, ?_, ?_, below_put3 HV.out.bel (by omega) _ _ _⟩
          · rw [HGE.out]
          · rw [HGE.out]
            exact HL3.out.put3 HZ.out (by decide) (by decide) _ _ _
    · by_cases h2 : n < -(R : Int)
      · have hn1 : ¬ (R : Int) < n := h1
        have hn2 : n < -(R : Int) := h2
        have HCL : Hid (clampI n R = (-(R : Int))) := by unfold Hid clampI; omega
        obtain ⟨F, hF⟩ : ∃ F, scrollAt g.ls C (clampI n R) ⟨f, g2, b⟩ = F := ⟨_, rfl⟩
        have HGE : Hid (scrollG g C n ⟨f, g2, b⟩ = { g with ls := gtab R F }) := by unfold Hid scrollG; rw [if_pos HPR.out, HLen.out, hF]
        have HF : Hid (∀ i, F i = if 0 ≤ (i : Int) + (-(R : Int)) ∧ (i : Int) + (-(R : Int)) < (R : Int) then lAt g.ls ((i : Int) + (-(R : Int))).toNat else tab C (fun _ => blankC ⟨f, g2, b⟩)) := by
          unfold Hid
          intro i
          rw [← hF, HCL.out]
          unfold scrollAt
          rw [HLen.out]
        clear hF HCL h1 h2
        go_enter Tryz.func47, Tryz.ntmps47
        go_wp2_with fail
        rw [HW0.out]
        refine (rright_any f g2 b W0).mono ?_
        rintro e W1 ⟨rfl, hb⟩
        rw [HPR.out]
        have HP0 := hide (HX0.out.later hb)
        have HY0 := hide (HX1.out.later hb)
        have HZ0 := hide (HX2.out.later hb)
        have HB1 := hide (HB0.out.trans (hb.mono HB0.out.size))
        clear hb p0 p1 p2 lp a0 a1 a2 la
        obtain ⟨p0, p1, p2, lp⟩ := cells3 HP0.out
        go_wp2
        clear p0 p1 p2 lp
        go_loopw [8, 9] (fun v i wr => ∃ (k : Nat), k ≤ R ∧ i = .int .i64 k ∧ RwsC w.heap.size w wr v (gtab k F) ∧ Whole wr w.heap.size 32 [.slice A R cap, .int .i64 (g.row : Int), .int .i64 (g.col : Int)] ∧ Whole wr (w.heap.size + 1) 50 [.int .u8 (f : Int), .int .u8 (g2 : Int), .int .u8 (b : Int)] ∧ Whole wr (w.heap.size + 2) 32 [.slice none 0 0, .int .i64 0, .int .i64 0]) (fun _ i _ => R - (intOf i).toNat)
        case atStart => exact ⟨0, Nat.zero_le _, rfl, RwsC.from0 HB1.out.size HB1.out, HP0.out, HY0.out, HZ0.out⟩
        case round =>
          obtain ⟨k, hk, rfl, hv, hp, hy, hz⟩ := hrel
          have HV := hide hv
          have HP := hide hp
          have HY := hide hy
          have HZ := hide hz
          obtain ⟨Av, cv, rfl, -⟩ := hv.form
          rw [gtab_len] at HV ⊢
          clear hv hp hy hz
          by_cases hlt : k < R
          · have HFb : Hid (F k = tab C (fun _ => blankC ⟨f, g2, b⟩)) := by unfold Hid; rw [HF.out, if_neg (by omega)]
            have h0 : ¬ 0 ≤ (k : Int) + -(R : Int) := by omega
            obtain ⟨p0, p1, p2, lp⟩ := cells3 HP.out
            go_wp2
            clear p0 p1 p2 lp
            refine wp_region_chainL (fun w' => Below wr.heap.size wr w') 9 [(0, 0), (0, 1), (0, 4), (0, 6), (1, 2), (1, 3), (1, 5), (1, 7), (1, 8), (3, 9), (3, 10)] (by kernel_rfl) (by kernel_rfl) (by kernel_rfl) (fun _ _ _ _ _ h => h) ?_ ?_
            · exact (Below.refl _ _).drewN 1
            refine chainL_take (v := ?_) (by simp only [List.getElem?_toArray, List.getElem?_cons_zero]; rfl) (by rfl) (fun w hS => ?_) ?_
            rotate_left
            · go_simp <;> with_reducible rfl
            simp only [Act.put, List.setIfInBounds_toArray, List.set_cons_zero, List.set_cons_succ]
            refine chainL_take (v := ?_) (by simp only [List.getElem?_toArray, List.getElem?_cons_zero, List.getElem?_cons_succ]; rfl) (by rfl) (fun w hS => ?_) ?_
            rotate_left
            · obtain ⟨e0, e1, e2, -⟩ := cells3 (HP.out.later hS); go_simp <;> with_reducible rfl
            simp only [Act.put, List.setIfInBounds_toArray, List.set_cons_zero, List.set_cons_succ]
            refine chainL_take (v := ?_) (by simp only [List.getElem?_toArray, List.getElem?_cons_zero, List.getElem?_cons_succ]; rfl) (by rfl) (fun w hS => ?_) ?_
            rotate_left
            · obtain ⟨e0, e1, e2, -⟩ := cells3 (HP.out.later hS); go_simp <;> with_reducible rfl
            simp only [Act.put, List.setIfInBounds_toArray, List.set_cons_zero, List.set_cons_succ]
            refine chainL_take (v := ?_) (by simp only [List.getElem?_toArray, List.getElem?_cons_zero, List.getElem?_cons_succ]; rfl) (by rfl) (fun w hS => ?_) ?_
            rotate_left
            · obtain ⟨e0, e1, e2, -⟩ := cells3 (HY.out.later hS); go_simp <;> with_reducible rfl
            simp only [Act.put, List.setIfInBounds_toArray, List.set_cons_zero, List.set_cons_succ]
            refine chainL_alone (by simp only [List.getElem?_toArray, List.getElem?_cons_zero, List.getElem?_cons_succ]; rfl) ?_
            intro K hK
            go_wp2_with fail
            refine (rgcols_any A R cap C g.row g.col g.ls _ ((HL.out.below HV.out.bel).drewN 1) HLen.out hR1 HC0.out).mono ?_
            rintro e k1 ⟨rfl, hb⟩
            have Bk1 : Below wr.heap.size wr k1 := ((Below.refl wr.heap.size wr).drewN 1).trans hb
            clear hb
            go_wp2
            refine hK.out _ _ (Bk1) ?_
            clear hK K
            refine chainL_alone (by simp only [List.getElem?_toArray, List.getElem?_cons_zero, List.getElem?_cons_succ]; rfl) ?_
            intro K hK
            go_wp2_with fail
            refine (rnew_any (C : Int) k1).mono ?_
            rintro e k2 ⟨v2, rfl, hx⟩
            obtain ⟨A2, c2, rfl, hc2, -⟩ := hx.form
            have Bk2 : Below wr.heap.size wr k2 := Bk1.trans (hx.bel.mono Bk1.size)
            have HC2 := hide hc2
            rw [newC_len C hC2]
            clear hx hc2
            go_wp2
            refine hK.out _ _ (Bk2) ?_
            clear hK K
            refine chainL_alone (by simp only [List.getElem?_toArray, List.getElem?_cons_zero, List.getElem?_cons_succ]; rfl) ?_
            intro K hK
            go_wp2_with fail
            refine (rgcols_any A R cap C g.row g.col g.ls _ ((HL.out.below HV.out.bel).below Bk2) HLen.out hR1 HC0.out).mono ?_
            rintro e k3 ⟨rfl, hb⟩
            have Bk3 : Below wr.heap.size wr k3 := Bk2.trans (hb.mono Bk2.size)
            have HC3 := hide (HC2.out.below hb)
            clear hb
            go_wp2
            refine hK.out _ _ (Bk3) ?_
            clear hK K
            refine chainL_alone (by simp only [List.getElem?_toArray, List.getElem?_cons_zero, List.getElem?_cons_succ]; rfl) ?_
            intro K hK
            go_wp2_with fail
            refine (rerase_any A2 C c2 0 (C : Int) f g2 b (newC (C : Int)) k3 HC3.out (newC_len C hC2) (by omega)).mono ?_
            rintro e k4 ⟨x, rfl, hx⟩
            rw [erase_all _ C (newC_len C hC2)] at hx
            have HX := hide hx.rowOk
            have Bk4 : Below wr.heap.size wr k4 := Bk3.trans (hx.bel.mono Bk3.size)
            obtain ⟨Ax, cx, rfl, -⟩ := hx.rowOk
            have HV1 := hide (HV.out.later Bk4)
            have HP1 := hide (HP.out.later Bk4)
            have HY1 := hide (HY.out.later Bk4)
            have HZ1 := hide (HZ.out.later Bk4)
            clear hx
            go_wp2
            refine hK.out _ _ (Bk4) ?_
            clear hK K
            refine chainL_alone (by simp only [List.getElem?_toArray, List.getElem?_cons_zero, List.getElem?_cons_succ]; rfl) ?_
            intro K hK
            go_wp2
            refine hK.out _ _ (Bk4.alloc Bk4.size _) ?_
            clear hK K
            refine chainL_late (by simp only [List.getElem?_toArray, List.getElem?_cons_zero, List.getElem?_cons_succ]; rfl) ?_
            intro K hK
            go_wp2_with (at_builtin; refine stopw ?_)
            unfold Hid
            refine wpList_pushL rfl _ _ rfl rfl rfl HV1.out HX.out (by rw [gtab_len]; omega) ?_
            intro v9 w9 hown hoth
            have HV2 : Hid (RwsC w.heap.size w w9 v9 (gtab (k + 1) F)) := by unfold Hid; rw [gtab_snoc, HFb.out]; exact hown
            have HP2 := hide (hoth _ _ _ (by decide) HP1.out)
            have HY2 := hide (hoth _ _ _ (by decide) HY1.out)
            have HZ2 := hide (hoth _ _ _ (by decide) HZ1.out)
            clear hown hoth
            go_wp2
            refine hK.out _ _ ?_
            clear hK K
            refine chainL_late (by simp only [List.getElem?_toArray, List.getElem?_cons_zero, List.getElem?_cons_succ]; rfl) ?_
            intro K hK
            go_wp2
            refine hK.out _ _ ?_
            clear hK K
            refine chainL_nil ?_
            clear Bk1 Bk2 Bk3 Bk4
            go_wp2
            go_roundw
            case rel => exact ⟨k + 1, by omega, by go_num, HV2.out, HP2.out, HY2.out, HZ2.out⟩
            case measure => simp [intOf]; omega
          · obtain rfl : k = R := by omega
            obtain ⟨p0, p1, p2, lp⟩ := cells3 HP.out
            obtain ⟨z0, z1, z2, lz⟩ := cells3 HZ.out
            have hzf := HZ.out.frozen
            obtain ⟨A3, c3, e3, -, -, -, hL⟩ := HV.out.form
            rw [gtab_len] at e3
            cases e3
            have HL3 := hide hL
            clear hL
            go_wp2
            refine retG Tryz.results47 rfl rfl (put3 HZ.out _ _ _) ⟨Av, cv, ?_, ?_, below_put3 HV.out.bel (by omega) _ _ _⟩
            · rw [HGE.out]
            · rw [HGE.out]
              exact HL3.out.put3 HZ.out (by decide) (by decide) _ _ _
      · have hn1 : ¬ (R : Int) < n := h1
        have hn2 : ¬ n < -(R : Int) := h2
        have HCL : Hid (clampI n R = n) := by unfold Hid clampI; omega
        obtain ⟨F, hF⟩ : ∃ F, scrollAt g.ls C (clampI n R) ⟨f, g2, b⟩ = F := ⟨_, rfl⟩
        have HGE : Hid (scrollG g C n ⟨f, g2, b⟩ = { g with ls := gtab R F }) := by unfold Hid scrollG; rw [if_pos HPR.out, HLen.out, hF]
        have HF : Hid (∀ i, F i = if 0 ≤ (i : Int) + n ∧ (i : Int) + n < (R : Int) then lAt g.ls ((i : Int) + n).toNat else tab C (fun _ => blankC ⟨f, g2, b⟩)) := by
          unfold Hid
          intro i
          rw [← hF, HCL.out]
          unfold scrollAt
          rw [HLen.out]
        clear hF HCL h1 h2
        go_enter Tryz.func47, Tryz.ntmps47
        go_wp2_with fail
        rw [HW0.out]
        refine (rright_any f g2 b W0).mono ?_
        rintro e W1 ⟨rfl, hb⟩
        rw [HPR.out]
        have HP0 := hide (HX0.out.later hb)
        have HY0 := hide (HX1.out.later hb)
        have HZ0 := hide (HX2.out.later hb)
        have HB1 := hide (HB0.out.trans (hb.mono HB0.out.size))
        clear hb p0 p1 p2 lp a0 a1 a2 la
        obtain ⟨p0, p1, p2, lp⟩ := cells3 HP0.out
        go_wp2
        clear p0 p1 p2 lp
        go_loopw [8, 9] (fun v i wr => ∃ (k : Nat), k ≤ R ∧ i = .int .i64 k ∧ RwsC w.heap.size w wr v (gtab k F) ∧ Whole wr w.heap.size 32 [.slice A R cap, .int .i64 (g.row : Int), .int .i64 (g.col : Int)] ∧ Whole wr (w.heap.size + 1) 50 [.int .u8 (f : Int), .int .u8 (g2 : Int), .int .u8 (b : Int)] ∧ Whole wr (w.heap.size + 2) 32 [.slice none 0 0, .int .i64 0, .int .i64 0]) (fun _ i _ => R - (intOf i).toNat)
        case atStart => exact ⟨0, Nat.zero_le _, rfl, RwsC.from0 HB1.out.size HB1.out, HP0.out, HY0.out, HZ0.out⟩
        case round =>
          obtain ⟨k, hk, rfl, hv, hp, hy, hz⟩ := hrel
          have HV := hide hv
          have HP := hide hp
          have HY := hide hy
          have HZ := hide hz
          obtain ⟨Av, cv, rfl, -⟩ := hv.form
          rw [gtab_len] at HV ⊢
          clear hv hp hy hz
          by_cases hlt : k < R
          · by_cases h0 : 0 ≤ (k : Int) + n
            · by_cases h3 : (k : Int) + n < (R : Int)
              · obtain ⟨j, hj⟩ : ∃ j : Nat, (k : Int) + n = (j : Int) := ⟨((k : Int) + n).toNat, by omega⟩
                have hjR : j < R := by omega
                have HFb : Hid (F k = lAt g.ls j) := by unfold Hid; rw [HF.out, if_pos ⟨h0, h3⟩, hj, Int.toNat_natCast]
                obtain ⟨b0, A', c', rfl, lb', hc, hrow, -, -⟩ := (HL.out.below HV.out.bel).at (i := j) (by rw [HLen.out]; exact hjR)
                have HX := hide hrow
                obtain ⟨p0, p1, p2, lp⟩ := cells3 HP.out
                clear hrow h0 h3
                go_wp2_with (at_builtin; refine stopw ?_)
                unfold Hid
                refine wpList_pushL rfl _ _ rfl rfl rfl HV.out HX.out (by rw [gtab_len]; omega) ?_
                intro v9 w9 hown hoth
                have HV2 : Hid (RwsC w.heap.size w w9 v9 (gtab (k + 1) F)) := by unfold Hid; rw [gtab_snoc, HFb.out]; exact hown
                have HP2 := hide (hoth _ _ _ (by decide) HP.out)
                have HY2 := hide (hoth _ _ _ (by decide) HY.out)
                have HZ2 := hide (hoth _ _ _ (by decide) HZ.out)
                clear hown hoth p0 p1 p2 lp hc lb'
                go_wp2
                go_roundw
                case rel => exact ⟨k + 1, by omega, by go_num, HV2.out, HP2.out, HY2.out, HZ2.out⟩
                case measure => simp [intOf]; omega
              · have HFb : Hid (F k = tab C (fun _ => blankC ⟨f, g2, b⟩)) := by unfold Hid; rw [HF.out, if_neg (fun q => h3 q.2)]
                obtain ⟨p0, p1, p2, lp⟩ := cells3 HP.out
                go_wp2
                clear p0 p1 p2 lp
                refine wp_region_chainL (fun w' => Below wr.heap.size wr w') 9 [(0, 0), (0, 1), (0, 4), (0, 6), (1, 2), (1, 3), (1, 5), (1, 7), (1, 8), (3, 9), (3, 10)] (by kernel_rfl) (by kernel_rfl) (by kernel_rfl) (fun _ _ _ _ _ h => h) ?_ ?_
                · exact (Below.refl _ _).drewN 1
                refine chainL_take (v := ?_) (by simp only [List.getElem?_toArray, List.getElem?_cons_zero]; rfl) (by rfl) (fun w hS => ?_) ?_
                rotate_left
                · go_simp <;> with_reducible rfl
                simp only [Act.put, List.setIfInBounds_toArray, List.set_cons_zero, List.set_cons_succ]
                refine chainL_take (v := ?_) (by simp only [List.getElem?_toArray, List.getElem?_cons_zero, List.getElem?_cons_succ]; rfl) (by rfl) (fun w hS => ?_) ?_
                rotate_left
                · obtain ⟨e0, e1, e2, -⟩ := cells3 (HP.out.later hS); go_simp <;> with_reducible rfl
                simp only [Act.put, List.setIfInBounds_toArray, List.set_cons_zero, List.set_cons_succ]
                refine chainL_take (v := ?_) (by simp only [List.getElem?_toArray, List.getElem?_cons_zero, List.getElem?_cons_succ]; rfl) (by rfl) (fun w hS => ?_) ?_
                rotate_left
                · obtain ⟨e0, e1, e2, -⟩ := cells3 (HP.out.later hS); go_simp <;> with_reducible rfl
                simp only [Act.put, List.setIfInBounds_toArray, List.set_cons_zero, List.set_cons_succ]
                refine chainL_take (v := ?_) (by simp only [List.getElem?_toArray, List.getElem?_cons_zero, List.getElem?_cons_succ]; rfl) (by rfl) (fun w hS => ?_) ?_
                rotate_left
                · obtain ⟨e0, e1, e2, -⟩ := cells3 (HY.out.later hS); go_simp <;> with_reducible rfl
                simp only [Act.put, List.setIfInBounds_toArray, List.set_cons_zero, List.set_cons_succ]
                refine chainL_alone (by simp only [List.getElem?_toArray, List.getElem?_cons_zero, List.getElem?_cons_succ]; rfl) ?_
                intro K hK
                go_wp2_with fail
                refine (rgcols_any A R cap C g.row g.col g.ls _ ((HL.out.below HV.out.bel).drewN 1) HLen.out hR1 HC0.out).mono ?_
                rintro e k1 ⟨rfl, hb⟩
                have Bk1 : Below wr.heap.size wr k1 := ((Below.refl wr.heap.size wr).drewN 1).trans hb
                clear hb
                go_wp2
                refine hK.out _ _ (Bk1) ?_
                clear hK K
                refine chainL_alone (by simp only [List.getElem?_toArray, List.getElem?_cons_zero, List.getElem?_cons_succ]; rfl) ?_
                intro K hK
                go_wp2_with fail
                refine (rnew_any (C : Int) k1).mono ?_
                rintro e k2 ⟨v2, rfl, hx⟩
                obtain ⟨A2, c2, rfl, hc2, -⟩ := hx.form
                have Bk2 : Below wr.heap.size wr k2 := Bk1.trans (hx.bel.mono Bk1.size)
                have HC2 := hide hc2
                rw [newC_len C hC2]
                clear hx hc2
                go_wp2
                refine hK.out _ _ (Bk2) ?_
                clear hK K
                refine chainL_alone (by simp only [List.getElem?_toArray, List.getElem?_cons_zero, List.getElem?_cons_succ]; rfl) ?_
                intro K hK
                go_wp2_with fail
                refine (rgcols_any A R cap C g.row g.col g.ls _ ((HL.out.below HV.out.bel).below Bk2) HLen.out hR1 HC0.out).mono ?_
                rintro e k3 ⟨rfl, hb⟩
                have Bk3 : Below wr.heap.size wr k3 := Bk2.trans (hb.mono Bk2.size)
                have HC3 := hide (HC2.out.below hb)
                clear hb
                go_wp2
                refine hK.out _ _ (Bk3) ?_
                clear hK K
                refine chainL_alone (by simp only [List.getElem?_toArray, List.getElem?_cons_zero, List.getElem?_cons_succ]; rfl) ?_
                intro K hK
                go_wp2_with fail
                refine (rerase_any A2 C c2 0 (C : Int) f g2 b (newC (C : Int)) k3 HC3.out (newC_len C hC2) (by omega)).mono ?_
                rintro e k4 ⟨x, rfl, hx⟩
                rw [erase_all _ C (newC_len C hC2)] at hx
                have HX := hide hx.rowOk
                have Bk4 : Below wr.heap.size wr k4 := Bk3.trans (hx.bel.mono Bk3.size)
                obtain ⟨Ax, cx, rfl, -⟩ := hx.rowOk
                have HV1 := hide (HV.out.later Bk4)
                have HP1 := hide (HP.out.later Bk4)
                have HY1 := hide (HY.out.later Bk4)
                have HZ1 := hide (HZ.out.later Bk4)
                clear hx
                go_wp2
                refine hK.out _ _ (Bk4) ?_
                clear hK K
                refine chainL_alone (by simp only [List.getElem?_toArray, List.getElem?_cons_zero, List.getElem?_cons_succ]; rfl) ?_
                intro K hK
                go_wp2
                refine hK.out _ _ (Bk4.alloc Bk4.size _) ?_
                clear hK K
                refine chainL_late (by simp only [List.getElem?_toArray, List.getElem?_cons_zero, List.getElem?_cons_succ]; rfl) ?_
                intro K hK
                go_wp2_with (at_builtin; refine stopw ?_)
                unfold Hid
                refine wpList_pushL rfl _ _ rfl rfl rfl HV1.out HX.out (by rw [gtab_len]; omega) ?_
                intro v9 w9 hown hoth
                have HV2 : Hid (RwsC w.heap.size w w9 v9 (gtab (k + 1) F)) := by unfold Hid; rw [gtab_snoc, HFb.out]; exact hown
                have HP2 := hide (hoth _ _ _ (by decide) HP1.out)
                have HY2 := hide (hoth _ _ _ (by decide) HY1.out)
                have HZ2 := hide (hoth _ _ _ (by decide) HZ1.out)
                clear hown hoth
                go_wp2
                refine hK.out _ _ ?_
                clear hK K
                refine chainL_late (by simp only [List.getElem?_toArray, List.getElem?_cons_zero, List.getElem?_cons_succ]; rfl) ?_
                intro K hK
                go_wp2
                refine hK.out _ _ ?_
                clear hK K
                refine chainL_nil ?_
                clear Bk1 Bk2 Bk3 Bk4
                go_wp2
                go_roundw
                case rel => exact ⟨k + 1, by omega, by go_num, HV2.out, HP2.out, HY2.out, HZ2.out⟩
                case measure => simp [intOf]; omega
            · have HFb : Hid (F k = tab C (fun _ => blankC ⟨f, g2, b⟩)) := by unfold Hid; rw [HF.out, if_neg (fun q => h0 q.1)]
              obtain ⟨p0, p1, p2, lp⟩ := cells3 HP.out
              go_wp2
              clear p0 p1 p2 lp
              refine wp_region_chainL (fun w' => Below wr.heap.size wr w') 9 [(0, 0), (0, 1), (0, 4), (0, 6), (1, 2), (1, 3), (1, 5), (1, 7), (1, 8), (3, 9), (3, 10)] (by kernel_rfl) (by kernel_rfl) (by kernel_rfl) (fun _ _ _ _ _ h => h) ?_ ?_
              · exact (Below.refl _ _).drewN 1
              refine chainL_take (v := ?_) (by simp only [List.getElem?_toArray, List.getElem?_cons_zero]; rfl) (by rfl) (fun w hS => ?_) ?_
              rotate_left
              · go_simp <;> with_reducible rfl
              simp only [Act.put, List.setIfInBounds_toArray, List.set_cons_zero, List.set_cons_succ]
              refine chainL_take (v := ?_) (by simp only [List.getElem?_toArray, List.getElem?_cons_zero, List.getElem?_cons_succ]; rfl) (by rfl) (fun w hS => ?_) ?_
              rotate_left
              · obtain ⟨e0, e1, e2, -⟩ := cells3 (HP.out.later hS); go_simp <;> with_reducible rfl
              simp only [Act.put, List.setIfInBounds_toArray, List.set_cons_zero, List.set_cons_succ]
              refine chainL_take (v := ?_) (by simp only [List.getElem?_toArray, List.getElem?_cons_zero, List.getElem?_cons_succ]; rfl) (by rfl) (fun w hS => ?_) ?_
              rotate_left
              · obtain ⟨e0, e1, e2, -⟩ := cells3 (HP.out.later hS); go_simp <;> with_reducible rfl
              simp only [Act.put, List.setIfInBounds_toArray, List.set_cons_zero, List.set_cons_succ]
              refine chainL_take (v := ?_) (by simp only [List.getElem?_toArray, List.getElem?_cons_zero, List.getElem?_cons_succ]; rfl) (by rfl) (fun w hS => ?_) ?_
              rotate_left
              · obtain ⟨e0, e1, e2, -⟩ := cells3 (HY.out.later hS); go_simp <;> with_reducible rfl
              simp only [Act.put, List.setIfInBounds_toArray, List.set_cons_zero, List.set_cons_succ]
              refine chainL_alone (by simp only [List.getElem?_toArray, List.getElem?_cons_zero, List.getElem?_cons_succ]; rfl) ?_
              intro K hK
              go_wp2_with fail
              refine (rgcols_any A R cap C g.row g.col g.ls _ ((HL.out.below HV.out.bel).drewN 1) HLen.out hR1 HC0.out).mono ?_
              rintro e k1 ⟨rfl, hb⟩
              have Bk1 : Below wr.heap.size wr k1 := ((Below.refl wr.heap.size wr).drewN 1).trans hb
              clear hb
              go_wp2
              refine hK.out _ _ (Bk1) ?_
              clear hK K
              refine chainL_alone (by simp only [List.getElem?_toArray, List.getElem?_cons_zero, List.getElem?_cons_succ]; rfl) ?_
              intro K hK
              go_wp2_with fail
              refine (rnew_any (C : Int) k1).mono ?_
              rintro e k2 ⟨v2, rfl, hx⟩
              obtain ⟨A2, c2, rfl, hc2, -⟩ := hx.form
              have Bk2 : Below wr.heap.size wr k2 := Bk1.trans (hx.bel.mono Bk1.size)
              have HC2 := hide hc2
              rw [newC_len C hC2]
              clear hx hc2
              go_wp2
              refine hK.out _ _ (Bk2) ?_
              clear hK K
              refine chainL_alone (by simp only [List.getElem?_toArray, List.getElem?_cons_zero, List.getElem?_cons_succ]; rfl) ?_
              intro K hK
              go_wp2_with fail
              refine (rgcols_any A R cap C g.row g.col g.ls _ ((HL.out.below HV.out.bel).below Bk2) HLen.out hR1 HC0.out).mono ?_
              rintro e k3 ⟨rfl, hb⟩
              have Bk3 : Below wr.heap.size wr k3 := Bk2.trans (hb.mono Bk2.size)
              have HC3 := hide (HC2.out.below hb)
              clear hb
              go_wp2
              refine hK.out _ _ (Bk3) ?_
              clear hK K
              refine chainL_alone (by simp only [List.getElem?_toArray, List.getElem?_cons_zero, List.getElem?_cons_succ]; rfl) ?_
              intro K hK
              go_wp2_with fail
              refine (rerase_any A2 C c2 0 (C : Int) f g2 b (newC (C : Int)) k3 HC3.out (newC_len C hC2) (by omega)).mono ?_
              rintro e k4 ⟨x, rfl, hx⟩
              rw [erase_all _ C (newC_len C hC2)] at hx
              have HX := hide hx.rowOk
              have Bk4 : Below wr.heap.size wr k4 := Bk3.trans (hx.bel.mono Bk3.size)
              obtain ⟨Ax, cx, rfl, -⟩ := hx.rowOk
              have HV1 := hide (HV.out.later Bk4)
              have HP1 := hide (HP.out.later Bk4)
              have HY1 := hide (HY.out.later Bk4)
              have HZ1 := hide (HZ.out.later Bk4)
              clear hx
              go_wp2
              refine hK.out _ _ (Bk4) ?_
              clear hK K
              refine chainL_alone (by simp only [List.getElem?_toArray, List.getElem?_cons_zero, List.getElem?_cons_succ]; rfl) ?_
              intro K hK
              go_wp2
              refine hK.out _ _ (Bk4.alloc Bk4.size _) ?_
              clear hK K
              refine chainL_late (by simp only [List.getElem?_toArray, List.getElem?_cons_zero, List.getElem?_cons_succ]; rfl) ?_
              intro K hK
              go_wp2_with (at_builtin; refine stopw ?_)
              unfold Hid
              refine wpList_pushL rfl _ _ rfl rfl rfl HV1.out HX.out (by rw [gtab_len]; omega) ?_
              intro v9 w9 hown hoth
              have HV2 : Hid (RwsC w.heap.size w w9 v9 (gtab (k + 1) F)) := by unfold Hid; rw [gtab_snoc, HFb.out]; exact hown
              have HP2 := hide (hoth _ _ _ (by decide) HP1.out)
              have HY2 := hide (hoth _ _ _ (by decide) HY1.out)
              have HZ2 := hide (hoth _ _ _ (by decide) HZ1.out)
              clear hown hoth
              go_wp2
              refine hK.out _ _ ?_
              clear hK K
              refine chainL_late (by simp only [List.getElem?_toArray, List.getElem?_cons_zero, List.getElem?_cons_succ]; rfl) ?_
              intro K hK
              go_wp2
              refine hK.out _ _ ?_
              clear hK K
              refine chainL_nil ?_
              clear Bk1 Bk2 Bk3 Bk4
              go_wp2
              go_roundw
              case rel => exact ⟨k + 1, by omega, by go_num, HV2.out, HP2.out, HY2.out, HZ2.out⟩
              case measure => simp [intOf]; omega
          · obtain rfl : k = R := by omega
            obtain ⟨p0, p1, p2, lp⟩ := cells3 HP.out
            obtain ⟨z0, z1, z2, lz⟩ := cells3 HZ.out
            have hzf := HZ.out.frozen
            obtain ⟨A3, c3, e3, -, -, -, hL⟩ := HV.out.form
            rw [gtab_len] at e3
            cases e3
            have HL3 := hide hL
            clear hL
            go_wp2
            refine retG Tryz.results47 rfl rfl (put3 HZ.out _ _ _) ⟨Av, cv, ?_, ?_, below_put3 HV.out.bel (by omega) _ _ _⟩
            · rw [HGE.out]
            · rw [HGE.out]
              exact HL3.out.put3 HZ.out (by decide) (by decide) _ _ _
  · have HGE : Hid (scrollG g C n ⟨f, g2, b⟩ = g) := by unfold Hid scrollG; rw [if_neg hp]
    have HPR : Hid (rightN ⟨f, g2, b⟩ = false) := by unfold Hid; simpa using hp
    clear hp
    go_enter Tryz.func47, Tryz.ntmps47
    go_wp2_with fail
    rw [HW0.out]
    refine (rright_any f g2 b W0).mono ?_
    rintro e W1 ⟨rfl, hb⟩
    rw [HPR.out]
    have HB1 := hide (HB0.out.trans (hb.mono HB0.out.size))
    have HP := hide (HX0.out.later hb)
    have HZ := hide (HX2.out.later hb)
    clear hb p0 p1 p2 lp a0 a1 a2 la
    obtain ⟨p0, p1, p2, lp⟩ := cells3 HP.out
    obtain ⟨z0, z1, z2, lz⟩ := cells3 HZ.out
    have hzf := HZ.out.frozen
    go_wp2
    refine retG Tryz.results47 rfl rfl (put3 HZ.out _ _ _) ⟨A, cap, ?_, ?_, below_put3 HB1.out (by omega) _ _ _⟩
    · rw [HGE.out]
    · rw [HGE.out]
      exact (HL.out.below HB1.out).put3 HZ.out (by decide) (by decide) _ _ _
end Go.Proofs.YtiifeniijcnahaaGreatDoor
