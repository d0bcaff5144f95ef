/-
  Contracts: the document's grid with blanks, a line laid, the cursor moved.
-/
import Derived.Test.YtiifeniijcnahaaGreatDoorGRef2
namespace Go.Proofs.YtiifeniijcnahaaGreatDoor
set_option maxRecDepth 100000
open Go.ChangeShapes Go.WideShapes Go.ChangeAt Go.RowKit
set_option linter.unusedVariables false

set_option maxHeartbeats 4000000 in
theorem rgerase_any (A : Option Addr) (R C cap : Nat) (g : Gd) (w : World) (h : Lns w A g.ls) (hok : GOk g R C) (R0 x y : Int) (f g2 b : Nat) :
    Calls Tryz.prog 40 #[.agg #[.slice A R cap, .int .i64 (g.row : Int), .int .i64 (g.col : Int)], .int .i64 R0, .int .i64 x, .int .i64 y, .agg #[.int .u8 (f : Int), .int .u8 (g2 : Int), .int .u8 (b : Int)]] w (GaveD R (eraseG g R0 x y ⟨f, g2, b⟩) w) := by
  obtain ⟨W0, hW0⟩ : ∃ W0, ((w.alloc (.cells #[.slice A R cap, .int .i64 (g.row : Int), .int .i64 (g.col : Int)] 32)).alloc (.cells #[.int .u8 (f : Int), .int .u8 (g2 : Int), .int .u8 (b : Int)] 50)).alloc (.cells #[.slice none 0 0, .int .i64 0, .int .i64 0] 32) = W0 := ⟨_, rfl⟩
  have HB0 : Hid (Below w.heap.size w W0) := by unfold Hid; rw [← hW0]; exact three_new w _ _ _
  have HX0 : Hid (Whole W0 (w.heap.size) 32 [.slice A R cap, .int .i64 (g.row : Int), .int .i64 (g.col : Int)]) := by unfold Hid; rw [← hW0]; exact (((Whole.new w 32 [.slice A R cap, .int .i64 (g.row : Int), .int .i64 (g.col : Int)]).alloc _).alloc _)
  have HX1 : Hid (Whole W0 (w.heap.size + 1) 50 [.int .u8 (f : Int), .int .u8 (g2 : Int), .int .u8 (b : Int)]) := by unfold Hid; rw [← hW0]; exact ((whole_snd w _ 50 [.int .u8 (f : Int), .int .u8 (g2 : Int), .int .u8 (b : Int)]).alloc _)
  have HX2 : Hid (Whole W0 (w.heap.size + 2) 32 [.slice none 0 0, .int .i64 0, .int .i64 0]) := by unfold Hid; rw [← hW0]; exact (whole_thd w _ _ 32 [.slice none 0 0, .int .i64 0, .int .i64 0])
  have HW0 := hide hW0
  clear hW0
  have HL := hide (h.below HB0.out)
  have HGO := hide hok
  have hR1 := hok.r1
  have hR2 := hok.r2
  have hC0 := hok.c1
  have hC2 := hok.c2
  have hC1 : C ≤ 1000000 := by omega
  have HLen := hide hok.len
  obtain ⟨p0, p1, p2, lp⟩ := cells3 HX0.out
  obtain ⟨a0, a1, a2, la⟩ := cells3 HX1.out
  clear h hok
  by_cases hr : hasG R R0
  · obtain ⟨q, hq⟩ : ∃ q : Nat, R0 = (q : Int) := ⟨R0.toNat, by unfold hasG at hr; omega⟩
    subst hq
    have hqR : q < R := by unfold hasG at hr; omega
    have HR := hide hr
    clear hr
    by_cases hp : rightN ⟨f, g2, b⟩ = true
    · have HGE : Hid (eraseG g (q : Int) x y ⟨f, g2, b⟩ = { g with ls := g.ls.set q (eraseC (lAt g.ls q) x y ⟨f, g2, b⟩) }) := by unfold Hid eraseG; rw [if_pos ⟨by rw [HLen.out]; exact HR.out, hp⟩, Int.toNat_natCast]
      obtain ⟨X, hX⟩ : ∃ X, eraseC (lAt g.ls q) x y ⟨f, g2, b⟩ = X := ⟨_, rfl⟩
      rw [hX] at HGE
      have HNr := hide ((HGO.out.each q hqR).1)
      have HXL : Hid (X.length = C) := by unfold Hid; rw [← hX, erase_len, HNr.out]
      have HXX := hide hX
      have HPR := hide hp
      clear hX hp
      go_enter Tryz.func40, Tryz.ntmps40
      go_wp2_with fail
      rw [HW0.out]
      refine (rhas_any A R cap g.row g.col q W0).mono ?_
      rintro e W1 ⟨rfl, hb⟩
      rw [hasG_in hqR]
      have HL0 := hide (HL.out.below hb)
      have HP0 := hide (HX0.out.later hb)
      have HY0 := hide (HX1.out.later hb)
      have HZ0 := hide (HX2.out.later hb)
      have HB1 := hide (HB0.out.trans (hb.mono HB0.out.size))
      clear hb p0 p1 p2 lp a0 a1 a2 la
      obtain ⟨a0, a1, a2, la⟩ := cells3 HY0.out
      go_wp2_with fail
      refine (rright_any f g2 b W1).mono ?_
      rintro e W2 ⟨rfl, hb⟩
      rw [HPR.out]
      have HL1 := hide (HL0.out.below hb)
      have HP := hide (HP0.out.later hb)
      have HY := hide (HY0.out.later hb)
      have HZ := hide (HZ0.out.later hb)
      have HB2 := hide (HB1.out.trans (hb.mono HB1.out.size))
      clear hb a0 a1 a2 la
      obtain ⟨b0, A', c', rfl, lb, hcell, -, hcels, hA'⟩ := HL1.out.at (i := q) (by rw [HLen.out]; exact hqR)
      rw [HNr.out] at hcell
      have HCr := hide hcels
      clear hcels
      obtain ⟨a0, a1, a2, la⟩ := cells3 HY.out
      go_wp2
      refine wp_region_chainL (fun w' => Below W2.heap.size W2 w') 12 [(0, 1), (0, 4), (0, 7), (0, 8), (0, 2), (0, 0), (0, 3), (0, 5), (0, 6), (1, 9), (1, 10), (1, 11), (3, 12)] (by kernel_rfl) (by kernel_rfl) (by kernel_rfl) (fun _ _ _ _ _ h => h) ?_ ?_
      · exact (Below.refl _ _).drewN 1
      refine chainL_take (v := ?_) (by simp only [List.getElem?_toArray, List.getElem?_cons_zero, List.getElem?_cons_succ]; rfl) (by rfl) (fun w hS => ?_) ?_
      rotate_left
      · go_simp <;> with_reducible rfl
      simp only [Act.put, List.setIfInBounds_toArray, List.set_cons_zero, List.set_cons_succ]
      refine chainL_take (v := ?_) (by simp only [List.getElem?_toArray, List.getElem?_cons_zero, List.getElem?_cons_succ]; rfl) (by rfl) (fun w hS => ?_) ?_
      rotate_left
      · go_simp <;> with_reducible rfl
      simp only [Act.put, List.setIfInBounds_toArray, List.set_cons_zero, List.set_cons_succ]
      refine chainL_take (v := ?_) (by simp only [List.getElem?_toArray, List.getElem?_cons_zero, List.getElem?_cons_succ]; rfl) (by rfl) (fun w hS => ?_) ?_
      rotate_left
      · go_simp <;> with_reducible rfl
      simp only [Act.put, List.setIfInBounds_toArray, List.set_cons_zero, List.set_cons_succ]
      refine chainL_take (v := ?_) (by simp only [List.getElem?_toArray, List.getElem?_cons_zero, List.getElem?_cons_succ]; rfl) (by rfl) (fun w hS => ?_) ?_
      rotate_left
      · go_simp <;> with_reducible rfl
      simp only [Act.put, List.setIfInBounds_toArray, List.set_cons_zero, List.set_cons_succ]
      refine chainL_take (v := ?_) (by simp only [List.getElem?_toArray, List.getElem?_cons_zero, List.getElem?_cons_succ]; rfl) (by rfl) (fun w hS => ?_) ?_
      rotate_left
      · go_simp <;> with_reducible rfl
      simp only [Act.put, List.setIfInBounds_toArray, List.set_cons_zero, List.set_cons_succ]
      refine chainL_take (v := ?_) (by simp only [List.getElem?_toArray, List.getElem?_cons_zero]; rfl) (by rfl) (fun w hS => ?_) ?_
      rotate_left
      · obtain ⟨e0, e1, e2, -⟩ := cells3 (HP.out.later hS); go_simp <;> with_reducible rfl
      simp only [Act.put, List.setIfInBounds_toArray, List.set_cons_zero, List.set_cons_succ]
      refine chainL_take (v := ?_) (by simp only [List.getElem?_toArray, List.getElem?_cons_zero, List.getElem?_cons_succ]; rfl) (by rfl) (fun w hS => ?_) ?_
      rotate_left
      · obtain ⟨e0, e1, e2, -⟩ := cells3 (HP.out.later hS); go_simp <;> with_reducible rfl
      simp only [Act.put, List.setIfInBounds_toArray, List.set_cons_zero, List.set_cons_succ]
      refine chainL_take (v := ?_) (by simp only [List.getElem?_toArray, List.getElem?_cons_zero, List.getElem?_cons_succ]; rfl) (by rfl) (fun w hS => ?_) ?_
      rotate_left
      · go_simp <;> with_reducible rfl
      simp only [Act.put, List.setIfInBounds_toArray, List.set_cons_zero, List.set_cons_succ]
      refine chainL_take (v := ?_) (by simp only [List.getElem?_toArray, List.getElem?_cons_zero, List.getElem?_cons_succ]; rfl) (by rfl) (fun w hS => ?_) ?_
      rotate_left
      · have f0 : w.cell? ⟨b0, q, none⟩ = some (.slice A' C c') := (hS.cell (p := ⟨b0, q, none⟩) lb).trans hcell; go_simp <;> with_reducible rfl
      simp only [Act.put, List.setIfInBounds_toArray, List.set_cons_zero, List.set_cons_succ]
      refine chainL_alone (by simp only [List.getElem?_toArray, List.getElem?_cons_zero, List.getElem?_cons_succ]; rfl) ?_
      intro K hK
      go_wp2
      refine hK.out _ _ ((Below.refl _ _).drewN 1) ?_
      clear hK K
      refine chainL_alone (by simp only [List.getElem?_toArray, List.getElem?_cons_zero, List.getElem?_cons_succ]; rfl) ?_
      intro K hK
      go_wp2_with fail
      refine (rerase_v x y f g2 b HXX.out HCr.out.drew HNr.out hC1).mono ?_
      rintro e k1 ⟨A1, c1, rfl, hc1, hb⟩
      have HC1 := hide hc1
      have Bk1 : Below W2.heap.size W2 k1 := ((Below.refl W2.heap.size W2).drewN 1).trans hb
      clear hb hc1
      go_wp2
      refine hK.out _ _ (Bk1) ?_
      clear hK K
      refine chainL_alone (by simp only [List.getElem?_toArray, List.getElem?_cons_zero, List.getElem?_cons_succ]; rfl) ?_
      intro K hK
      go_wp2_with fail
      refine (with7_any _ R cap g.row g.col g.ls k1 (HL1.out.below Bk1) HLen.out hR2 q hqR A1 C c1 X HC1.out HXL.out hC0 hC1).mono ?_
      rintro e k2 ⟨A2, cap2, rfl, hl, hb⟩
      have HL3 := hide hl
      have Bk2 : Below W2.heap.size W2 k2 := Bk1.trans (hb.mono Bk1.size)
      have HZ3 := hide (HZ.out.later Bk2)
      have HB3 := hide (HB2.out.trans (Bk2.mono HB2.out.size))
      clear hl hb
      obtain ⟨z0, z1, z2, lz⟩ := cells3 HZ3.out
      have hzf := HZ3.out.frozen
      go_wp2
      refine hK.out _ _ (Bk2) ?_
      clear hK K
      refine chainL_late (by simp only [List.getElem?_toArray, List.getElem?_cons_zero, List.getElem?_cons_succ]; rfl) ?_
      intro K hK
      go_wp2
      refine hK.out _ _ ?_
      clear hK K
      refine chainL_nil ?_
      clear Bk1 Bk2 a0 a1 a2 la
      go_wp2
      refine retG Tryz.results40 rfl rfl (put3 HZ3.out _ _ _) ⟨A2, cap2, ?_, ?_, below_put3 HB3.out (by omega) _ _ _⟩
      · rw [HGE.out]
      · rw [HGE.out]
        exact HL3.out.put3 HZ3.out (by decide) (by decide) _ _ _
    · have HGE : Hid (eraseG g (q : Int) x y ⟨f, g2, b⟩ = g) := by unfold Hid eraseG; rw [if_neg (fun q => hp q.2)]
      have HPR : Hid (rightN ⟨f, g2, b⟩ = false) := by unfold Hid; simpa using hp
      clear hp
      go_enter Tryz.func40, Tryz.ntmps40
      go_wp2_with fail
      rw [HW0.out]
      refine (rhas_any A R cap g.row g.col q W0).mono ?_
      rintro e W1 ⟨rfl, hb⟩
      rw [hasG_in hqR]
      have HL0 := hide (HL.out.below hb)
      have HP0 := hide (HX0.out.later hb)
      have HY0 := hide (HX1.out.later hb)
      have HZ0 := hide (HX2.out.later hb)
      have HB1 := hide (HB0.out.trans (hb.mono HB0.out.size))
      clear hb p0 p1 p2 lp a0 a1 a2 la
      obtain ⟨a0, a1, a2, la⟩ := cells3 HY0.out
      go_wp2_with fail
      refine (rright_any f g2 b W1).mono ?_
      rintro e W2 ⟨rfl, hb⟩
      rw [HPR.out]
      have HL1 := hide (HL0.out.below hb)
      have HP := hide (HP0.out.later hb)
      have HZ := hide (HZ0.out.later hb)
      have HB2 := hide (HB1.out.trans (hb.mono HB1.out.size))
      clear hb a0 a1 a2 la
      obtain ⟨p0, p1, p2, lp⟩ := cells3 HP.out
      obtain ⟨z0, z1, z2, lz⟩ := cells3 HZ.out
      have hzf := HZ.out.frozen
      go_wp2
      refine retG Tryz.results40 rfl rfl (put3 HZ.out _ _ _) ⟨A, cap, ?_, ?_, below_put3 HB2.out (by omega) _ _ _⟩
      · rw [HGE.out]
      · rw [HGE.out]
        exact HL1.out.put3 HZ.out (by decide) (by decide) _ _ _
  · have HGE : Hid (eraseG g R0 x y ⟨f, g2, b⟩ = g) := by unfold Hid eraseG; rw [HLen.out, if_neg (fun q => hr q.1)]
    have HD : Hid (decide (hasG R R0) = false) := by unfold Hid; simp [hr]
    clear hr
    go_enter Tryz.func40, Tryz.ntmps40
    go_wp2_with fail
    rw [HW0.out]
    refine (rhas_any A R cap g.row g.col R0 W0).mono ?_
    rintro e W1 ⟨rfl, hb⟩
    rw [HD.out]
    have HL1 := hide (HL.out.below hb)
    have HP := hide (HX0.out.later hb)
    have HZ := hide (HX2.out.later hb)
    have HB1 := hide (HB0.out.trans (hb.mono HB0.out.size))
    clear hb p0 p1 p2 lp a0 a1 a2 la
    obtain ⟨p0, p1, p2, lp⟩ := cells3 HP.out
    obtain ⟨z0, z1, z2, lz⟩ := cells3 HZ.out
    have hzf := HZ.out.frozen
    go_wp2
    refine retG Tryz.results40 rfl rfl (put3 HZ.out _ _ _) ⟨A, cap, ?_, ?_, below_put3 HB1.out (by omega) _ _ _⟩
    · rw [HGE.out]
    · rw [HGE.out]
      exact HL1.out.put3 HZ.out (by decide) (by decide) _ _ _
set_option maxHeartbeats 4000000 in
theorem rglay_any (A : Option Addr) (R C cap : Nat) (g : Gd) (w : World) (h : Lns w A g.ls) (hok : GOk g R C) (R0 : Int) (Al : Option Addr) (nl cl : Nat) (zs : List Cel) (hz : Cels .i64 w Al zs) (hn : zs.length = nl) (hl : nl ≤ 1000000) (hlb : LB zs) :
    Calls Tryz.prog 42 #[.agg #[.slice A R cap, .int .i64 (g.row : Int), .int .i64 (g.col : Int)], .int .i64 R0, .slice Al nl cl] w (GaveD2 R (layG g R0 zs C) (layOk g R0 zs C) w) := by
  obtain ⟨W0, hW0⟩ : ∃ W0, (w.alloc (.cells #[.slice A R cap, .int .i64 (g.row : Int), .int .i64 (g.col : Int)] 32)).alloc (.cells #[.slice none 0 0, .int .i64 0, .int .i64 0] 32) = W0 := ⟨_, rfl⟩
  have HB0 : Hid (Below w.heap.size w W0) := by unfold Hid; rw [← hW0]; exact two_new w _ _ [.slice A R cap, .int .i64 (g.row : Int), .int .i64 (g.col : Int)] [.slice none 0 0, .int .i64 0, .int .i64 0]
  have HX0 : Hid (Whole W0 (w.heap.size) 32 [.slice A R cap, .int .i64 (g.row : Int), .int .i64 (g.col : Int)]) := by unfold Hid; rw [← hW0]; exact ((Whole.new w 32 [.slice A R cap, .int .i64 (g.row : Int), .int .i64 (g.col : Int)]).alloc _)
  have HX1 : Hid (Whole W0 (w.heap.size + 1) 32 [.slice none 0 0, .int .i64 0, .int .i64 0]) := by unfold Hid; rw [← hW0]; exact (whole_snd w _ 32 [.slice none 0 0, .int .i64 0, .int .i64 0])
  have HW0 := hide hW0
  clear hW0
  have HL := hide (h.below HB0.out)
  have HGO := hide hok
  have hR1 := hok.r1
  have hR2 := hok.r2
  have hC0 := hok.c1
  have hC2 := hok.c2
  have hC1 : C ≤ 1000000 := by omega
  have HLen := hide hok.len
  have HC0 := hide (hok.each 0 hok.r1).1
  have HZs := hide hz
  have HNz := hide hn
  have HLz := hide hlb
  obtain ⟨p0, p1, p2, lp⟩ := cells3 HX0.out
  clear h hok hz hn hlb
  by_cases hr : hasG R R0
  · obtain ⟨q, hq⟩ : ∃ q : Nat, R0 = (q : Int) := ⟨R0.toNat, by unfold hasG at hr; omega⟩
    subst hq
    have hqR : q < R := by unfold hasG at hr; omega
    have HK : Hid (layOk g (q : Int) zs C = (decide (nl = C) && rightL zs)) := by unfold Hid layOk; rw [HLen.out, hasG_in hqR, Bool.true_and, HNz.out]
    clear hr
    by_cases hnC : nl = C
    · have e1 : ((nl : Int) != (C : Int)) = false := by simp [hnC]
      have HNC := hide hnC
      cases hrt : rightL zs
      case false =>
        have HRT := hide hrt
        have HGE : Hid (layG g (q : Int) zs C = g ∧ layOk g (q : Int) zs C = false) := by
          unfold Hid layG
          rw [HK.out, hrt]
          simp
        clear hrt hnC
        go_enter Tryz.func42, Tryz.ntmps42
        go_wp2_with fail
        rw [HW0.out]
        refine (rhas_any A R cap g.row g.col q W0).mono ?_
        rintro e W1 ⟨rfl, hb⟩
        rw [hasG_in hqR]
        have HL0 := hide (HL.out.below hb)
        have HP0 := hide (HX0.out.later hb)
        have HZ0 := hide (HX1.out.later hb)
        have HB00 := hide (HB0.out.trans (hb.mono HB0.out.size))
        clear hb p0 p1 p2 lp
        obtain ⟨p0, p1, p2, lp⟩ := cells3 HP0.out
        go_wp2_with fail
        refine (rgcols_any A R cap C g.row g.col g.ls W1 HL0.out HLen.out hR1 HC0.out).mono ?_
        rintro e W2 ⟨rfl, hb⟩
        have HL1 := hide (HL0.out.below hb)
        have HP := hide (HP0.out.later hb)
        have HZ := hide (HZ0.out.later hb)
        have HB1 := hide (HB00.out.trans (hb.mono HB00.out.size))
        clear hb p0 p1 p2 lp
        go_wp2_with fail
        refine (rlright_any Al nl cl zs W2 (HZs.out.below HB1.out) HNz.out hl HLz.out).mono ?_
        rintro e W3 ⟨rfl, hb⟩
        rw [HRT.out]
        have HL1' := hide (HL1.out.below hb)
        have HP' := hide (HP.out.later hb)
        have HZ' := hide (HZ.out.later hb)
        have HB1' := hide (HB1.out.trans (hb.mono HB1.out.size))
        clear hb
        clear HL1 HP HZ HB1
        have HL1 := HL1'
        have HP := HP'
        have HZ := HZ'
        have HB1 := HB1'
        obtain ⟨p0, p1, p2, lp⟩ := cells3 HP.out
        obtain ⟨z0, z1, z2, lz⟩ := cells3 HZ.out
        have hzf := HZ.out.frozen
        go_wp2
        refine retG2 Tryz.results42 rfl rfl rfl (put3 HZ.out _ _ _) ⟨A, cap, ?_, ?_, below_put3 HB1.out (by omega) _ _ _⟩
        · rw [HGE.out.1, HGE.out.2]; rfl
        · rw [HGE.out.1]
          exact HL1.out.put3 HZ.out (by decide) (by decide) _ _ _
      case true =>
        have HRT := hide hrt
        have HGE : Hid (layG g (q : Int) zs C = { g with ls := g.ls.set q zs } ∧ layOk g (q : Int) zs C = true) := by
          unfold Hid layG
          rw [HK.out, hrt, hnC, Int.toNat_natCast]
          simp
        clear hrt hnC
        go_enter Tryz.func42, Tryz.ntmps42
        go_wp2_with fail
        rw [HW0.out]
        refine (rhas_any A R cap g.row g.col q W0).mono ?_
        rintro e W1 ⟨rfl, hb⟩
        rw [hasG_in hqR]
        have HL0 := hide (HL.out.below hb)
        have HP0 := hide (HX0.out.later hb)
        have HZ0 := hide (HX1.out.later hb)
        have HB00 := hide (HB0.out.trans (hb.mono HB0.out.size))
        clear hb p0 p1 p2 lp
        obtain ⟨p0, p1, p2, lp⟩ := cells3 HP0.out
        go_wp2_with fail
        refine (rgcols_any A R cap C g.row g.col g.ls W1 HL0.out HLen.out hR1 HC0.out).mono ?_
        rintro e W2 ⟨rfl, hb⟩
        have HL1 := hide (HL0.out.below hb)
        have HP := hide (HP0.out.later hb)
        have HZ := hide (HZ0.out.later hb)
        have HB1 := hide (HB00.out.trans (hb.mono HB00.out.size))
        clear hb p0 p1 p2 lp
        go_wp2_with fail
        refine (rlright_any Al nl cl zs W2 (HZs.out.below HB1.out) HNz.out hl HLz.out).mono ?_
        rintro e W3 ⟨rfl, hb⟩
        rw [HRT.out]
        have HL1' := hide (HL1.out.below hb)
        have HP' := hide (HP.out.later hb)
        have HZ' := hide (HZ.out.later hb)
        have HB1' := hide (HB1.out.trans (hb.mono HB1.out.size))
        clear hb
        obtain ⟨p0, p1, p2, lp⟩ := cells3 HP'.out
        go_wp2_with fail
        refine (with7_any _ R cap g.row g.col g.ls W3 HL1'.out HLen.out hR2 q hqR Al nl cl zs (HZs.out.below HB1'.out) HNz.out (by rw [HNC.out]; exact hC0) hl).mono ?_
        rintro e k2 ⟨A2, cap2, rfl, hl2, hb⟩
        have HL3 := hide hl2
        have HZ3 := hide (HZ'.out.later hb)
        have HB3 := hide (HB1'.out.trans (hb.mono HB1'.out.size))
        clear hl2 hb p0 p1 p2 lp
        obtain ⟨z0, z1, z2, lz⟩ := cells3 HZ3.out
        have hzf := HZ3.out.frozen
        go_wp2
        refine retG2 Tryz.results42 rfl rfl rfl (put3 HZ3.out _ _ _) ⟨A2, cap2, ?_, ?_, below_put3 HB3.out (by omega) _ _ _⟩
        · rw [HGE.out.1, HGE.out.2]; rfl
        · rw [HGE.out.1]
          exact HL3.out.put3 HZ3.out (by decide) (by decide) _ _ _
    · have e1 : ((nl : Int) != (C : Int)) = true := by simp; omega
      have HGE : Hid (layG g (q : Int) zs C = g ∧ layOk g (q : Int) zs C = false) := by
        unfold Hid layG
        rw [HK.out]
        simp [hnC]
      clear hnC
      go_enter Tryz.func42, Tryz.ntmps42
      go_wp2_with fail
      rw [HW0.out]
      refine (rhas_any A R cap g.row g.col q W0).mono ?_
      rintro e W1 ⟨rfl, hb⟩
      rw [hasG_in hqR]
      have HL0 := hide (HL.out.below hb)
      have HP0 := hide (HX0.out.later hb)
      have HZ0 := hide (HX1.out.later hb)
      have HB00 := hide (HB0.out.trans (hb.mono HB0.out.size))
      clear hb p0 p1 p2 lp
      obtain ⟨p0, p1, p2, lp⟩ := cells3 HP0.out
      go_wp2_with fail
      refine (rgcols_any A R cap C g.row g.col g.ls W1 HL0.out HLen.out hR1 HC0.out).mono ?_
      rintro e W2 ⟨rfl, hb⟩
      have HL1 := hide (HL0.out.below hb)
      have HP := hide (HP0.out.later hb)
      have HZ := hide (HZ0.out.later hb)
      have HB1 := hide (HB00.out.trans (hb.mono HB00.out.size))
      clear hb p0 p1 p2 lp
      obtain ⟨p0, p1, p2, lp⟩ := cells3 HP.out
      obtain ⟨z0, z1, z2, lz⟩ := cells3 HZ.out
      have hzf := HZ.out.frozen
      go_wp2
      refine retG2 Tryz.results42 rfl rfl rfl (put3 HZ.out _ _ _) ⟨A, cap, ?_, ?_, below_put3 HB1.out (by omega) _ _ _⟩
      · rw [HGE.out.1, HGE.out.2]; rfl
      · rw [HGE.out.1]
        exact HL1.out.put3 HZ.out (by decide) (by decide) _ _ _
  · have HD : Hid (decide (hasG R R0) = false) := by unfold Hid; simp [hr]
    have HGE : Hid (layG g R0 zs C = g ∧ layOk g R0 zs C = false) := by
      have : layOk g R0 zs C = false := by unfold layOk; rw [HLen.out]; simp [hr]
      unfold Hid layG
      rw [this]
      simp
    clear hr
    go_enter Tryz.func42, Tryz.ntmps42
    go_wp2_with fail
    rw [HW0.out]
    refine (rhas_any A R cap g.row g.col R0 W0).mono ?_
    rintro e W1 ⟨rfl, hb⟩
    rw [HD.out]
    have HL1 := hide (HL.out.below hb)
    have HP := hide (HX0.out.later hb)
    have HZ := hide (HX1.out.later hb)
    have HB1 := hide (HB0.out.trans (hb.mono HB0.out.size))
    clear hb p0 p1 p2 lp
    obtain ⟨p0, p1, p2, lp⟩ := cells3 HP.out
    obtain ⟨z0, z1, z2, lz⟩ := cells3 HZ.out
    have hzf := HZ.out.frozen
    go_wp2
    refine retG2 Tryz.results42 rfl rfl rfl (put3 HZ.out _ _ _) ⟨A, cap, ?_, ?_, below_put3 HB1.out (by omega) _ _ _⟩
    · rw [HGE.out.1, HGE.out.2]; rfl
    · rw [HGE.out.1]
      exact HL1.out.put3 HZ.out (by decide) (by decide) _ _ _
set_option maxHeartbeats 4000000 in
theorem rgmove_any (A : Option Addr) (R C cap : Nat) (g : Gd) (w : World) (h : Lns w A g.ls) (hR : g.ls.length = R) (hR1 : 1 ≤ R) (hR2 : R ≤ 512) (hC0 : 1 ≤ C) (hC2 : C ≤ 512) (hc0 : (lAt g.ls 0).length = C) (r c : Int) :
    Calls Tryz.prog 46 #[.agg #[.slice A R cap, .int .i64 (g.row : Int), .int .i64 (g.col : Int)], .int .i64 r, .int .i64 c] w (GaveD R (moveG g r c C) w) := by
  obtain ⟨W0, hW0⟩ : ∃ W0, (w.alloc (.cells #[.slice A R cap, .int .i64 (g.row : Int), .int .i64 (g.col : Int)] 32)).alloc (.cells #[.slice none 0 0, .int .i64 0, .int .i64 0] 32) = W0 := ⟨_, rfl⟩
  have HB0 : Hid (Below w.heap.size w W0) := by unfold Hid; rw [← hW0]; exact two_new w _ _ [.slice A R cap, .int .i64 (g.row : Int), .int .i64 (g.col : Int)] [.slice none 0 0, .int .i64 0, .int .i64 0]
  have HX0 : Hid (Whole W0 (w.heap.size) 32 [.slice A R cap, .int .i64 (g.row : Int), .int .i64 (g.col : Int)]) := by unfold Hid; rw [← hW0]; exact ((Whole.new w 32 [.slice A R cap, .int .i64 (g.row : Int), .int .i64 (g.col : Int)]).alloc _)
  have HX1 : Hid (Whole W0 (w.heap.size + 1) 32 [.slice none 0 0, .int .i64 0, .int .i64 0]) := by unfold Hid; rw [← hW0]; exact (whole_snd w _ 32 [.slice none 0 0, .int .i64 0, .int .i64 0])
  have HW0 := hide hW0
  clear hW0
  have HL := hide (h.below HB0.out)
  have HLen := hide hR
  have HC0 := hide hc0
  obtain ⟨p0, p1, p2, lp⟩ := cells3 HX0.out
  have e1 : ((R : Int) == 0) = false := by simp; omega
  obtain ⟨r', hr'⟩ : ∃ r', nearN r R = r' := ⟨_, rfl⟩
  obtain ⟨c', hc'⟩ : ∃ c', nearN c C = c' := ⟨_, rfl⟩
  have HRN := hide hr'
  have HCN := hide hc'
  have HE : Hid (moveG g r c C = { g with row := r', col := c' }) := by unfold Hid moveG; rw [hR, hr', hc']
  clear hr' hc' h hR hc0
  go_enter Tryz.func46, Tryz.ntmps46
  go_wp2
  rw [HW0.out]
  refine wp_region_chainL (fun w' => Below W0.heap.size W0 w') 10 [(0, 0), (0, 5), (0, 1), (0, 2), (0, 3), (0, 6), (1, 4), (2, 9), (1, 7), (1, 8), (3, 10), (3, 11), (3, 12)] (by kernel_rfl) (by kernel_rfl) (by kernel_rfl) (fun _ _ _ _ _ h => h) ?_ ?_
  · exact (Below.refl _ _).drewN 1
  refine chainL_take (v := ?_) (by simp only [List.getElem?_toArray, List.getElem?_cons_zero]; rfl) (by rfl) (fun w hS => ?_) ?_
  rotate_left
  · go_simp <;> with_reducible rfl
  simp only [Act.put, List.setIfInBounds_toArray, List.set_cons_zero, List.set_cons_succ]
  refine chainL_take (v := ?_) (by simp only [List.getElem?_toArray, List.getElem?_cons_zero, List.getElem?_cons_succ]; rfl) (by rfl) (fun w hS => ?_) ?_
  rotate_left
  · go_simp <;> with_reducible rfl
  simp only [Act.put, List.setIfInBounds_toArray, List.set_cons_zero, List.set_cons_succ]
  refine chainL_take (v := ?_) (by simp only [List.getElem?_toArray, List.getElem?_cons_zero, List.getElem?_cons_succ]; rfl) (by rfl) (fun w hS => ?_) ?_
  rotate_left
  · go_simp <;> with_reducible rfl
  simp only [Act.put, List.setIfInBounds_toArray, List.set_cons_zero, List.set_cons_succ]
  refine chainL_take (v := ?_) (by simp only [List.getElem?_toArray, List.getElem?_cons_zero, List.getElem?_cons_succ]; rfl) (by rfl) (fun w hS => ?_) ?_
  rotate_left
  · obtain ⟨e0, e1, e2, -⟩ := cells3 (HX0.out.later hS); go_simp <;> with_reducible rfl
  simp only [Act.put, List.setIfInBounds_toArray, List.set_cons_zero, List.set_cons_succ]
  refine chainL_take (v := ?_) (by simp only [List.getElem?_toArray, List.getElem?_cons_zero, List.getElem?_cons_succ]; rfl) (by rfl) (fun w hS => ?_) ?_
  rotate_left
  · go_simp <;> with_reducible rfl
  simp only [Act.put, List.setIfInBounds_toArray, List.set_cons_zero, List.set_cons_succ]
  refine chainL_take (v := ?_) (by simp only [List.getElem?_toArray, List.getElem?_cons_zero, List.getElem?_cons_succ]; rfl) (by rfl) (fun w hS => ?_) ?_
  rotate_left
  · obtain ⟨e0, e1, e2, -⟩ := cells3 (HX0.out.later hS); go_simp <;> with_reducible rfl
  simp only [Act.put, List.setIfInBounds_toArray, List.set_cons_zero, List.set_cons_succ]
  refine chainL_alone (by simp only [List.getElem?_toArray, List.getElem?_cons_zero, List.getElem?_cons_succ]; rfl) ?_
  intro K hK
  go_wp2_with fail
  refine (bring_any r R hR1 hR2 _).mono ?_
  rintro e k1 ⟨rfl, rfl⟩
  rw [HRN.out]
  go_wp2
  refine hK.out _ _ ((Below.refl _ _).drewN 1) ?_
  clear hK K
  refine chainL_pure (v := ?_) (by simp only [List.getElem?_toArray, List.getElem?_cons_zero, List.getElem?_cons_succ]; rfl) (by rfl) (fun w => ?_) ?_
  rotate_left
  · go_simp <;> with_reducible rfl
  simp only [Act.put, List.setIfInBounds_toArray, List.set_cons_zero, List.set_cons_succ]
  refine chainL_alone (by simp only [List.getElem?_toArray, List.getElem?_cons_zero, List.getElem?_cons_succ]; rfl) ?_
  intro K hK
  go_wp2_with fail
  refine (rgcols_any A R cap C g.row g.col g.ls _ (HL.out.drewN 1) HLen.out hR1 HC0.out).mono ?_
  rintro e k1 ⟨rfl, hb⟩
  have Bk1 : Below W0.heap.size W0 k1 := ((Below.refl W0.heap.size W0).drewN 1).trans hb
  clear hb
  go_wp2
  refine hK.out _ _ (Bk1) ?_
  clear hK K
  refine chainL_alone (by simp only [List.getElem?_toArray, List.getElem?_cons_zero, List.getElem?_cons_succ]; rfl) ?_
  intro K hK
  go_wp2_with fail
  refine (bring_any c C hC0 hC2 _).mono ?_
  rintro e k2 ⟨rfl, rfl⟩
  rw [HCN.out]
  clear p0 p1 p2 lp
  have HP1 := hide (HX0.out.later Bk1)
  obtain ⟨p0, p1, p2, lp⟩ := cells3 HP1.out
  have hpf := HP1.out.frozen
  go_wp2
  refine hK.out _ _ (Bk1) ?_
  clear hK K
  refine chainL_late (by simp only [List.getElem?_toArray, List.getElem?_cons_zero, List.getElem?_cons_succ]; rfl) ?_
  intro K hK
  go_wp2
  refine hK.out _ _ ?_
  clear hK K
  refine chainL_late (by simp only [List.getElem?_toArray, List.getElem?_cons_zero, List.getElem?_cons_succ]; rfl) ?_
  intro K hK
  go_wp2
  refine hK.out _ _ ?_
  clear hK K
  refine chainL_late (by simp only [List.getElem?_toArray, List.getElem?_cons_zero, List.getElem?_cons_succ]; rfl) ?_
  intro K hK
  go_wp2
  refine hK.out _ _ ?_
  clear hK K
  refine chainL_nil ?_
  have HP2 : Hid (Whole ((k1.setCell ⟨w.heap.size, 1, none⟩ (.int .i64 (r' : Int))).setCell ⟨w.heap.size, 2, none⟩ (.int .i64 (c' : Int))) w.heap.size 32 [.slice A R cap, .int .i64 (r' : Int), .int .i64 (c' : Int)]) := by unfold Hid; exact (HP1.out.put 1 _).put 2 _
  obtain ⟨W3, hW3⟩ : ∃ W3, (k1.setCell ⟨w.heap.size, 1, none⟩ (.int .i64 (r' : Int))).setCell ⟨w.heap.size, 2, none⟩ (.int .i64 (c' : Int)) = W3 := ⟨_, rfl⟩
  have HO3 : Hid (Only w.heap.size k1 W3) := by unfold Hid; rw [← hW3]; exact (Only.put _ _).trans (Only.put _ _)
  have HL3 : Hid (Lns W3 A g.ls) := by
    unfold Hid
    rw [← hW3]
    exact (HL.out.below Bk1).keep ((Stays.put HP1.out (by decide)).trans (Stays.put (HP1.out.put 1 _) (by decide))) ((Stays.put HP1.out (by decide)).trans (Stays.put (HP1.out.put 1 _) (by decide)))
  rw [hW3] at HP2 ⊢
  have HZ3 := hide ((HX1.out.later Bk1).far HO3.out (by omega))
  have HB3 := hide (HO3.out.below (HB0.out.trans (Bk1.mono HB0.out.size)) (Nat.le_trans HB0.out.size Bk1.size) (Nat.le_refl _))
  clear hW3 p0 p1 p2 lp hpf Bk1
  obtain ⟨p0, p1, p2, lp⟩ := cells3 HP2.out
  obtain ⟨z0, z1, z2, lz⟩ := cells3 HZ3.out
  have hzf := HZ3.out.frozen
  go_wp2
  refine retG Tryz.results46 rfl rfl (put3 HZ3.out _ _ _) ⟨A, cap, ?_, ?_, below_put3 HB3.out (by omega) _ _ _⟩
  · rw [HE.out]
  · rw [HE.out]
    exact HL3.out.put3 HZ3.out (by decide) (by decide) _ _ _
end Go.Proofs.YtiifeniijcnahaaGreatDoor
