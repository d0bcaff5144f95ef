/-
  Contracts: the document's grid with a cell put, a mark more.
-/
import Derived.Test.YtiifeniijcnahaaGreatDoorGRef2
namespace Go.Proofs.YtiifeniijcnahaaGreatDoor
set_option maxRecDepth 100000
open Go.ChangeShapes Go.WideShapes Go.ChangeAt Go.RowKit
set_option linter.unusedVariables false

set_option maxHeartbeats 4000000 in
theorem rgput_any (A : Option Addr) (R C cap : Nat) (g : Gd) (w : World) (h : Lns w A g.ls) (hok : GOk g R C) (R0 at_ r m x : Int) (d f y b : Nat) (hd : d < 256) (ha : -9223372036854775808 ≤ at_ ∧ at_ < 9223372036854775808) :
    Calls Tryz.prog 37 #[.agg #[.slice A R cap, .int .i64 (g.row : Int), .int .i64 (g.col : Int)], .int .i64 R0, .int .i64 at_, .agg #[.int .i64 r, .int .i64 m, .int .i64 x, .int .u8 (d : Int), .int .u8 (f : Int), .int .u8 (y : Int), .int .u8 (b : Int)]] w (GaveD2 R (putG g R0 at_ ⟨r, m, x, d, ⟨f, y, b⟩⟩) (putGOk g R0 at_ ⟨r, m, x, d, ⟨f, y, b⟩⟩) w) := by
  obtain ⟨W0, hW0⟩ : ∃ W0, ((w.alloc (.cells #[.slice A R cap, .int .i64 (g.row : Int), .int .i64 (g.col : Int)] 32)).alloc (.cells #[.int .i64 r, .int .i64 m, .int .i64 x, .int .u8 (d : Int), .int .u8 (f : Int), .int .u8 (y : Int), .int .u8 (b : Int)] 52)).alloc (.cells #[.slice none 0 0, .int .i64 0, .int .i64 0] 32) = W0 := ⟨_, rfl⟩
  have HB0 : Hid (Below w.heap.size w W0) := by unfold Hid; rw [← hW0]; exact three_new w _ _ _
  have HX0 : Hid (Whole W0 (w.heap.size) 32 [.slice A R cap, .int .i64 (g.row : Int), .int .i64 (g.col : Int)]) := by unfold Hid; rw [← hW0]; exact (((Whole.new w 32 [.slice A R cap, .int .i64 (g.row : Int), .int .i64 (g.col : Int)]).alloc _).alloc _)
  have HX1 : Hid (Whole W0 (w.heap.size + 1) 52 [.int .i64 r, .int .i64 m, .int .i64 x, .int .u8 (d : Int), .int .u8 (f : Int), .int .u8 (y : Int), .int .u8 (b : Int)]) := by unfold Hid; rw [← hW0]; exact ((whole_snd w _ 52 [.int .i64 r, .int .i64 m, .int .i64 x, .int .u8 (d : Int), .int .u8 (f : Int), .int .u8 (y : Int), .int .u8 (b : Int)]).alloc _)
  have HX2 : Hid (Whole W0 (w.heap.size + 2) 32 [.slice none 0 0, .int .i64 0, .int .i64 0]) := by unfold Hid; rw [← hW0]; exact (whole_thd w _ _ 32 [.slice none 0 0, .int .i64 0, .int .i64 0])
  have HW0 := hide hW0
  clear hW0
  have HL := hide (h.below HB0.out)
  have HGO := hide hok
  have hR1 := hok.r1
  have hR2 := hok.r2
  have hC0 := hok.c1
  have hC2 := hok.c2
  have hC1 : C ≤ 1000000 := by omega
  have HLen := hide hok.len
  obtain ⟨p0, p1, p2, lp⟩ := cells3 HX0.out
  obtain ⟨z0, z1, z2, lz⟩ := cells3 HX2.out
  have hzf := HX2.out.frozen
  have HA := hide ha
  clear h hok ha
  by_cases hr : hasG R R0
  · obtain ⟨q, hq⟩ : ∃ q : Nat, R0 = (q : Int) := ⟨R0.toNat, by unfold hasG at hr; omega⟩
    subst hq
    have hqR : q < R := by unfold hasG at hr; omega
    clear hr
    have HGE : Hid (putG g (q : Int) at_ ⟨r, m, x, d, ⟨f, y, b⟩⟩ = { g with ls := g.ls.set q (putC (lAt g.ls q) at_ ⟨r, m, x, d, ⟨f, y, b⟩⟩) }) := by unfold Hid putG; rw [if_pos (by unfold hasG; rw [HLen.out]; omega), Int.toNat_natCast]
    have HGK : Hid (putGOk g (q : Int) at_ ⟨r, m, x, d, ⟨f, y, b⟩⟩ = putOk (lAt g.ls q) at_ ⟨r, m, x, d, ⟨f, y, b⟩⟩) := by unfold Hid putGOk; rw [HLen.out, hasG_in hqR, Int.toNat_natCast, Bool.true_and]
    obtain ⟨X, hX⟩ : ∃ X, putC (lAt g.ls q) at_ ⟨r, m, x, d, ⟨f, y, b⟩⟩ = X := ⟨_, rfl⟩
    obtain ⟨ok, hok⟩ : ∃ ok, putOk (lAt g.ls q) at_ ⟨r, m, x, d, ⟨f, y, b⟩⟩ = ok := ⟨_, rfl⟩
    rw [hX] at HGE
    rw [hok] at HGK
    have HNr := hide ((HGO.out.each q hqR).1)
    have HXL : Hid (X.length = C) := by unfold Hid; rw [← hX, put_len, HNr.out]
    have HXX := hide hX
    have HOK := hide hok
    clear hX hok
    go_enter Tryz.func37, Tryz.ntmps37
    go_wp2_with fail
    rw [HW0.out]
    refine (rhas_any A R cap g.row g.col q W0).mono ?_
    rintro e W1 ⟨rfl, hb⟩
    rw [hasG_in hqR]
    have HL1 := hide (HL.out.below hb)
    have HP := hide (HX0.out.later hb)
    have HZ := hide (HX2.out.later hb)
    have HY := hide (HX1.out.later hb)
    have HB1 := hide (HB0.out.trans (hb.mono HB0.out.size))
    clear hb p0 p1 p2 lp z0 z1 z2 lz hzf
    obtain ⟨b0, A', c', rfl, lb, hcell, -, hcels, hA'⟩ := HL1.out.at (i := q) (by rw [HLen.out]; exact hqR)
    rw [HNr.out] at hcell
    have HCr := hide hcels
    clear hcels
    obtain ⟨p0, p1, p2, lp⟩ := cells3 HP.out
    obtain ⟨a0, a1, a2, a3, a4, a5, a6, la⟩ := cells7 HY.out
    go_wp2
    refine wp_region_chainL (fun w' => Below W1.heap.size W1 w') 12 [(0, 2), (0, 5), (0, 0), (0, 1), (0, 3), (0, 4), (1, 6), (1, 7), (1, 8), (2, 9), (2, 11), (1, 10), (3, 12)] (by kernel_rfl) (by kernel_rfl) (by kernel_rfl) (fun _ _ _ _ _ h => h) ?_ ?_
    · exact (Below.refl _ _).drewN 1
    refine chainL_take (v := ?_) (by simp only [List.getElem?_toArray, List.getElem?_cons_zero, List.getElem?_cons_succ]; rfl) (by rfl) (fun w hS => ?_) ?_
    rotate_left
    · go_simp <;> with_reducible rfl
    simp only [Act.put, List.setIfInBounds_toArray, List.set_cons_zero, List.set_cons_succ]
    refine chainL_take (v := ?_) (by simp only [List.getElem?_toArray, List.getElem?_cons_zero, List.getElem?_cons_succ]; rfl) (by rfl) (fun w hS => ?_) ?_
    rotate_left
    · go_simp <;> with_reducible rfl
    simp only [Act.put, List.setIfInBounds_toArray, List.set_cons_zero, List.set_cons_succ]
    refine chainL_take (v := ?_) (by simp only [List.getElem?_toArray, List.getElem?_cons_zero]; rfl) (by rfl) (fun w hS => ?_) ?_
    rotate_left
    · go_simp <;> with_reducible rfl
    simp only [Act.put, List.setIfInBounds_toArray, List.set_cons_zero, List.set_cons_succ]
    refine chainL_take (v := ?_) (by simp only [List.getElem?_toArray, List.getElem?_cons_zero, List.getElem?_cons_succ]; rfl) (by rfl) (fun w hS => ?_) ?_
    rotate_left
    · obtain ⟨e0, e1, e2, -⟩ := cells3 (HP.out.later hS); go_simp <;> with_reducible rfl
    simp only [Act.put, List.setIfInBounds_toArray, List.set_cons_zero, List.set_cons_succ]
    refine chainL_take (v := ?_) (by simp only [List.getElem?_toArray, List.getElem?_cons_zero, List.getElem?_cons_succ]; rfl) (by rfl) (fun w hS => ?_) ?_
    rotate_left
    · go_simp <;> with_reducible rfl
    simp only [Act.put, List.setIfInBounds_toArray, List.set_cons_zero, List.set_cons_succ]
    refine chainL_take (v := ?_) (by simp only [List.getElem?_toArray, List.getElem?_cons_zero, List.getElem?_cons_succ]; rfl) (by rfl) (fun w hS => ?_) ?_
    rotate_left
    · have f0 : w.cell? ⟨b0, q, none⟩ = some (.slice A' C c') := (hS.cell (p := ⟨b0, q, none⟩) lb).trans hcell; go_simp <;> with_reducible rfl
    simp only [Act.put, List.setIfInBounds_toArray, List.set_cons_zero, List.set_cons_succ]
    refine chainL_alone (by simp only [List.getElem?_toArray, List.getElem?_cons_zero, List.getElem?_cons_succ]; rfl) ?_
    intro K hK
    go_wp2
    refine hK.out _ _ ((Below.refl _ _).drewN 1) ?_
    clear hK K
    refine chainL_alone (by simp only [List.getElem?_toArray, List.getElem?_cons_zero, List.getElem?_cons_succ]; rfl) ?_
    intro K hK
    go_wp2_with fail
    refine (rput_v at_ r m x d f y b HA.out HXX.out HOK.out HCr.out.drew HNr.out hC1 hd).mono ?_
    rintro e k1 ⟨A1, c1, rfl, hc1, hb⟩
    have HC1 := hide hc1
    clear hc1
    have Bk1 : Below W1.heap.size W1 k1 := ((Below.refl W1.heap.size W1).drewN 1).trans hb
    clear hb
    go_wp2
    refine hK.out _ _ (Bk1) ?_
    clear hK K
    refine chainL_alone (by simp only [List.getElem?_toArray, List.getElem?_cons_zero, List.getElem?_cons_succ]; rfl) ?_
    intro K hK
    go_wp2
    refine hK.out _ _ (Bk1) ?_
    clear hK K
    refine chainL_pure (v := ?_) (by simp only [List.getElem?_toArray, List.getElem?_cons_zero, List.getElem?_cons_succ]; rfl) (by rfl) (fun w => ?_) ?_
    rotate_left
    · go_simp <;> with_reducible rfl
    simp only [Act.put, List.setIfInBounds_toArray, List.set_cons_zero, List.set_cons_succ]
    refine chainL_pure (v := ?_) (by simp only [List.getElem?_toArray, List.getElem?_cons_zero, List.getElem?_cons_succ]; rfl) (by rfl) (fun w => ?_) ?_
    rotate_left
    · go_simp <;> with_reducible rfl
    simp only [Act.put, List.setIfInBounds_toArray, List.set_cons_zero, List.set_cons_succ]
    refine chainL_alone (by simp only [List.getElem?_toArray, List.getElem?_cons_zero, List.getElem?_cons_succ]; rfl) ?_
    intro K hK
    go_wp2
    refine hK.out _ _ (Bk1) ?_
    clear hK K
    refine chainL_late (by simp only [List.getElem?_toArray, List.getElem?_cons_zero, List.getElem?_cons_succ]; rfl) ?_
    intro K hK
    go_wp2
    refine hK.out _ _ ?_
    clear hK K
    refine chainL_nil ?_
    have HBk := hide Bk1
    clear Bk1 a0 a1 a2 a3 a4 a5 a6 la
    have HL2 := hide (HL1.out.below HBk.out)
    have HP2 := hide (HP.out.later HBk.out)
    have HZ2 := hide (HZ.out.later HBk.out)
    have HB2 := hide (HB1.out.trans (HBk.out.mono HB1.out.size))
    clear p0 p1 p2 lp
    obtain ⟨p0, p1, p2, lp⟩ := cells3 HP2.out
    go_wp2_with fail
    refine (with7_any _ R cap g.row g.col g.ls k1 HL2.out HLen.out hR2 q hqR A1 C c1 X HC1.out HXL.out hC0 hC1).mono ?_
    rintro e k2 ⟨A2, cap2, rfl, hl, hb⟩
    have HL3 := hide hl
    have HZ3 := hide (HZ2.out.later hb)
    have HB3 := hide (HB2.out.trans (hb.mono HB2.out.size))
    clear hl hb p0 p1 p2 lp
    obtain ⟨z0, z1, z2, lz⟩ := cells3 HZ3.out
    have hzf := HZ3.out.frozen
    go_wp2
    refine retG2 Tryz.results37 rfl rfl rfl (put3 HZ3.out _ _ _) ⟨A2, cap2, ?_, ?_, below_put3 HB3.out (by omega) _ _ _⟩
    · rw [HGE.out, HGK.out]; rfl
    · rw [HGE.out]
      exact HL3.out.put3 HZ3.out (by decide) (by decide) _ _ _
  · have HD : Hid (decide (hasG R R0) = false) := by unfold Hid; simp [hr]
    have HGE : Hid (putG g R0 at_ ⟨r, m, x, d, ⟨f, y, b⟩⟩ = g ∧ putGOk g R0 at_ ⟨r, m, x, d, ⟨f, y, b⟩⟩ = false) := by
      unfold Hid putG putGOk
      rw [HLen.out, if_neg hr]
      simp [hr]
    clear hr
    go_enter Tryz.func37, Tryz.ntmps37
    go_wp2_with fail
    rw [HW0.out]
    refine (rhas_any A R cap g.row g.col R0 W0).mono ?_
    rintro e W1 ⟨rfl, hb⟩
    rw [HD.out]
    have HL1 := hide (HL.out.below hb)
    have HP := hide (HX0.out.later hb)
    have HZ := hide (HX2.out.later hb)
    have HB1 := hide (HB0.out.trans (hb.mono HB0.out.size))
    clear hb p0 p1 p2 lp z0 z1 z2 lz hzf
    obtain ⟨p0, p1, p2, lp⟩ := cells3 HP.out
    obtain ⟨z0, z1, z2, lz⟩ := cells3 HZ.out
    have hzf := HZ.out.frozen
    go_wp2
    refine retG2 Tryz.results37 rfl rfl rfl (put3 HZ.out _ _ _) ⟨A, cap, ?_, ?_, below_put3 HB1.out (by omega) _ _ _⟩
    · rw [HGE.out.1, HGE.out.2]; rfl
    · rw [HGE.out.1]
      exact HL1.out.put3 HZ.out (by decide) (by decide) _ _ _
set_option maxHeartbeats 4000000 in
theorem rgmark_any (A : Option Addr) (R C cap : Nat) (g : Gd) (w : World) (h : Lns w A g.ls) (hok : GOk g R C) (R0 at_ y : Int) :
    Calls Tryz.prog 38 #[.agg #[.slice A R cap, .int .i64 (g.row : Int), .int .i64 (g.col : Int)], .int .i64 R0, .int .i64 at_, .int .i64 y] w (GaveD2 R (markG g R0 at_ y) (markGOk g R0 at_ y) w) := by
  obtain ⟨W0, hW0⟩ : ∃ W0, (w.alloc (.cells #[.slice A R cap, .int .i64 (g.row : Int), .int .i64 (g.col : Int)] 32)).alloc (.cells #[.slice none 0 0, .int .i64 0, .int .i64 0] 32) = W0 := ⟨_, rfl⟩
  have HB0 : Hid (Below w.heap.size w W0) := by unfold Hid; rw [← hW0]; exact two_new w _ _ [.slice A R cap, .int .i64 (g.row : Int), .int .i64 (g.col : Int)] [.slice none 0 0, .int .i64 0, .int .i64 0]
  have HX0 : Hid (Whole W0 (w.heap.size) 32 [.slice A R cap, .int .i64 (g.row : Int), .int .i64 (g.col : Int)]) := by unfold Hid; rw [← hW0]; exact ((Whole.new w 32 [.slice A R cap, .int .i64 (g.row : Int), .int .i64 (g.col : Int)]).alloc _)
  have HX1 : Hid (Whole W0 (w.heap.size + 1) 32 [.slice none 0 0, .int .i64 0, .int .i64 0]) := by unfold Hid; rw [← hW0]; exact (whole_snd w _ 32 [.slice none 0 0, .int .i64 0, .int .i64 0])
  have HW0 := hide hW0
  clear hW0
  have HL := hide (h.below HB0.out)
  have HGO := hide hok
  have hR1 := hok.r1
  have hR2 := hok.r2
  have hC0 := hok.c1
  have hC2 := hok.c2
  have hC1 : C ≤ 1000000 := by omega
  have HLen := hide hok.len
  obtain ⟨p0, p1, p2, lp⟩ := cells3 HX0.out
  obtain ⟨z0, z1, z2, lz⟩ := cells3 HX1.out
  have hzf := HX1.out.frozen
  clear h hok
  by_cases hr : hasG R R0
  · obtain ⟨q, hq⟩ : ∃ q : Nat, R0 = (q : Int) := ⟨R0.toNat, by unfold hasG at hr; omega⟩
    subst hq
    have hqR : q < R := by unfold hasG at hr; omega
    clear hr
    have HGE : Hid (markG g (q : Int) at_ y = { g with ls := g.ls.set q ((lmarkC (lAt g.ls q) at_ y).1) }) := by unfold Hid markG; rw [if_pos (by unfold hasG; rw [HLen.out]; omega), Int.toNat_natCast]
    have HGK : Hid (markGOk g (q : Int) at_ y = (lmarkC (lAt g.ls q) at_ y).2) := by unfold Hid markGOk; rw [HLen.out, hasG_in hqR, Int.toNat_natCast, Bool.true_and]
    obtain ⟨X, hX⟩ : ∃ X, (lmarkC (lAt g.ls q) at_ y).1 = X := ⟨_, rfl⟩
    obtain ⟨ok, hok⟩ : ∃ ok, (lmarkC (lAt g.ls q) at_ y).2 = ok := ⟨_, rfl⟩
    rw [hX] at HGE
    rw [hok] at HGK
    have HNr := hide ((HGO.out.each q hqR).1)
    have HXL : Hid (X.length = C) := by unfold Hid; rw [← hX, lmark_len, HNr.out]
    have HXX : Hid (lmarkC (lAt g.ls q) at_ y = (X, ok)) := by unfold Hid; rw [← hX, ← hok]
    clear hX hok
    go_enter Tryz.func38, Tryz.ntmps38
    go_wp2_with fail
    rw [HW0.out]
    refine (rhas_any A R cap g.row g.col q W0).mono ?_
    rintro e W1 ⟨rfl, hb⟩
    rw [hasG_in hqR]
    have HL1 := hide (HL.out.below hb)
    have HP := hide (HX0.out.later hb)
    have HZ := hide (HX1.out.later hb)
    have HB1 := hide (HB0.out.trans (hb.mono HB0.out.size))
    clear hb p0 p1 p2 lp z0 z1 z2 lz hzf
    obtain ⟨b0, A', c', rfl, lb, hcell, -, hcels, hA'⟩ := HL1.out.at (i := q) (by rw [HLen.out]; exact hqR)
    rw [HNr.out] at hcell
    have HCr := hide hcels
    clear hcels
    obtain ⟨p0, p1, p2, lp⟩ := cells3 HP.out
    go_wp2_with fail
    refine (rlmark_v at_ y HXX.out HCr.out HNr.out hC1 hA').mono ?_
    rintro e k1 ⟨A1, c1, rfl, hc1, hb⟩
    have HC1 := hide hc1
    clear hc1
    have HBk := hide hb
    clear hb
    have HL2 := hide (HL1.out.below HBk.out)
    have HP2 := hide (HP.out.later HBk.out)
    have HZ2 := hide (HZ.out.later HBk.out)
    have HB2 := hide (HB1.out.trans (HBk.out.mono HB1.out.size))
    clear p0 p1 p2 lp
    obtain ⟨p0, p1, p2, lp⟩ := cells3 HP2.out
    go_wp2_with fail
    refine (with7_any _ R cap g.row g.col g.ls k1 HL2.out HLen.out hR2 q hqR A1 C c1 X HC1.out HXL.out hC0 hC1).mono ?_
    rintro e k2 ⟨A2, cap2, rfl, hl, hb⟩
    have HL3 := hide hl
    have HZ3 := hide (HZ2.out.later hb)
    have HB3 := hide (HB2.out.trans (hb.mono HB2.out.size))
    clear hl hb p0 p1 p2 lp
    obtain ⟨z0, z1, z2, lz⟩ := cells3 HZ3.out
    have hzf := HZ3.out.frozen
    go_wp2
    refine retG2 Tryz.results38 rfl rfl rfl (put3 HZ3.out _ _ _) ⟨A2, cap2, ?_, ?_, below_put3 HB3.out (by omega) _ _ _⟩
    · rw [HGE.out, HGK.out]; rfl
    · rw [HGE.out]
      exact HL3.out.put3 HZ3.out (by decide) (by decide) _ _ _
  · have HD : Hid (decide (hasG R R0) = false) := by unfold Hid; simp [hr]
    have HGE : Hid (markG g R0 at_ y = g ∧ markGOk g R0 at_ y = false) := by
      unfold Hid markG markGOk
      rw [HLen.out, if_neg hr]
      simp [hr]
    clear hr
    go_enter Tryz.func38, Tryz.ntmps38
    go_wp2_with fail
    rw [HW0.out]
    refine (rhas_any A R cap g.row g.col R0 W0).mono ?_
    rintro e W1 ⟨rfl, hb⟩
    rw [HD.out]
    have HL1 := hide (HL.out.below hb)
    have HP := hide (HX0.out.later hb)
    have HZ := hide (HX1.out.later hb)
    have HB1 := hide (HB0.out.trans (hb.mono HB0.out.size))
    clear hb p0 p1 p2 lp z0 z1 z2 lz hzf
    obtain ⟨p0, p1, p2, lp⟩ := cells3 HP.out
    obtain ⟨z0, z1, z2, lz⟩ := cells3 HZ.out
    have hzf := HZ.out.frozen
    go_wp2
    refine retG2 Tryz.results38 rfl rfl rfl (put3 HZ.out _ _ _) ⟨A, cap, ?_, ?_, below_put3 HB1.out (by omega) _ _ _⟩
    · rw [HGE.out.1, HGE.out.2]; rfl
    · rw [HGE.out.1]
      exact HL1.out.put3 HZ.out (by decide) (by decide) _ _ _
end Go.Proofs.YtiifeniijcnahaaGreatDoor
