/-
  Contracts: the document's cell of a place, whether its grid is right; whether a program's grid is the document's; a count.
-/
import Derived.Test.YtiifeniijcnahaaGreatDoorGLoop
namespace Go.Proofs.YtiifeniijcnahaaGreatDoor
set_option maxRecDepth 100000
open Go.ChangeShapes Go.WideShapes Go.ChangeAt Go.RowKit
set_option linter.unusedVariables false

theorem count_any (ok : Bool) (n : Int) (w : World) : Calls Tryz.prog 18 #[.bool ok, .int .i64 n] w fun e w' => e = .returned (.int .i64 (if ok = true then n else 0)) ∧ w = w' := by
  cases ok
  case false =>
    go_enter Tryz.func18, Tryz.ntmps18
    go_wp2
    go_ret
    exact ⟨rfl, rfl⟩
  case true =>
    go_enter Tryz.func18, Tryz.ntmps18
    go_wp2
    go_ret
    exact ⟨rfl, rfl⟩
set_option maxHeartbeats 2000000 in
theorem rgright_yes (A : Option Addr) (R C cap : Nat) (g : Gd) (w : World) (h : Lns w A g.ls) (hok : GOk g R C) : Calls Tryz.prog 13 #[.agg #[.slice A R cap, .int .i64 (g.row : Int), .int .i64 (g.col : Int)]] w (Said true w) := by
  obtain ⟨W0, hW0⟩ : ∃ W0, w.alloc (.cells #[.slice A R cap, .int .i64 (g.row : Int), .int .i64 (g.col : Int)] 32) = W0 := ⟨_, rfl⟩
  have HB0 : Hid (Below w.heap.size w W0) := by unfold Hid; rw [← hW0]; exact new1W _ _
  have HX0 : Hid (Whole W0 (w.heap.size) 32 [.slice A R cap, .int .i64 (g.row : Int), .int .i64 (g.col : Int)]) := by unfold Hid; rw [← hW0]; exact (Whole.new w 32 [.slice A R cap, .int .i64 (g.row : Int), .int .i64 (g.col : Int)])
  have HW0 := hide hW0
  clear hW0
  have HL := hide h
  have hR1 := hok.r1
  have hR2 := hok.r2
  have hC2 := hok.c2
  have HGO := hide hok
  have HLen := hide hok.len
  clear h hok
  go_enter Tryz.func13, Tryz.ntmps13
  go_wp2
  rw [HW0.out]
  go_loopw [3] (fun i wr => ∃ k : Nat, k ≤ R ∧ i = .int .i64 k ∧ Below W0.heap.size W0 wr) (fun i _ => R - (intOf i).toNat)
  case atStart => exact ⟨0, Nat.zero_le _, rfl, Below.refl _ _⟩
  case round =>
    obtain ⟨k, hk, rfl, hb⟩ := hrel
    have HB := hide hb
    clear hb
    obtain ⟨p0, p1, p2, lp⟩ := cells3 (HX0.out.later HB.out)
    by_cases hlt : k < R
    · obtain ⟨b1, A1, c1, rfl, lb1, hc1, -, hr1, -⟩ := (HL.out.below (HB0.out.trans (HB.out.mono HB0.out.size))).at (i := k) (by rw [HLen.out]; exact hlt)
      have HR1 := hide hr1
      have HNr := hide (HGO.out.each k hlt).1
      rw [HNr.out] at hc1
      clear hr1
      have HRt := hide (HGO.out.each k hlt).2.1
      go_wp2_with fail
      refine (rlright_any A1 C c1 _ wr HR1.out HNr.out (by omega) (HGO.out.each k hlt).2.2).mono ?_
      rintro e k1 ⟨rfl, hb⟩
      rw [HRt.out]
      have HB1 := hide (HB.out.trans (hb.mono HB.out.size))
      clear hb p0 p1 p2 lp hc1 lb1
      go_wp2
      go_roundw
      case rel => exact ⟨k + 1, by omega, by go_num, HB1.out⟩
      case measure => simp [intOf]; omega
    · go_wp2
      go_ret
      exact ⟨ret_bool (by simp; omega), HB0.out.trans (HB.out.mono HB0.out.size)⟩
set_option maxHeartbeats 3000000 in
theorem lgsame_yes {G L M R C : Nat} {g : Gd} {w : World} (h : Grd w G L M R C g) (hok : GOk g R C) (A : Option Addr) (cap : Nat) (hl : Lns w A g.ls) : Calls Tryz.prog 11 #[.pointer (some ⟨G, 0, none⟩), .agg #[.slice A R cap, .int .i64 (g.row : Int), .int .i64 (g.col : Int)]] w (Said true w) := by
  obtain ⟨W0, hW0⟩ : ∃ W0, w.alloc (.cells #[.slice A R cap, .int .i64 (g.row : Int), .int .i64 (g.col : Int)] 32) = W0 := ⟨_, rfl⟩
  have HB0 : Hid (Below w.heap.size w W0) := by unfold Hid; rw [← hW0]; exact new1W _ _
  have HX0 : Hid (Whole W0 (w.heap.size) 32 [.slice A R cap, .int .i64 (g.row : Int), .int .i64 (g.col : Int)]) := by unfold Hid; rw [← hW0]; exact (Whole.new w 32 [.slice A R cap, .int .i64 (g.row : Int), .int .i64 (g.col : Int)])
  have HW0 := hide hW0
  clear hW0
  have HG := hide (h.later HB0.out)
  have HL := hide (hl.below HB0.out)
  have HGO := hide hok
  have hR1 := hok.r1
  have hR2 := hok.r2
  have hC2 := hok.c2
  have HLen := hide hok.len
  have HC0 := hide (hok.each 0 hok.r1).1
  have HLn : Hid (∀ i, i < R → (lAt g.ls i).length ≤ 1000000) := by unfold Hid; intro i hi; rw [(hok.each i hi).1]; omega
  clear h hl hok
  go_enter Tryz.func11, Tryz.ntmps11
  go_wp2
  rw [HW0.out]
  refine wp_region_chainL (fun w' => Below W0.heap.size W0 w') 19 [(2, 0), (2, 2), (0, 3), (2, 4), (1, 1), (1, 5), (1, 6), (2, 7), (0, 9), (1, 8), (1, 10), (1, 11), (1, 12), (1, 13), (2, 14), (0, 16), (1, 15), (1, 17), (1, 18), (3, 19)] (by kernel_rfl) (by kernel_rfl) (by kernel_rfl) (fun _ _ _ _ _ h => h) ?_ ?_
  · exact (Below.refl _ _).drewN 1
  refine chainL_pure (v := ?_) (by simp only [List.getElem?_toArray, List.getElem?_cons_zero]; rfl) (by rfl) (fun w => ?_) ?_
  rotate_left
  · go_simp <;> with_reducible rfl
  simp only [Act.put, List.setIfInBounds_toArray, List.set_cons_zero, List.set_cons_succ]
  refine chainL_pure (v := ?_) (by simp only [List.getElem?_toArray, List.getElem?_cons_zero, List.getElem?_cons_succ]; rfl) (by rfl) (fun w => ?_) ?_
  rotate_left
  · go_simp <;> with_reducible rfl
  simp only [Act.put, List.setIfInBounds_toArray, List.set_cons_zero, List.set_cons_succ]
  refine chainL_take (v := ?_) (by simp only [List.getElem?_toArray, List.getElem?_cons_zero, List.getElem?_cons_succ]; rfl) (by rfl) (fun w hS => ?_) ?_
  rotate_left
  · obtain ⟨d0, d1, d2, -⟩ := cells3 (HX0.out.later hS); go_simp <;> with_reducible rfl
  simp only [Act.put, List.setIfInBounds_toArray, List.set_cons_zero, List.set_cons_succ]
  refine chainL_pure (v := ?_) (by simp only [List.getElem?_toArray, List.getElem?_cons_zero, List.getElem?_cons_succ]; rfl) (by rfl) (fun w => ?_) ?_
  rotate_left
  · go_simp <;> with_reducible rfl
  simp only [Act.put, List.setIfInBounds_toArray, List.set_cons_zero, List.set_cons_succ]
  refine chainL_alone (by simp only [List.getElem?_toArray, List.getElem?_cons_zero, List.getElem?_cons_succ]; rfl) ?_
  intro K hK
  go_wp2_with fail
  refine (rows_any (HG.out.later ((Below.refl _ _).drewN 1))).mono ?_
  rintro e k0 ⟨rfl, rfl⟩
  go_wp2
  refine hK.out _ _ ((Below.refl _ _).drewN 1) ?_
  clear hK K
  refine chainL_alone (by simp only [List.getElem?_toArray, List.getElem?_cons_zero, List.getElem?_cons_succ]; rfl) ?_
  intro K hK
  go_wp2
  refine hK.out _ _ ((Below.refl _ _).drewN 1) ?_
  clear hK K
  refine chainL_alone (by simp only [List.getElem?_toArray, List.getElem?_cons_zero, List.getElem?_cons_succ]; rfl) ?_
  intro K hK
  go_wp2
  refine hK.out _ _ ((Below.refl _ _).drewN 1) ?_
  clear hK K
  refine chainL_pure (v := ?_) (by simp only [List.getElem?_toArray, List.getElem?_cons_zero, List.getElem?_cons_succ]; rfl) (by rfl) (fun w => ?_) ?_
  rotate_left
  · go_simp <;> with_reducible rfl
  simp only [Act.put, List.setIfInBounds_toArray, List.set_cons_zero, List.set_cons_succ]
  refine chainL_take (v := ?_) (by simp only [List.getElem?_toArray, List.getElem?_cons_zero, List.getElem?_cons_succ]; rfl) (by rfl) (fun w hS => ?_) ?_
  rotate_left
  · obtain ⟨d0, d1, d2, -⟩ := cells3 (HX0.out.later hS); go_simp <;> with_reducible rfl
  simp only [Act.put, List.setIfInBounds_toArray, List.set_cons_zero, List.set_cons_succ]
  refine chainL_alone (by simp only [List.getElem?_toArray, List.getElem?_cons_zero, List.getElem?_cons_succ]; rfl) ?_
  intro K hK
  go_wp2_with fail
  refine (cols_any (HG.out.later ((Below.refl _ _).drewN 1)) hR1).mono ?_
  rintro e k0 ⟨rfl, rfl⟩
  go_wp2
  refine hK.out _ _ ((Below.refl _ _).drewN 1) ?_
  clear hK K
  refine chainL_alone (by simp only [List.getElem?_toArray, List.getElem?_cons_zero, List.getElem?_cons_succ]; rfl) ?_
  intro K hK
  go_wp2_with fail
  refine (rgcols_any A R cap C g.row g.col g.ls _ (HL.out.drewN 1) HLen.out hR1 HC0.out).mono ?_
  rintro e k1 ⟨rfl, hb⟩
  have B1 : Below W0.heap.size W0 k1 := ((Below.refl W0.heap.size W0).drewN 1).trans hb
  clear hb
  go_wp2
  refine hK.out _ _ (B1) ?_
  clear hK K
  refine chainL_alone (by simp only [List.getElem?_toArray, List.getElem?_cons_zero, List.getElem?_cons_succ]; rfl) ?_
  intro K hK
  go_wp2
  refine hK.out _ _ (B1) ?_
  clear hK K
  refine chainL_alone (by simp only [List.getElem?_toArray, List.getElem?_cons_zero, List.getElem?_cons_succ]; rfl) ?_
  intro K hK
  go_wp2
  refine hK.out _ _ (B1) ?_
  clear hK K
  refine chainL_alone (by simp only [List.getElem?_toArray, List.getElem?_cons_zero, List.getElem?_cons_succ]; rfl) ?_
  intro K hK
  go_wp2
  refine hK.out _ _ (B1) ?_
  clear hK K
  refine chainL_pure (v := ?_) (by simp only [List.getElem?_toArray, List.getElem?_cons_zero, List.getElem?_cons_succ]; rfl) (by rfl) (fun w => ?_) ?_
  rotate_left
  · go_simp <;> with_reducible rfl
  simp only [Act.put, List.setIfInBounds_toArray, List.set_cons_zero, List.set_cons_succ]
  refine chainL_take (v := ?_) (by simp only [List.getElem?_toArray, List.getElem?_cons_zero, List.getElem?_cons_succ]; rfl) (by rfl) (fun w hS => ?_) ?_
  rotate_left
  · obtain ⟨d0, d1, d2, -⟩ := cells3 (HX0.out.later hS); go_simp <;> with_reducible rfl
  simp only [Act.put, List.setIfInBounds_toArray, List.set_cons_zero, List.set_cons_succ]
  refine chainL_alone (by simp only [List.getElem?_toArray, List.getElem?_cons_zero, List.getElem?_cons_succ]; rfl) ?_
  intro K hK
  go_wp2_with fail
  refine (gof_any (HG.out.later B1) HGO.out).mono ?_
  rintro e k2 ⟨A5, cap5, rfl, hl, hb⟩
  have B2 : Below W0.heap.size W0 k2 := B1.trans (hb.mono B1.size)
  have HL5 := hide hl
  clear hl hb
  go_wp2
  refine hK.out _ _ (B2) ?_
  clear hK K
  refine chainL_alone (by simp only [List.getElem?_toArray, List.getElem?_cons_zero, List.getElem?_cons_succ]; rfl) ?_
  intro K hK
  go_wp2_with fail
  refine (rgsame_any A5 A R R cap5 cap g g k2 HL5.out (HL.out.below B2) HLen.out HLen.out hR2 HLn.out).mono ?_
  rintro e k3 ⟨rfl, hb⟩
  rw [sameG_self]
  have B3 : Below W0.heap.size W0 k3 := B2.trans (hb.mono B2.size)
  clear hb
  go_wp2
  refine hK.out _ _ (B3) ?_
  clear hK K
  refine chainL_alone (by simp only [List.getElem?_toArray, List.getElem?_cons_zero, List.getElem?_cons_succ]; rfl) ?_
  intro K hK
  go_wp2
  refine hK.out _ _ (B3) ?_
  clear hK K
  refine chainL_late (by simp only [List.getElem?_toArray, List.getElem?_cons_zero, List.getElem?_cons_succ]; rfl) ?_
  intro K hK
  go_wp2
  refine hK.out _ _ ?_
  clear hK K
  refine chainL_nil ?_
  have HBZ := hide (HB0.out.trans (B3.mono HB0.out.size))
  clear B1 B2 B3
  go_wp2
  go_ret
  exact ⟨rfl, HBZ.out⟩
/-- The document's cell of a place. -/
def atC (g : Gd) (R C : Nat) (r c : Int) : Cel × Bool := if hasG R r ∧ 0 ≤ c ∧ c < (C : Int) then (cAt (lAt g.ls r.toNat) c.toNat, true) else (zeroC, false)
theorem gat_any {G L M R C : Nat} {g : Gd} {w : World} (h : Grd w G L M R C g) (hC : C ≤ 512) (r c : Int) (x m y : Int) (d f z b : Nat) (ok : Bool) (hat : atC g R C r c = (⟨x, m, y, d, ⟨f, z, b⟩⟩, ok)) :
    Calls Tryz.prog 14 #[.pointer (some ⟨G, 0, none⟩), .int .i64 r, .int .i64 c] w fun e w' => e = .returned (.tuple #[.agg #[.int .i32 x, .int .i32 m, .int .i32 y, .int .u8 (d : Int), .int .u8 (f : Int), .int .u8 (z : Int), .int .u8 (b : Int)], .bool ok]) ∧ Below w.heap.size w w' := by
  unfold atC at hat
  by_cases q : hasG R r ∧ 0 ≤ c ∧ c < (C : Int)
  · rw [if_pos q] at hat
    simp only [Prod.mk.injEq] at hat
    obtain ⟨h1, rfl⟩ := hat
    have e1 : ((r.toNat : Nat) : Int) = r := by unfold hasG at q; omega
    have e2 : ((c.toNat : Nat) : Int) = c := by omega
    have := gat_yes h r.toNat c.toNat (by unfold hasG at q; omega) (by omega) hC x m y d f z b h1
    rw [e1, e2] at this
    exact this
  · rw [if_neg q] at hat
    simp only [Prod.mk.injEq, zeroC, zeroP, Cel.mk.injEq, Pn.mk.injEq] at hat
    obtain ⟨⟨rfl, rfl, rfl, rfl, rfl, rfl, rfl⟩, rfl⟩ := hat
    exact gat_no h r c q
set_option maxHeartbeats 3000000 in
theorem rgat_any (A : Option Addr) (R C cap : Nat) (g : Gd) (w : World) (h : Lns w A g.ls) (hok : GOk g R C) (r c : Int) (x m y : Int) (d f z b : Nat) (ok : Bool) (hat : atC g R C r c = (⟨x, m, y, d, ⟨f, z, b⟩⟩, ok)) :
    Calls Tryz.prog 15 #[.agg #[.slice A R cap, .int .i64 (g.row : Int), .int .i64 (g.col : Int)], .int .i64 r, .int .i64 c] w fun e w' => e = .returned (.tuple #[.agg #[.int .i64 x, .int .i64 m, .int .i64 y, .int .u8 (d : Int), .int .u8 (f : Int), .int .u8 (z : Int), .int .u8 (b : Int)], .bool ok]) ∧ Below w.heap.size w w' := by
  obtain ⟨W0, hW0⟩ : ∃ W0, (w.alloc (.cells #[.slice A R cap, .int .i64 (g.row : Int), .int .i64 (g.col : Int)] 32)).alloc (.cells #[.int .i64 0, .int .i64 0, .int .i64 0, .int .u8 (0 : Int), .int .u8 (0 : Int), .int .u8 (0 : Int), .int .u8 (0 : Int)] 52) = W0 := ⟨_, rfl⟩
  have HB0 : Hid (Below w.heap.size w W0) := by unfold Hid; rw [← hW0]; exact two_new w _ _ [.slice A R cap, .int .i64 (g.row : Int), .int .i64 (g.col : Int)] [.int .i64 0, .int .i64 0, .int .i64 0, .int .u8 (0 : Int), .int .u8 (0 : Int), .int .u8 (0 : Int), .int .u8 (0 : Int)]
  have HX0 : Hid (Whole W0 (w.heap.size) 32 [.slice A R cap, .int .i64 (g.row : Int), .int .i64 (g.col : Int)]) := by unfold Hid; rw [← hW0]; exact ((Whole.new w 32 [.slice A R cap, .int .i64 (g.row : Int), .int .i64 (g.col : Int)]).alloc _)
  have HX1 : Hid (Whole W0 (w.heap.size + 1) 52 [.int .i64 0, .int .i64 0, .int .i64 0, .int .u8 (0 : Int), .int .u8 (0 : Int), .int .u8 (0 : Int), .int .u8 (0 : Int)]) := by unfold Hid; rw [← hW0]; exact (whole_snd w _ 52 [.int .i64 0, .int .i64 0, .int .i64 0, .int .u8 (0 : Int), .int .u8 (0 : Int), .int .u8 (0 : Int), .int .u8 (0 : Int)])
  have HW0 := hide hW0
  clear hW0
  have HL := hide (h.below HB0.out)
  have hR1 := hok.r1
  have hR2 := hok.r2
  have hC2 := hok.c2
  have HGO := hide hok
  have HLen := hide hok.len
  have HC0 := hide (hok.each 0 hok.r1).1
  obtain ⟨p0, p1, p2, lp⟩ := cells3 HX0.out
  clear h hok
  unfold atC at hat
  by_cases hr : hasG R r
  · obtain ⟨q, hq⟩ : ∃ q : Nat, r = (q : Int) := ⟨r.toNat, by unfold hasG at hr; omega⟩
    subst hq
    have hqR : q < R := by unfold hasG at hr; omega
    by_cases h0 : c < 0
    · rw [if_neg (by omega)] at hat
      simp only [Prod.mk.injEq, zeroC, zeroP, Cel.mk.injEq, Pn.mk.injEq] at hat
      obtain ⟨⟨rfl, rfl, rfl, rfl, rfl, rfl, rfl⟩, rfl⟩ := hat
      clear hr
      go_enter Tryz.func15, Tryz.ntmps15
      go_wp2_with fail
      rw [HW0.out]
      refine (rhas_any A R cap g.row g.col q W0).mono ?_
      rintro e W1 ⟨rfl, hb⟩
      rw [hasG_in hqR]
      have HZ := hide (HX1.out.later hb)
      have HB1 := hide (HB0.out.trans (hb.mono HB0.out.size))
      clear hb p0 p1 p2 lp
      obtain ⟨z0, z1, z2, z3, z4, z5, z6, lz⟩ := cells7 HZ.out
      have hzf := HZ.out.frozen
      go_wp2
      exact ret72 Tryz.results15 (.inr rfl) rfl rfl rfl (put7 HZ.out _ _ _ _ _ _ _) ⟨rfl, below_put7 HB1.out (by omega) _ _ _ _ _ _ _⟩
    · by_cases h1 : c < (C : Int)
      · obtain ⟨j, hj⟩ : ∃ j : Nat, c = (j : Int) := ⟨c.toNat, by omega⟩
        subst hj
        have hjC : j < C := by omega
        rw [if_pos ⟨hr, by omega, h1⟩, Int.toNat_natCast, Int.toNat_natCast] at hat
        simp only [Prod.mk.injEq] at hat
        obtain ⟨hcell0, rfl⟩ := hat
        have HCe := hide hcell0
        clear hr hcell0
        go_enter Tryz.func15, Tryz.ntmps15
        go_wp2_with fail
        rw [HW0.out]
        refine (rhas_any A R cap g.row g.col q W0).mono ?_
        rintro e W1 ⟨rfl, hb⟩
        rw [hasG_in hqR]
        have HZ0 := hide (HX1.out.later hb)
        have HP0 := hide (HX0.out.later hb)
        have HL0 := hide (HL.out.below hb)
        have HB1 := hide (HB0.out.trans (hb.mono HB0.out.size))
        clear hb p0 p1 p2 lp
        obtain ⟨p0, p1, p2, lp⟩ := cells3 HP0.out
        go_wp2_with fail
        refine (rgcols_any A R cap C g.row g.col g.ls W1 HL0.out HLen.out hR1 HC0.out).mono ?_
        rintro e W2 ⟨rfl, hb⟩
        have HZ := hide (HZ0.out.later hb)
        have HP := hide (HP0.out.later hb)
        have HL1 := hide (HL0.out.below hb)
        have HB2 := hide (HB1.out.trans (hb.mono HB1.out.size))
        clear hb p0 p1 p2 lp
        obtain ⟨p0, p1, p2, lp⟩ := cells3 HP.out
        obtain ⟨b0, A', c', rfl, lb, hcell, -, hcels, hA'⟩ := HL1.out.at (i := q) (by rw [HLen.out]; exact hqR)
        have hNr := (HGO.out.each q hqR).1
        rw [hNr] at hcell
        obtain ⟨b9, o9, e9, -, -⟩ := hcels.at (i := j) (by rw [hNr]; exact hjC)
        subst e9
        obtain ⟨a0, a1, a2, a3, a4, a5, a6, la⟩ := hcels.sevenC j (by rw [hNr]; exact hjC) HCe.out
        obtain ⟨z0, z1, z2, z3, z4, z5, z6, lz⟩ := cells7 HZ.out
        have hzf := HZ.out.frozen
        clear hcels
        go_wp2
        exact ret72 Tryz.results15 (.inr rfl) rfl rfl rfl (put7 HZ.out _ _ _ _ _ _ _) ⟨rfl, below_put7 HB2.out (by omega) _ _ _ _ _ _ _⟩
      · rw [if_neg (by omega)] at hat
        simp only [Prod.mk.injEq, zeroC, zeroP, Cel.mk.injEq, Pn.mk.injEq] at hat
        obtain ⟨⟨rfl, rfl, rfl, rfl, rfl, rfl, rfl⟩, rfl⟩ := hat
        clear hr
        go_enter Tryz.func15, Tryz.ntmps15
        go_wp2_with fail
        rw [HW0.out]
        refine (rhas_any A R cap g.row g.col q W0).mono ?_
        rintro e W1 ⟨rfl, hb⟩
        rw [hasG_in hqR]
        have HZ0 := hide (HX1.out.later hb)
        have HP0 := hide (HX0.out.later hb)
        have HL0 := hide (HL.out.below hb)
        have HB1 := hide (HB0.out.trans (hb.mono HB0.out.size))
        clear hb p0 p1 p2 lp
        obtain ⟨p0, p1, p2, lp⟩ := cells3 HP0.out
        go_wp2_with fail
        refine (rgcols_any A R cap C g.row g.col g.ls W1 HL0.out HLen.out hR1 HC0.out).mono ?_
        rintro e W2 ⟨rfl, hb⟩
        have HZ := hide (HZ0.out.later hb)
        have HB2 := hide (HB1.out.trans (hb.mono HB1.out.size))
        clear hb p0 p1 p2 lp
        obtain ⟨z0, z1, z2, z3, z4, z5, z6, lz⟩ := cells7 HZ.out
        have hzf := HZ.out.frozen
        go_wp2
        exact ret72 Tryz.results15 (.inr rfl) rfl rfl rfl (put7 HZ.out _ _ _ _ _ _ _) ⟨rfl, below_put7 HB2.out (by omega) _ _ _ _ _ _ _⟩
  · rw [if_neg (fun q => hr q.1)] at hat
    simp only [Prod.mk.injEq, zeroC, zeroP, Cel.mk.injEq, Pn.mk.injEq] at hat
    obtain ⟨⟨rfl, rfl, rfl, rfl, rfl, rfl, rfl⟩, rfl⟩ := hat
    have HD : Hid (decide (hasG R r) = false) := by unfold Hid; simp [hr]
    clear hr
    go_enter Tryz.func15, Tryz.ntmps15
    go_wp2_with fail
    rw [HW0.out]
    refine (rhas_any A R cap g.row g.col r W0).mono ?_
    rintro e W1 ⟨rfl, hb⟩
    rw [HD.out]
    have HZ := hide (HX1.out.later hb)
    have HB1 := hide (HB0.out.trans (hb.mono HB0.out.size))
    clear hb p0 p1 p2 lp
    obtain ⟨z0, z1, z2, z3, z4, z5, z6, lz⟩ := cells7 HZ.out
    have hzf := HZ.out.frozen
    go_wp2
    exact ret72 Tryz.results15 (.inr rfl) rfl rfl rfl (put7 HZ.out _ _ _ _ _ _ _) ⟨rfl, below_put7 HB1.out (by omega) _ _ _ _ _ _ _⟩
end Go.Proofs.YtiifeniijcnahaaGreatDoor
