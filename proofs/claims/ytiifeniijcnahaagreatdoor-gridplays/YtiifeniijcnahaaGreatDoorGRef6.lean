/-
  Contracts: the document's grid of another size, whether two are the same; a program's grid as the document's.
-/
import Derived.Test.YtiifeniijcnahaaGreatDoorGRef4
import Derived.Test.YtiifeniijcnahaaGreatDoorGAsk
namespace Go.Proofs.YtiifeniijcnahaaGreatDoor
set_option maxRecDepth 100000
open Go.ChangeShapes Go.WideShapes Go.ChangeAt Go.RowKit
set_option linter.unusedVariables false

theorem Lns.whole {w : World} {b : Nat} {ls : List (List Cel)} (h : Lns w (some ⟨b, 0, none⟩) ls) (h1 : 1 ≤ ls.length) : ∃ l, Whole w b 73 l := by
  rcases h with rfl | ⟨b', cur, e, hh, _⟩
  · simp at h1
  · cases e
    exact ⟨cur.toList, by unfold Whole; simpa using hh⟩
theorem Lns.there {w : World} {b : Nat} {ls : List (List Cel)} (h : Lns w (some ⟨b, 0, none⟩) ls) {i : Nat} (hi : i < ls.length) : ∃ x, w.cell? ⟨b, i, none⟩ = some x := by
  obtain ⟨b', A', c', e, _, hc, _⟩ := h.at hi
  cases e
  exact ⟨_, hc⟩
theorem Lns.set {w : World} {b : Nat} {ls : List (List Cel)} (h : Lns w (some ⟨b, 0, none⟩) ls) {r : Nat} (hr : r < ls.length) {x : Value} {z : List Cel} (hx : RowOk w x z) : Lns (w.setCell ⟨b, r, none⟩ x) (some ⟨b, 0, none⟩) (ls.set r z) := by
  have hs : Stays 52 w (w.setCell ⟨b, r, none⟩ x) := by
    obtain ⟨l, hw⟩ := h.whole (by omega)
    exact Stays.put hw (by decide)
  rcases h with rfl | ⟨b', cur, e, hh, hc⟩
  · simp at hr
  · cases e
    have hw : Whole w b 73 cur.toList := by unfold Whole; simpa using hh
    have hlen : ∀ i, i < ls.length → i < cur.toList.length := by
      intro i hi
      obtain ⟨y, hy, _⟩ := hc i hi
      simpa using (Array.getElem?_eq_some_iff.1 hy).1
    refine .inr ⟨b, (cur.toList.set r x).toArray, rfl, hw.put r x, fun i hi => ?_⟩
    rw [List.length_set] at hi
    rw [set_lAt _ _ _ _ hi]
    by_cases q : i = r
    · subst q
      refine ⟨x, ?_, ?_⟩
      · have hl := hlen i hi
        rw [List.getElem?_toArray, List.getElem?_set, if_pos rfl, if_pos hl]
      · rw [if_pos rfl]; exact hx.keep hs
    · obtain ⟨y, hy, hyo⟩ := hc i hi
      refine ⟨y, ?_, ?_⟩
      · rw [List.getElem?_toArray, List.getElem?_set, if_neg (Ne.symm q)]
        simpa using hy
      · rw [if_neg q]; exact hyo.keep hs
/-- The lines of a grid that is fitted up to a row. -/
def fitTo (g : Gd) (R0 C0 k : Nat) : List (List Cel) := gtab R0 (fun i => if i < k then fitC (lAt g.ls i) (C0 : Int) else newC (C0 : Int))
theorem fitTo_len (g : Gd) (R0 C0 k : Nat) : (fitTo g R0 C0 k).length = R0 := gtab_len _ _
theorem fitTo_next (g : Gd) (R0 C0 k : Nat) : (fitTo g R0 C0 k).set k (fitC (lAt g.ls k) (C0 : Int)) = fitTo g R0 C0 (k + 1) := by
  rw [set_gtab, fitTo_len]
  refine gtab_eq fun i hi => ?_
  unfold fitTo
  rw [gtab_lAt _ _ _ hi]
  by_cases q : i = k
  · rw [if_pos q, if_pos (by omega), q]
  · rw [if_neg q]
    by_cases q2 : i < k
    · rw [if_pos q2, if_pos (by omega)]
    · rw [if_neg q2, if_neg (by omega)]
theorem fitTo_end (g : Gd) (R0 C0 k : Nat) (h : R0 ≤ k ∨ g.ls.length ≤ k) : fitTo g R0 C0 k = gtab R0 (fitAtG g.ls C0) := by
  refine gtab_eq fun i hi => ?_
  rw [fitAtG_is]
  by_cases q : i < k
  · rw [if_pos q]
  · rw [if_neg q, show lAt g.ls i = [] by unfold lAt; rw [List.getD_eq_getElem?_getD, List.getElem?_eq_none (by omega)]; rfl, fit_nil]
theorem rgnew_v (R C : Nat) (hR1 : 1 ≤ R) (hR : R ≤ 512) (w : World) : Calls Tryz.prog 9 #[.int .i64 (R : Int), .int .i64 (C : Int)] w fun e w' => ∃ b cap, e = .returned (.agg #[.slice (some ⟨b, 0, none⟩) R cap, .int .i64 0, .int .i64 0]) ∧ Lns w' (some ⟨b, 0, none⟩) (newG R C).ls ∧ Below w.heap.size w w' ∧ w.heap.size ≤ b :=
  (rgnew_any R C hR1 hR w).mono fun e w' ⟨b, cap, he, h⟩ => ⟨b, cap, he, h⟩
set_option maxHeartbeats 4000000 in
theorem rgfit_any (A : Option Addr) (R C cap : Nat) (g : Gd) (w : World) (h : Lns w A g.ls) (hok : GOk g R C) (R0 C0 : Nat) (r1 : 1 ≤ R0) (r2 : R0 ≤ 512) (c1 : 1 ≤ C0) (c2 : C0 ≤ 512) :
    Calls Tryz.prog 48 #[.agg #[.slice A R cap, .int .i64 (g.row : Int), .int .i64 (g.col : Int)], .int .i64 (R0 : Int), .int .i64 (C0 : Int)] w (GaveD R0 (fitG g R0 C0) w) := by
  obtain ⟨W0, hW0⟩ : ∃ W0, (w.alloc (.cells #[.slice A R cap, .int .i64 (g.row : Int), .int .i64 (g.col : Int)] 32)).alloc (.cells #[.slice none 0 0, .int .i64 0, .int .i64 0] 32) = W0 := ⟨_, rfl⟩
  have HB0 : Hid (Below w.heap.size w W0) := by unfold Hid; rw [← hW0]; exact two_new w _ _ [.slice A R cap, .int .i64 (g.row : Int), .int .i64 (g.col : Int)] [.slice none 0 0, .int .i64 0, .int .i64 0]
  have HX0 : Hid (Whole W0 (w.heap.size) 32 [.slice A R cap, .int .i64 (g.row : Int), .int .i64 (g.col : Int)]) := by unfold Hid; rw [← hW0]; exact ((Whole.new w 32 [.slice A R cap, .int .i64 (g.row : Int), .int .i64 (g.col : Int)]).alloc _)
  have HX1 : Hid (Whole W0 (w.heap.size + 1) 32 [.slice none 0 0, .int .i64 0, .int .i64 0]) := by unfold Hid; rw [← hW0]; exact (whole_snd w _ 32 [.slice none 0 0, .int .i64 0, .int .i64 0])
  have HW0 := hide hW0
  clear hW0
  have HL := hide h
  have hR1 := hok.r1
  have hR2 := hok.r2
  have hC2 := hok.c2
  have HGO := hide hok
  have HLen := hide hok.len
  clear h hok
  go_enter Tryz.func48, Tryz.ntmps48
  go_wp2_with fail
  rw [HW0.out]
  refine (rgnew_v R0 C0 r1 r2 W0).mono ?_
  rintro e w1 ⟨b, cap1, rfl, hl, hb, hfb⟩
  obtain ⟨W1, hW1⟩ : ∃ W1, w1.alloc (.cells #[.slice (some ⟨b, 0, none⟩) R0 cap1, .int .i64 0, .int .i64 0] 32) = W1 := ⟨_, rfl⟩
  obtain ⟨Q, hQ⟩ : ∃ Q, w1.heap.size = Q := ⟨_, rfl⟩
  have HB1 : Hid (Below w.heap.size w W1) := by unfold Hid; rw [← hW1]; have q := HB0.out.trans (hb.mono HB0.out.size); exact q.alloc q.size _
  have HO1 : Hid (Whole W1 Q 32 [.slice (some ⟨b, 0, none⟩) R0 cap1, .int .i64 0, .int .i64 0]) := by unfold Hid; rw [← hW1, ← hQ]; exact Whole.new w1 32 [.slice (some ⟨b, 0, none⟩) R0 cap1, .int .i64 0, .int .i64 0]
  have HP1 : Hid (Whole W1 w.heap.size 32 [.slice A R cap, .int .i64 (g.row : Int), .int .i64 (g.col : Int)]) := by unfold Hid; rw [← hW1]; exact (HX0.out.later hb).alloc _
  have HZ1 : Hid (Whole W1 (w.heap.size + 1) 32 [.slice none 0 0, .int .i64 0, .int .i64 0]) := by unfold Hid; rw [← hW1]; exact (HX1.out.later hb).alloc _
  have HNw1 : Hid (Lns W1 (some ⟨b, 0, none⟩) (fitTo g R0 C0 0)) := by
    unfold Hid
    have e : fitTo g R0 C0 0 = (newG R0 C0).ls := gtab_eq fun i hi => by rw [if_neg (by omega)]
    rw [← hW1, e]
    exact hl.alloc _
  have HFb : Hid (w.heap.size ≤ b) := by unfold Hid; exact Nat.le_trans HB0.out.size hfb
  have HW1 := hide hW1
  have HQ := hide hQ
  clear hl hb hfb hW1 hQ
  go_wp2
  rw [HW1.out, HQ.out]
  go_loopw [8] (fun i wr => ∃ (k : Nat), (k ≤ R0 ∧ k ≤ R) ∧ i = .int .i64 k ∧ Lns wr (some ⟨b, 0, none⟩) (fitTo g R0 C0 k) ∧ Whole wr Q 32 [.slice (some ⟨b, 0, none⟩) R0 cap1, .int .i64 0, .int .i64 0] ∧ Whole wr w.heap.size 32 [.slice A R cap, .int .i64 (g.row : Int), .int .i64 (g.col : Int)] ∧ Whole wr (w.heap.size + 1) 32 [.slice none 0 0, .int .i64 0, .int .i64 0] ∧ Below w.heap.size w wr) (fun i _ => R0 - (intOf i).toNat)
  case atStart => exact ⟨0, ⟨Nat.zero_le _, Nat.zero_le _⟩, rfl, HNw1.out, HO1.out, HP1.out, HZ1.out, HB1.out⟩
  case round =>
    obtain ⟨k, ⟨hk0, hk1⟩, rfl, hn, ho, hp, hz, hb⟩ := hrel
    have HNw := hide hn
    have HO := hide ho
    have HP := hide hp
    have HZ := hide hz
    have HB := hide hb
    clear hn ho hp hz hb
    obtain ⟨p0, p1, p2, lp⟩ := cells3 HP.out
    obtain ⟨o0, o1, o2, lo⟩ := cells3 HO.out
    by_cases hlt : k < R0
    · by_cases hlt2 : k < R
      · obtain ⟨b1, A', c', rfl, lb1, hcell, -, hcels, hA'⟩ := (HL.out.below HB.out).at (i := k) (by rw [HLen.out]; exact hlt2)
        have HCr := hide hcels
        have HNr := hide ((HGO.out.each k hlt2).1)
        clear hcels
        go_wp2
        refine wp_region_chainL (fun w' => Below wr.heap.size wr w') 11 [(0, 2), (0, 5), (0, 8), (0, 0), (0, 3), (0, 1), (1, 4), (1, 6), (1, 7), (1, 9), (1, 10), (3, 11)] (by kernel_rfl) (by kernel_rfl) (by kernel_rfl) (fun _ _ _ _ _ h => h) ?_ ?_
        · exact (Below.refl _ _).drewN 1
        refine chainL_take (v := ?_) (by simp only [List.getElem?_toArray, List.getElem?_cons_zero, List.getElem?_cons_succ]; rfl) (by rfl) (fun w hS => ?_) ?_
        rotate_left
        · go_simp <;> with_reducible rfl
        simp only [Act.put, List.setIfInBounds_toArray, List.set_cons_zero, List.set_cons_succ]
        refine chainL_take (v := ?_) (by simp only [List.getElem?_toArray, List.getElem?_cons_zero, List.getElem?_cons_succ]; rfl) (by rfl) (fun w hS => ?_) ?_
        rotate_left
        · go_simp <;> with_reducible rfl
        simp only [Act.put, List.setIfInBounds_toArray, List.set_cons_zero, List.set_cons_succ]
        refine chainL_take (v := ?_) (by simp only [List.getElem?_toArray, List.getElem?_cons_zero, List.getElem?_cons_succ]; rfl) (by rfl) (fun w hS => ?_) ?_
        rotate_left
        · go_simp <;> with_reducible rfl
        simp only [Act.put, List.setIfInBounds_toArray, List.set_cons_zero, List.set_cons_succ]
        refine chainL_take (v := ?_) (by simp only [List.getElem?_toArray, List.getElem?_cons_zero]; rfl) (by rfl) (fun w hS => ?_) ?_
        rotate_left
        · go_simp <;> with_reducible rfl
        simp only [Act.put, List.setIfInBounds_toArray, List.set_cons_zero, List.set_cons_succ]
        refine chainL_take (v := ?_) (by simp only [List.getElem?_toArray, List.getElem?_cons_zero, List.getElem?_cons_succ]; rfl) (by rfl) (fun w hS => ?_) ?_
        rotate_left
        · go_simp <;> with_reducible rfl
        simp only [Act.put, List.setIfInBounds_toArray, List.set_cons_zero, List.set_cons_succ]
        refine chainL_take (v := ?_) (by simp only [List.getElem?_toArray, List.getElem?_cons_zero, List.getElem?_cons_succ]; rfl) (by rfl) (fun w hS => ?_) ?_
        rotate_left
        · obtain ⟨e0, e1, e2, -⟩ := cells3 (HO.out.later hS); go_simp <;> with_reducible rfl
        simp only [Act.put, List.setIfInBounds_toArray, List.set_cons_zero, List.set_cons_succ]
        refine chainL_alone (by simp only [List.getElem?_toArray, List.getElem?_cons_zero, List.getElem?_cons_succ]; rfl) ?_
        intro K hK
        go_wp2
        refine hK.out _ _ ((Below.refl _ _).drewN 1) ?_
        clear hK K
        refine chainL_alone (by simp only [List.getElem?_toArray, List.getElem?_cons_zero, List.getElem?_cons_succ]; rfl) ?_
        intro K hK
        go_wp2
        refine hK.out _ _ ((Below.refl _ _).drewN 1) ?_
        clear hK K
        refine chainL_alone (by simp only [List.getElem?_toArray, List.getElem?_cons_zero, List.getElem?_cons_succ]; rfl) ?_
        intro K hK
        go_wp2
        refine hK.out _ _ ((Below.refl _ _).drewN 1) ?_
        clear hK K
        refine chainL_alone (by simp only [List.getElem?_toArray, List.getElem?_cons_zero, List.getElem?_cons_succ]; rfl) ?_
        intro K hK
        go_wp2_with fail
        refine (rlfit_any A' _ c' (C0 : Int) _ _ HCr.out.drew rfl (by rw [HNr.out]; omega)).mono ?_
        rintro e k1 ⟨x, rfl, hx⟩
        have HX := hide hx.rowOk
        have Bk1 : Below wr.heap.size wr k1 := ((Below.refl wr.heap.size wr).drewN 1).trans hx.bel
        obtain ⟨Ax, cx, rfl, -⟩ := hx.rowOk
        have HN1 := hide (HNw.out.below Bk1)
        have HP1 := hide (HP.out.later Bk1)
        have HZ1 := hide (HZ.out.later Bk1)
        have HO1 := hide (HO.out.later Bk1)
        have HB1 := hide (HB.out.trans (Bk1.mono HB.out.size))
        clear hx p0 p1 p2 lp o0 o1 o2 lo
        obtain ⟨l9, hw9⟩ := HN1.out.whole (by rw [fitTo_len]; omega)
        have hzf := hw9.frozen
        have lb9 := hw9.lt
        obtain ⟨x0, hx0⟩ := HN1.out.there (i := k) (by rw [fitTo_len]; exact hlt)
        go_wp2
        refine hK.out _ _ (Bk1) ?_
        clear hK K
        refine chainL_alone (by simp only [List.getElem?_toArray, List.getElem?_cons_zero, List.getElem?_cons_succ]; rfl) ?_
        intro K hK
        go_wp2
        refine hK.out _ _ (Bk1) ?_
        clear hK K
        refine chainL_late (by simp only [List.getElem?_toArray, List.getElem?_cons_zero, List.getElem?_cons_succ]; rfl) ?_
        intro K hK
        go_wp2
        refine hK.out _ _ ?_
        clear hK K
        refine chainL_nil ?_
        have HN2 : Hid (Lns (k1.setCell ⟨b, k, none⟩ (.slice Ax (fitC (lAt g.ls k) (C0 : Int)).length cx)) (some ⟨b, 0, none⟩) (fitTo g R0 C0 (k + 1))) := by unfold Hid; rw [← fitTo_next]; exact HN1.out.set (by rw [fitTo_len]; exact hlt) HX.out
        have HO2 := hide (HO1.out.far (Only.put (g := b) k (.slice Ax (fitC (lAt g.ls k) (C0 : Int)).length cx)) (HO1.out.ne hw9 (by decide)))
        have HP2 := hide (HP1.out.far (Only.put (g := b) k (.slice Ax (fitC (lAt g.ls k) (C0 : Int)).length cx)) (HP1.out.ne hw9 (by decide)))
        have HZ2 := hide (HZ1.out.far (Only.put (g := b) k (.slice Ax (fitC (lAt g.ls k) (C0 : Int)).length cx)) (HZ1.out.ne hw9 (by decide)))
        have HB2 := hide (HB1.out.setCell (p := ⟨b, k, none⟩) HFb.out (.slice Ax (fitC (lAt g.ls k) (C0 : Int)).length cx))
        clear hzf lb9 hx0 hw9 Bk1 hcell
        go_wp2
        go_roundw
        case rel => exact ⟨k + 1, ⟨by omega, by omega⟩, by go_num, HN2.out, HO2.out, HP2.out, HZ2.out, HB2.out⟩
        case measure => simp [intOf]; omega
      · obtain rfl : k = R := by omega
        have HE := hide (fitTo_end g R0 C0 k (.inr (by rw [HLen.out]; exact Nat.le_refl _)))
        have HM : Hid (moveG ⟨fitTo g R0 C0 k, 0, 0⟩ (g.row : Int) (g.col : Int) C0 = fitG g R0 C0) := by unfold Hid moveG fitG; rw [show (⟨fitTo g R0 C0 k, 0, 0⟩ : Gd).ls = fitTo g R0 C0 k from rfl, fitTo_len, HE.out]
        have HC00 : Hid ((lAt (fitTo g R0 C0 k) 0).length = C0) := by
          unfold Hid fitTo
          rw [gtab_lAt _ _ _ (by omega)]
          split
          · rw [fit_len, lenN_nat C0 c2]
          · exact newC_len C0 c2
        go_wp2_with fail
        refine (rgmove_any (some ⟨b, 0, none⟩) R0 C0 cap1 ⟨fitTo g R0 C0 k, 0, 0⟩ wr HNw.out (fitTo_len _ _ _ _) r1 r2 c1 c2 HC00.out g.row g.col).mono ?_
        rintro e k2 ⟨A2, cap2, rfl, hl, hb⟩
        have HL3 := hide hl
        have HZ3 := hide (HZ.out.later hb)
        have HB3 := hide (HB.out.trans (hb.mono HB.out.size))
        clear hl hb p0 p1 p2 lp o0 o1 o2 lo
        rw [HM.out] at HL3 ⊢
        obtain ⟨z0, z1, z2, lz⟩ := cells3 HZ3.out
        have hzf := HZ3.out.frozen
        go_wp2
        exact retG Tryz.results48 rfl rfl (put3 HZ3.out _ _ _) ⟨A2, cap2, rfl, HL3.out.put3 HZ3.out (by decide) (by decide) _ _ _, below_put3 HB3.out (by omega) _ _ _⟩
    · obtain rfl : k = R0 := by omega
      have HE := hide (fitTo_end g k C0 k (.inl (Nat.le_refl _)))
      have HM : Hid (moveG ⟨fitTo g k C0 k, 0, 0⟩ (g.row : Int) (g.col : Int) C0 = fitG g k C0) := by unfold Hid moveG fitG; rw [show (⟨fitTo g k C0 k, 0, 0⟩ : Gd).ls = fitTo g k C0 k from rfl, fitTo_len, HE.out]
      have HC00 : Hid ((lAt (fitTo g k C0 k) 0).length = C0) := by
        unfold Hid fitTo
        rw [gtab_lAt _ _ _ (by omega)]
        split
        · rw [fit_len, lenN_nat C0 c2]
        · exact newC_len C0 c2
      go_wp2_with fail
      refine (rgmove_any (some ⟨b, 0, none⟩) k C0 cap1 ⟨fitTo g k C0 k, 0, 0⟩ wr HNw.out (fitTo_len _ _ _ _) r1 r2 c1 c2 HC00.out g.row g.col).mono ?_
      rintro e k2 ⟨A2, cap2, rfl, hl, hb⟩
      have HL3 := hide hl
      have HZ3 := hide (HZ.out.later hb)
      have HB3 := hide (HB.out.trans (hb.mono HB.out.size))
      clear hl hb p0 p1 p2 lp o0 o1 o2 lo
      rw [HM.out] at HL3 ⊢
      obtain ⟨z0, z1, z2, lz⟩ := cells3 HZ3.out
      have hzf := HZ3.out.frozen
      go_wp2
      exact retG Tryz.results48 rfl rfl (put3 HZ3.out _ _ _) ⟨A2, cap2, rfl, HL3.out.put3 HZ3.out (by decide) (by decide) _ _ _, below_put3 HB3.out (by omega) _ _ _⟩
set_option maxHeartbeats 4000000 in
theorem rgsame_any (A A' : Option Addr) (R R' cap cap' : Nat) (g g' : Gd) (w : World) (h : Lns w A g.ls) (h' : Lns w A' g'.ls) (hR : g.ls.length = R) (hR' : g'.ls.length = R') (hR2 : R ≤ 512) (hln : ∀ i, i < R → (lAt g.ls i).length ≤ 1000000) :
    Calls Tryz.prog 49 #[.agg #[.slice A R cap, .int .i64 (g.row : Int), .int .i64 (g.col : Int)], .agg #[.slice A' R' cap', .int .i64 (g'.row : Int), .int .i64 (g'.col : Int)]] w (Said (sameG g g') w) := by
  obtain ⟨W0, hW0⟩ : ∃ W0, (w.alloc (.cells #[.slice A R cap, .int .i64 (g.row : Int), .int .i64 (g.col : Int)] 32)).alloc (.cells #[.slice A' R' cap', .int .i64 (g'.row : Int), .int .i64 (g'.col : Int)] 32) = W0 := ⟨_, rfl⟩
  have HB0 : Hid (Below w.heap.size w W0) := by unfold Hid; rw [← hW0]; exact two_new w _ _ [.slice A R cap, .int .i64 (g.row : Int), .int .i64 (g.col : Int)] [.slice A' R' cap', .int .i64 (g'.row : Int), .int .i64 (g'.col : Int)]
  have HX0 : Hid (Whole W0 (w.heap.size) 32 [.slice A R cap, .int .i64 (g.row : Int), .int .i64 (g.col : Int)]) := by unfold Hid; rw [← hW0]; exact ((Whole.new w 32 [.slice A R cap, .int .i64 (g.row : Int), .int .i64 (g.col : Int)]).alloc _)
  have HX1 : Hid (Whole W0 (w.heap.size + 1) 32 [.slice A' R' cap', .int .i64 (g'.row : Int), .int .i64 (g'.col : Int)]) := by unfold Hid; rw [← hW0]; exact (whole_snd w _ 32 [.slice A' R' cap', .int .i64 (g'.row : Int), .int .i64 (g'.col : Int)])
  have HW0 := hide hW0
  clear hW0
  have HL := hide h
  have HL' := hide h'
  have HLen := hide hR
  have HLen' := hide hR'
  have HLn := hide hln
  obtain ⟨p0, p1, p2, lp⟩ := cells3 HX0.out
  obtain ⟨q0, q1, q2, lq⟩ := cells3 HX1.out
  clear h h' hln
  by_cases hne : R = R'
  · have e1 : ((R : Int) != (R' : Int)) = false := by simp [hne]
    by_cases hrow : g.row = g'.row
    · have e2 : ((g.row : Int) != (g'.row : Int)) = false := by simp [hrow]
      by_cases hcol : g.col = g'.col
      · have e3 : ((g.col : Int) != (g'.col : Int)) = false := by simp [hcol]
        have HS : Hid (sameG g g' = decide (g.ls = g'.ls)) := by unfold Hid sameG; simp [hrow, hcol]
        have HRR := hide hne
        have HQ := hide (ls_eq (n := R) hR (by rw [hR', hne]))
        clear hrow hcol hR hR' hne
        go_enter Tryz.func49, Tryz.ntmps49
        go_wp2
        rw [HW0.out]
        clear p0 p1 p2 lp q0 q1 q2 lq
        go_loopw [5] (fun i wr => ∃ k : Nat, k ≤ R ∧ i = .int .i64 k ∧ Below W0.heap.size W0 wr ∧ ∀ q, q < k → lAt g.ls q = lAt g'.ls q) (fun i _ => R - (intOf i).toNat)
        case atStart => exact ⟨0, Nat.zero_le _, rfl, Below.refl _ _, fun q hq => by omega⟩
        case round =>
          obtain ⟨k, hk, rfl, hb, hall⟩ := hrel
          have HB := hide hb
          have HAll := hide hall
          clear hb hall
          have HP := hide (HX0.out.later HB.out)
          have HP' := hide (HX1.out.later HB.out)
          obtain ⟨p0, p1, p2, lp⟩ := cells3 HP.out
          obtain ⟨q0, q1, q2, lq⟩ := cells3 HP'.out
          by_cases hlt : k < R
          · have hlt' : k < R' := by rw [← HRR.out]; exact hlt
            obtain ⟨b1, A1, c1, rfl, lb1, hc1, -, hr1, -⟩ := (HL.out.below (HB0.out.trans (HB.out.mono HB0.out.size))).at (i := k) (by rw [HLen.out]; exact hlt)
            obtain ⟨b2, A2, c2, rfl, lb2, hc2, -, hr2, -⟩ := (HL'.out.below (HB0.out.trans (HB.out.mono HB0.out.size))).at (i := k) (by rw [HLen'.out]; exact hlt')
            have HR1 := hide hr1
            have HR2 := hide hr2
            have HLk := hide (HLn.out k hlt)
            clear hr1 hr2
            by_cases hq : lAt g.ls k = lAt g'.ls k
            · have HE : Hid (decide (lAt g.ls k = lAt g'.ls k) = true) := by unfold Hid; simpa using hq
              have HKQ := hide hq
              clear hq
              go_wp2
              refine wp_region_chainL (fun w' => Below wr.heap.size wr w') 10 [(0, 2), (0, 7), (0, 0), (0, 5), (0, 1), (0, 3), (0, 4), (1, 6), (1, 8), (1, 9), (3, 10), (3, 11)] (by kernel_rfl) (by kernel_rfl) (by kernel_rfl) (fun _ _ _ _ _ h => h) ?_ ?_
              · exact (Below.refl _ _).drewN 1
              refine chainL_take (v := ?_) (by simp only [List.getElem?_toArray, List.getElem?_cons_zero, List.getElem?_cons_succ]; rfl) (by rfl) (fun w hS => ?_) ?_
              rotate_left
              · go_simp <;> with_reducible rfl
              simp only [Act.put, List.setIfInBounds_toArray, List.set_cons_zero, List.set_cons_succ]
              refine chainL_take (v := ?_) (by simp only [List.getElem?_toArray, List.getElem?_cons_zero, List.getElem?_cons_succ]; rfl) (by rfl) (fun w hS => ?_) ?_
              rotate_left
              · go_simp <;> with_reducible rfl
              simp only [Act.put, List.setIfInBounds_toArray, List.set_cons_zero, List.set_cons_succ]
              refine chainL_take (v := ?_) (by simp only [List.getElem?_toArray, List.getElem?_cons_zero]; rfl) (by rfl) (fun w hS => ?_) ?_
              rotate_left
              · go_simp <;> with_reducible rfl
              simp only [Act.put, List.setIfInBounds_toArray, List.set_cons_zero, List.set_cons_succ]
              refine chainL_take (v := ?_) (by simp only [List.getElem?_toArray, List.getElem?_cons_zero, List.getElem?_cons_succ]; rfl) (by rfl) (fun w hS => ?_) ?_
              rotate_left
              · go_simp <;> with_reducible rfl
              simp only [Act.put, List.setIfInBounds_toArray, List.set_cons_zero, List.set_cons_succ]
              refine chainL_take (v := ?_) (by simp only [List.getElem?_toArray, List.getElem?_cons_zero, List.getElem?_cons_succ]; rfl) (by rfl) (fun w hS => ?_) ?_
              rotate_left
              · obtain ⟨e0, e1, e2, -⟩ := cells3 (HP.out.later hS); go_simp <;> with_reducible rfl
              simp only [Act.put, List.setIfInBounds_toArray, List.set_cons_zero, List.set_cons_succ]
              refine chainL_take (v := ?_) (by simp only [List.getElem?_toArray, List.getElem?_cons_zero, List.getElem?_cons_succ]; rfl) (by rfl) (fun w hS => ?_) ?_
              rotate_left
              · go_simp <;> with_reducible rfl
              simp only [Act.put, List.setIfInBounds_toArray, List.set_cons_zero, List.set_cons_succ]
              refine chainL_take (v := ?_) (by simp only [List.getElem?_toArray, List.getElem?_cons_zero, List.getElem?_cons_succ]; rfl) (by rfl) (fun w hS => ?_) ?_
              rotate_left
              · have f0 : w.cell? ⟨b1, k, none⟩ = some (.slice A1 (lAt g.ls k).length c1) := (hS.cell (p := ⟨b1, k, none⟩) lb1).trans hc1; go_simp <;> with_reducible rfl
              simp only [Act.put, List.setIfInBounds_toArray, List.set_cons_zero, List.set_cons_succ]
              refine chainL_alone (by simp only [List.getElem?_toArray, List.getElem?_cons_zero, List.getElem?_cons_succ]; rfl) ?_
              intro K hK
              go_wp2
              refine hK.out _ _ ((Below.refl _ _).drewN 1) ?_
              clear hK K
              refine chainL_alone (by simp only [List.getElem?_toArray, List.getElem?_cons_zero, List.getElem?_cons_succ]; rfl) ?_
              intro K hK
              go_wp2
              refine hK.out _ _ ((Below.refl _ _).drewN 1) ?_
              clear hK K
              refine chainL_alone (by simp only [List.getElem?_toArray, List.getElem?_cons_zero, List.getElem?_cons_succ]; rfl) ?_
              intro K hK
              go_wp2
              refine hK.out _ _ ((Below.refl _ _).drewN 1) ?_
              clear hK K
              refine chainL_late (by simp only [List.getElem?_toArray, List.getElem?_cons_zero, List.getElem?_cons_succ]; rfl) ?_
              intro K hK
              go_wp2_with fail
              refine (rsame6_any A1 A2 _ c1 _ c2 _ _ _ HR1.out.drew HR2.out.drew rfl rfl HLk.out).mono ?_
              rintro e k1 ⟨rfl, hb⟩
              rw [HE.out]
              have Bk1 : Below wr.heap.size wr k1 := ((Below.refl wr.heap.size wr).drewN 1).trans hb
              clear hb
              go_wp2
              refine hK.out _ _ ?_
              clear hK K
              refine chainL_late (by simp only [List.getElem?_toArray, List.getElem?_cons_zero, List.getElem?_cons_succ]; rfl) ?_
              intro K hK
              go_wp2
              refine hK.out _ _ ?_
              clear hK K
              refine chainL_nil ?_
              have HB1 := hide (HB.out.trans (Bk1.mono HB.out.size))
              clear Bk1 p0 p1 p2 lp q0 q1 q2 lq hc1 hc2 lb1 lb2
              go_wp2
              go_roundw
              case rel => exact ⟨k + 1, by omega, by go_num, HB1.out, fun q hq => by
                by_cases e : q = k
                · rw [e]; exact HKQ.out
                · exact HAll.out q (by omega)⟩
              case measure => simp [intOf]; omega
            · have HE : Hid (decide (lAt g.ls k = lAt g'.ls k) = false) := by unfold Hid; simpa using hq
              have HN : Hid (sameG g g' = false) := by
                unfold Hid
                rw [HS.out, decide_eq_false_iff_not]
                intro e
                exact hq (by rw [e])
              clear hq
              go_wp2
              refine wp_region_chainL (fun w' => Below wr.heap.size wr w') 10 [(0, 2), (0, 7), (0, 0), (0, 5), (0, 1), (0, 3), (0, 4), (1, 6), (1, 8), (1, 9), (3, 10), (3, 11)] (by kernel_rfl) (by kernel_rfl) (by kernel_rfl) (fun _ _ _ _ _ h => h) ?_ ?_
              · exact (Below.refl _ _).drewN 1
              refine chainL_take (v := ?_) (by simp only [List.getElem?_toArray, List.getElem?_cons_zero, List.getElem?_cons_succ]; rfl) (by rfl) (fun w hS => ?_) ?_
              rotate_left
              · go_simp <;> with_reducible rfl
              simp only [Act.put, List.setIfInBounds_toArray, List.set_cons_zero, List.set_cons_succ]
              refine chainL_take (v := ?_) (by simp only [List.getElem?_toArray, List.getElem?_cons_zero, List.getElem?_cons_succ]; rfl) (by rfl) (fun w hS => ?_) ?_
              rotate_left
              · go_simp <;> with_reducible rfl
              simp only [Act.put, List.setIfInBounds_toArray, List.set_cons_zero, List.set_cons_succ]
              refine chainL_take (v := ?_) (by simp only [List.getElem?_toArray, List.getElem?_cons_zero]; rfl) (by rfl) (fun w hS => ?_) ?_
              rotate_left
              · go_simp <;> with_reducible rfl
              simp only [Act.put, List.setIfInBounds_toArray, List.set_cons_zero, List.set_cons_succ]
              refine chainL_take (v := ?_) (by simp only [List.getElem?_toArray, List.getElem?_cons_zero, List.getElem?_cons_succ]; rfl) (by rfl) (fun w hS => ?_) ?_
              rotate_left
              · go_simp <;> with_reducible rfl
              simp only [Act.put, List.setIfInBounds_toArray, List.set_cons_zero, List.set_cons_succ]
              refine chainL_take (v := ?_) (by simp only [List.getElem?_toArray, List.getElem?_cons_zero, List.getElem?_cons_succ]; rfl) (by rfl) (fun w hS => ?_) ?_
              rotate_left
              · obtain ⟨e0, e1, e2, -⟩ := cells3 (HP.out.later hS); go_simp <;> with_reducible rfl
              simp only [Act.put, List.setIfInBounds_toArray, List.set_cons_zero, List.set_cons_succ]
              refine chainL_take (v := ?_) (by simp only [List.getElem?_toArray, List.getElem?_cons_zero, List.getElem?_cons_succ]; rfl) (by rfl) (fun w hS => ?_) ?_
              rotate_left
              · go_simp <;> with_reducible rfl
              simp only [Act.put, List.setIfInBounds_toArray, List.set_cons_zero, List.set_cons_succ]
              refine chainL_take (v := ?_) (by simp only [List.getElem?_toArray, List.getElem?_cons_zero, List.getElem?_cons_succ]; rfl) (by rfl) (fun w hS => ?_) ?_
              rotate_left
              · have f0 : w.cell? ⟨b1, k, none⟩ = some (.slice A1 (lAt g.ls k).length c1) := (hS.cell (p := ⟨b1, k, none⟩) lb1).trans hc1; go_simp <;> with_reducible rfl
              simp only [Act.put, List.setIfInBounds_toArray, List.set_cons_zero, List.set_cons_succ]
              refine chainL_alone (by simp only [List.getElem?_toArray, List.getElem?_cons_zero, List.getElem?_cons_succ]; rfl) ?_
              intro K hK
              go_wp2
              refine hK.out _ _ ((Below.refl _ _).drewN 1) ?_
              clear hK K
              refine chainL_alone (by simp only [List.getElem?_toArray, List.getElem?_cons_zero, List.getElem?_cons_succ]; rfl) ?_
              intro K hK
              go_wp2
              refine hK.out _ _ ((Below.refl _ _).drewN 1) ?_
              clear hK K
              refine chainL_alone (by simp only [List.getElem?_toArray, List.getElem?_cons_zero, List.getElem?_cons_succ]; rfl) ?_
              intro K hK
              go_wp2
              refine hK.out _ _ ((Below.refl _ _).drewN 1) ?_
              clear hK K
              refine chainL_late (by simp only [List.getElem?_toArray, List.getElem?_cons_zero, List.getElem?_cons_succ]; rfl) ?_
              intro K hK
              go_wp2_with fail
              refine (rsame6_any A1 A2 _ c1 _ c2 _ _ _ HR1.out.drew HR2.out.drew rfl rfl HLk.out).mono ?_
              rintro e k1 ⟨rfl, hb⟩
              rw [HE.out]
              have Bk1 : Below wr.heap.size wr k1 := ((Below.refl wr.heap.size wr).drewN 1).trans hb
              clear hb
              go_wp2
              refine hK.out _ _ ?_
              clear hK K
              refine chainL_late (by simp only [List.getElem?_toArray, List.getElem?_cons_zero, List.getElem?_cons_succ]; rfl) ?_
              intro K hK
              go_wp2
              refine hK.out _ _ ?_
              clear hK K
              refine chainL_nil ?_
              have HB1 := hide (HB.out.trans (Bk1.mono HB.out.size))
              clear Bk1 p0 p1 p2 lp q0 q1 q2 lq hc1 hc2 lb1 lb2
              go_wp2
              go_ret
              exact ⟨ret_bool HN.out.symm, HB0.out.trans (HB1.out.mono HB0.out.size)⟩
          · have HY : Hid (sameG g g' = true) := by unfold Hid; rw [HS.out]; exact HQ.out.2 fun i hi => HAll.out i (by omega)
            go_wp2
            go_ret
            exact ⟨ret_bool HY.out.symm, HB0.out.trans (HB.out.mono HB0.out.size)⟩
      · have e3 : ((g.col : Int) != (g'.col : Int)) = true := by simp; omega
        have HS : Hid (sameG g g' = false) := by unfold Hid sameG; simp [hcol]
        clear hrow hcol hR hR' hne
        go_enter Tryz.func49, Tryz.ntmps49
        go_wp2
        go_ret
        rw [HW0.out]
        exact ⟨ret_bool HS.out.symm, HB0.out⟩
    · have e2 : ((g.row : Int) != (g'.row : Int)) = true := by simp; omega
      have HS : Hid (sameG g g' = false) := by unfold Hid sameG; simp [hrow]
      clear hrow hR hR' hne
      go_enter Tryz.func49, Tryz.ntmps49
      go_wp2
      go_ret
      rw [HW0.out]
      exact ⟨ret_bool HS.out.symm, HB0.out⟩
  · have e1 : ((R : Int) != (R' : Int)) = true := by simp; omega
    have HS : Hid (sameG g g' = false) := by
      unfold Hid sameG
      rw [Bool.and_eq_false_iff]
      right
      rw [decide_eq_false_iff_not]
      intro e
      rw [e, hR'] at hR
      exact hne hR.symm
    clear hR hR' hne
    go_enter Tryz.func49, Tryz.ntmps49
    go_wp2
    go_ret
    rw [HW0.out]
    exact ⟨ret_bool HS.out.symm, HB0.out⟩
set_option maxHeartbeats 4000000 in
theorem gof_any {G L M R C : Nat} {g : Gd} {w : World} (h : Grd w G L M R C g) (hok : GOk g R C) : Calls Tryz.prog 22 #[.pointer (some ⟨G, 0, none⟩)] w (GaveD R g w) := by
  obtain ⟨W0, hW0⟩ : ∃ W0, (w.alloc (.cells #[.slice none 0 0, .int .i64 0, .int .i64 0] 32)).alloc (.cells #[.slice none 0 0, .int .i64 0, .int .i64 0] 32) = W0 := ⟨_, rfl⟩
  have HB0 : Hid (Below w.heap.size w W0) := by unfold Hid; rw [← hW0]; exact two_new w _ _ [.slice none 0 0, .int .i64 0, .int .i64 0] [.slice none 0 0, .int .i64 0, .int .i64 0]
  have HX0 : Hid (Whole W0 (w.heap.size) 32 [.slice none 0 0, .int .i64 0, .int .i64 0]) := by unfold Hid; rw [← hW0]; exact ((Whole.new w 32 [.slice none 0 0, .int .i64 0, .int .i64 0]).alloc _)
  have HX1 : Hid (Whole W0 (w.heap.size + 1) 32 [.slice none 0 0, .int .i64 0, .int .i64 0]) := by unfold Hid; rw [← hW0]; exact (whole_snd w _ 32 [.slice none 0 0, .int .i64 0, .int .i64 0])
  have HW0 := hide hW0
  clear hW0
  have HG := hide h
  have hR1 := hok.r1
  have hR2 := hok.r2
  have hC2 := hok.c2
  have HGO := hide hok
  have HLen := hide hok.len
  clear h hok
  go_enter Tryz.func22, Tryz.ntmps22
  go_wp2
  rw [HW0.out]
  go_loopw [4] (fun i wr => ∃ (k : Nat) (v : Value), k ≤ R ∧ i = .int .i64 k ∧ RwsC w.heap.size w wr v (gtab k (lAt g.ls)) ∧ Whole wr (w.heap.size + 1) 32 [v, .int .i64 0, .int .i64 0] ∧ Whole wr w.heap.size 32 [.slice none 0 0, .int .i64 0, .int .i64 0]) (fun i _ => R - (intOf i).toNat)
  case atStart => exact ⟨0, _, Nat.zero_le _, rfl, RwsC.from0 HB0.out.size HB0.out, HX1.out, HX0.out⟩
  case round =>
    obtain ⟨k, v, hk, rfl, hv, hq, hp⟩ := hrel
    have HV := hide hv
    have HQ := hide hq
    have HP := hide hp
    obtain ⟨Av, cv, rfl, -⟩ := hv.form
    rw [gtab_len] at HV HQ hq
    clear hv hp
    have HR := hide (rows_any (HG.out.later HV.out.bel))
    by_cases hlt : k < R
    · have HNr := hide (HGO.out.each k hlt).1
      have HLB := hide (HGO.out.each k hlt).2.2
      clear hq
      go_wp2_with fail
      refine HR.out.mono ?_
      rintro e w1 ⟨rfl, rfl⟩
      go_wp2
      refine wp_region_chainL (fun w' => Below wr.heap.size wr w') 7 [(0, 2), (0, 3), (0, 0), (0, 1), (1, 4), (1, 5), (1, 6), (3, 7), (3, 8), (3, 9)] (by kernel_rfl) (by kernel_rfl) (by kernel_rfl) (fun _ _ _ _ _ h => h) ?_ ?_
      · exact (Below.refl _ _).drewN 1
      refine chainL_take (v := ?_) (by simp only [List.getElem?_toArray, List.getElem?_cons_zero, List.getElem?_cons_succ]; rfl) (by rfl) (fun w hS => ?_) ?_
      rotate_left
      · go_simp <;> with_reducible rfl
      simp only [Act.put, List.setIfInBounds_toArray, List.set_cons_zero, List.set_cons_succ]
      refine chainL_take (v := ?_) (by simp only [List.getElem?_toArray, List.getElem?_cons_zero, List.getElem?_cons_succ]; rfl) (by rfl) (fun w hS => ?_) ?_
      rotate_left
      · go_simp <;> with_reducible rfl
      simp only [Act.put, List.setIfInBounds_toArray, List.set_cons_zero, List.set_cons_succ]
      refine chainL_take (v := ?_) (by simp only [List.getElem?_toArray, List.getElem?_cons_zero]; rfl) (by rfl) (fun w hS => ?_) ?_
      rotate_left
      · go_simp <;> with_reducible rfl
      simp only [Act.put, List.setIfInBounds_toArray, List.set_cons_zero, List.set_cons_succ]
      refine chainL_take (v := ?_) (by simp only [List.getElem?_toArray, List.getElem?_cons_zero, List.getElem?_cons_succ]; rfl) (by rfl) (fun w hS => ?_) ?_
      rotate_left
      · obtain ⟨b0, b1, b2, -⟩ := cells3 (HQ.out.later hS); go_simp <;> with_reducible rfl
      simp only [Act.put, List.setIfInBounds_toArray, List.set_cons_zero, List.set_cons_succ]
      refine chainL_alone (by simp only [List.getElem?_toArray, List.getElem?_cons_zero, List.getElem?_cons_succ]; rfl) ?_
      intro K hK
      go_wp2_with fail
      refine (gline_any (HG.out.later (HV.out.bel.drewN 1)) k (by unfold hasG; omega) (by omega)).mono ?_
      rintro e k1 ⟨x, rfl, hx⟩
      rw [Int.toNat_natCast] at hx
      obtain ⟨A1, c1, rfl, hc1, -⟩ := hx.form
      have Bk1 : Below wr.heap.size wr k1 := ((Below.refl _ _).drewN 1).trans hx.bel
      have HC1 := hide hc1
      rw [HNr.out]
      clear hx hc1
      go_wp2
      refine hK.out _ _ (Bk1) ?_
      clear hK K
      refine chainL_alone (by simp only [List.getElem?_toArray, List.getElem?_cons_zero, List.getElem?_cons_succ]; rfl) ?_
      intro K hK
      go_wp2_with fail
      refine (lineof_any A1 C c1 _ k1 HC1.out HNr.out (by omega) HLB.out).mono ?_
      rintro e k2 ⟨x, rfl, hx⟩
      have Bk2 : Below wr.heap.size wr k2 := Bk1.trans (hx.bel.mono Bk1.size)
      have HX := hide hx.rowOk
      have HV1 := hide (HV.out.later Bk2)
      have HQ1 := hide (HQ.out.later Bk2)
      have HP1 := hide (HP.out.later Bk2)
      obtain ⟨Ax, cx, rfl, -⟩ := hx.rowOk
      clear hx
      go_wp2
      refine hK.out _ _ (Bk2) ?_
      clear hK K
      refine chainL_alone (by simp only [List.getElem?_toArray, List.getElem?_cons_zero, List.getElem?_cons_succ]; rfl) ?_
      intro K hK
      go_wp2
      refine hK.out _ _ (Bk2.alloc Bk2.size _) ?_
      clear hK K
      refine chainL_late (by simp only [List.getElem?_toArray, List.getElem?_cons_zero, List.getElem?_cons_succ]; rfl) ?_
      intro K hK
      go_wp2_with (at_builtin; refine stopw ?_)
      unfold Hid
      refine wpList_pushL rfl _ _ rfl rfl rfl HV1.out HX.out (by rw [gtab_len]; omega) ?_
      intro v2 w2 hown hoth
      have HV2 : Hid (RwsC w.heap.size w w2 v2 (gtab (k + 1) (lAt g.ls))) := by unfold Hid; rw [gtab_snoc]; exact hown
      have HQ2 := hide (hoth _ _ _ (by decide) HQ1.out)
      have HP2 := hide (hoth _ _ _ (by decide) HP1.out)
      clear hown hoth
      obtain ⟨A2, cap2, rfl, -⟩ := HV2.out.form
      rw [gtab_len] at HV2 ⊢
      obtain ⟨d0, d1, d2, ld⟩ := cells3 HQ2.out
      have hz := HQ2.out.frozen
      go_wp2
      refine hK.out _ _ ?_
      clear hK K
      refine chainL_late (by simp only [List.getElem?_toArray, List.getElem?_cons_zero, List.getElem?_cons_succ]; rfl) ?_
      intro K hK
      go_wp2
      refine hK.out _ _ ?_
      clear hK K
      refine chainL_late (by simp only [List.getElem?_toArray, List.getElem?_cons_zero, List.getElem?_cons_succ]; rfl) ?_
      intro K hK
      go_wp2
      refine hK.out _ _ ?_
      clear hK K
      refine chainL_nil ?_
      have HQ3 := hide (HQ2.out.put 0 (.slice A2 (k + 1) cap2))
      have HP3 := hide (HP2.out.far (Only.put (g := w.heap.size + 1) 0 (.slice A2 (k + 1) cap2)) (by omega))
      have HV3 := hide (HV2.out.put (i := 0) (u := .slice A2 (k + 1) cap2) HQ2.out (by decide) (by decide) (by omega))
      clear d0 d1 d2 ld hz Bk1 Bk2
      go_wp2
      go_roundw
      case rel => exact ⟨k + 1, _, by omega, by go_num, HV3.out, HQ3.out, HP3.out⟩
      case measure => simp [intOf]; omega
    · obtain rfl : k = R := by omega
      have HCu := hide (row_any (HG.out.later HV.out.bel))
      have HCc := hide (col_any (HG.out.later HV.out.bel))
      have hqf := hq.frozen
      obtain ⟨b0, b1, b2, lb⟩ := cells3 hq
      obtain ⟨d0, d1, d2, ld⟩ := cells3 HP.out
      have hz := HP.out.frozen
      clear hq
      go_wp2_with fail
      refine HR.out.mono ?_
      rintro e w1 ⟨rfl, rfl⟩
      go_wp2_with fail
      refine HCu.out.mono ?_
      rintro e w1 ⟨rfl, rfl⟩
      go_wp2_with fail
      refine HCc.out.mono ?_
      rintro e w1 ⟨rfl, rfl⟩
      obtain ⟨W3, hW3⟩ : ∃ W3, (wr.setCell ⟨w.heap.size + 1, 1, none⟩ (.int .i64 (g.row : Int))).setCell ⟨w.heap.size + 1, 2, none⟩ (.int .i64 (g.col : Int)) = W3 := ⟨_, rfl⟩
      have HQ3 : Hid (Whole W3 (w.heap.size + 1) 32 [.slice Av k cv, .int .i64 (g.row : Int), .int .i64 (g.col : Int)]) := by unfold Hid; rw [← hW3]; exact (HQ.out.put 1 _).put 2 _
      have HP3 : Hid (Whole W3 w.heap.size 32 [.slice none 0 0, .int .i64 0, .int .i64 0]) := by unfold Hid; rw [← hW3]; exact HP.out.far ((Only.put (g := w.heap.size + 1) _ _).trans (Only.put _ _)) (by omega)
      have HV3 : Hid (RwsC w.heap.size w W3 (.slice Av k cv) (gtab k (lAt g.ls))) := by unfold Hid; rw [← hW3]; exact (HV.out.put (i := 1) HQ.out (by decide) (by decide) (by omega)).put (i := 2) (HQ.out.put 1 _) (by decide) (by decide) (by omega)
      have HF : Hid (gtab k (lAt g.ls) = g.ls) := by unfold Hid; rw [← HLen.out]; exact gtab_self _
      obtain ⟨f0, f1, f2, lf⟩ := cells3 HQ3.out
      obtain ⟨h0, h1, h2, lh⟩ := cells3 HP3.out
      have hz3 := HP3.out.frozen
      go_wp2
      refine retG Tryz.results22 rfl rfl (put3 HP3.out _ _ _) ⟨Av, cv, rfl, ?_, below_put3 HV3.out.bel (Nat.le_refl _) _ _ _⟩
      obtain ⟨A3, c3, e3, -, -, -, hL⟩ := HV3.out.form
      rw [gtab_len] at e3
      cases e3
      rw [HF.out] at hL
      exact hL.put3 HP3.out (by decide) (by decide) _ _ _
end Go.Proofs.YtiifeniijcnahaaGreatDoor
