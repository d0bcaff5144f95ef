/-
  Contracts and plain mathematics of GRef6, GRef3, NEq, NBase.
-/
import Derived.Test.YtkijclgbpbhglaaGreatDoorQd19
import Derived.Test.YtkijclgbpbhglaaGreatDoorQd13
import Derived.Test.YtkijclgbpbhglaaGreatDoorChecked
import Derived.Test.YtkijclgbpbhglaaGreatDoorQd1
import Derived.Laws.StructEq
import Derived.Test.YtkijclgbpbhglaaGreatDoorQd9
import Derived.Laws.BitsAll
import Derived.Lib.MinMax
namespace Go.Proofs.YtkijclgbpbhglaaGreatDoor
set_option maxRecDepth 100000
set_option linter.unusedVariables false
set_option maxHeartbeats 8000000
section
open Go.ChangeShapes Go.WideShapes Go.ChangeAt Go.RowKit
theorem Lns.whole {w : World} {b : Nat} {ls : List (List Cel)} (h : Lns w (some ⟨b, 0, none⟩) ls) (h1 : 1 ≤ ls.length) : ∃ l, Whole w b 132 l := by
 rcases h with rfl | ⟨b', cur, e, hh, _⟩
 ·simp at h1
 ·cases e
  exact ⟨cur.toList, by unfold Whole; simpa using hh⟩
theorem Lns.there {w : World} {b : Nat} {ls : List (List Cel)} (h : Lns w (some ⟨b, 0, none⟩) ls) {i : Nat} (hi : i < ls.length) : ∃ x, w.cell? ⟨b, i, none⟩ = some x := by
 obtain ⟨b', A', c', e, _, hc, _⟩ := h.at hi
 cases e
 exact ⟨_, hc⟩
theorem Lns.set {w : World} {b : Nat} {ls : List (List Cel)} (h : Lns w (some ⟨b, 0, none⟩) ls) {r : Nat} (hr : r < ls.length) {x : Value} {z : List Cel} (hx : RowOk w x z) : Lns (w.setCell ⟨b, r, none⟩ x) (some ⟨b, 0, none⟩) (ls.set r z) := by
 have hs : Stays 166 w (w.setCell ⟨b, r, none⟩ x) := by
  obtain ⟨l, hw⟩ := h.whole (by omega)
  exact Stays.put hw (by decide)
 rcases h with rfl | ⟨b', cur, e, hh, hc⟩
 ·simp at hr
 ·cases e
  have hw : Whole w b 132 cur.toList := by unfold Whole; simpa using hh
  have hlen : ∀ i, i < ls.length → i < cur.toList.length := by
   intro i hi
   obtain ⟨y, hy, _⟩ := hc i hi
   simpa using (Array.getElem?_eq_some_iff.1 hy).1
  refine .inr ⟨b, (cur.toList.set r x).toArray, rfl, hw.put r x, fun i hi => ?_⟩
  rw [List.length_set] at hi
  rw [set_lAt _ _ _ _ hi]
  by_cases q : i = r
  ·subst q
   refine ⟨x, ?_, ?_⟩
   ·have hl := hlen i hi
    rw [List.getElem?_toArray, List.getElem?_set, if_pos rfl, if_pos hl]
   ·rw [if_pos rfl]; exact hx.keep hs
  ·obtain ⟨y, hy, hyo⟩ := hc i hi
   refine ⟨y, ?_, ?_⟩
   ·rw [List.getElem?_toArray, List.getElem?_set, if_neg (Ne.symm q)]
    simpa using hy
   ·rw [if_neg q]; exact hyo.keep hs
def fitTo (g : Gd) (R0 C0 k : Nat) : List (List Cel) := gtab R0 (fun i => if i < k then fitC (lAt g.ls i) (C0 : Int) else newC (C0 : Int))
theorem fitTo_len (g : Gd) (R0 C0 k : Nat) : (fitTo g R0 C0 k).length = R0 := gtab_len _ _
theorem fitTo_next (g : Gd) (R0 C0 k : Nat) : (fitTo g R0 C0 k).set k (fitC (lAt g.ls k) (C0 : Int)) = fitTo g R0 C0 (k + 1) := by
 rw [set_gtab, fitTo_len]
 refine gtab_eq fun i hi => ?_
 unfold fitTo
 rw [gtab_lAt _ _ _ hi]
 by_cases q : i = k
 ·rw [if_pos q, if_pos (by omega), q]
 ·rw [if_neg q]
  by_cases q2 : i < k
  ·rw [if_pos q2, if_pos (by omega)]
  ·rw [if_neg q2, if_neg (by omega)]
theorem fitTo_end (g : Gd) (R0 C0 k : Nat) (h : R0 ≤ k ∨ g.ls.length ≤ k) : fitTo g R0 C0 k = gtab R0 (fitAtG g.ls C0) := by
 refine gtab_eq fun i hi => ?_
 rw [fitAtG_is]
 by_cases q : i < k
 ·rw [if_pos q]
 ·rw [if_neg q, show lAt g.ls i = [] by unfold lAt; rw [List.getD_eq_getElem?_getD, List.getElem?_eq_none (by omega)]; rfl, fit_nil]
theorem rgnew_v (R C : Nat) (hR1 : 1 ≤ R) (hR : R ≤ 512) (w : World) : Calls Tryz.prog 38 #[.int .i64 R, .int .i64 C] w fun e w' => ∃ b cap, e = .returned (.agg #[.slice (some ⟨b, 0, none⟩) R cap, .int .i64 0, .int .i64 0]) ∧ Lns w' (some ⟨b, 0, none⟩) (newG R C).ls ∧ Below w.heap.size w w' ∧ w.heap.size ≤ b :=
 (rgnew_any R C hR1 hR w).mono fun e w' ⟨b, cap, he, h⟩ => ⟨b, cap, he, h⟩
theorem rgfit_any (A : Option Addr) (R C cap : Nat) (g : Gd) (w : World) (h : Lns w A g.ls) (hok : GOk g R C) (R0 C0 : Nat) (r1 : 1 ≤ R0) (r2 : R0 ≤ 512) (c1 : 1 ≤ C0) (c2 : C0 ≤ 512) :
  Calls Tryz.prog 40 #[.agg #[.slice A R cap, .int .i64 g.row, .int .i64 g.col], .int .i64 R0, .int .i64 C0] w (GaveD R0 (fitG g R0 C0) w) := by
 obtain ⟨W0, hW0⟩ := exq ((w.alloc (.cells #[.slice A R cap, .int .i64 g.row, .int .i64 g.col] 32)).alloc (.cells #[.slice none 0 0, .int .i64 0, .int .i64 0] 32))
 have HB0 : Hid (Below w.heap.size w W0) := by unfold Hid; rw [← hW0]; exact two_new _ _ _ _ _
 have HX0 : Hid (Whole W0 (w.heap.size) 32 [.slice A R cap, .int .i64 g.row, .int .i64 g.col]) := by unfold Hid; rw [← hW0]; exact ((Whole.new _ _ _).alloc _)
 have HX1 : Hid (Whole W0 (w.heap.size + 1) 32 [.slice none 0 0, .int .i64 0, .int .i64 0]) := by unfold Hid; rw [← hW0]; exact (whole_snd _ _ _ _)
 have HW0 := hide hW0; clear hW0; have HL := hide h
 have hR1 := hok.r1
 have hR2 := hok.r2
 have hC2 := hok.c2
 have HGO := hide hok; have HLen := hide hok.len; clear h hok
 go_enter Tryz.func40, Tryz.ntmps40
 go_wp2_with fail
 rw [HW0.out]
 refine (rgnew_v R0 C0 r1 r2 W0).mono ?_
 rintro e w1 ⟨b, cap1, rfl, hl, hb, hfb⟩
 obtain ⟨W1, hW1⟩ := exq (w1.alloc (.cells #[.slice (some ⟨b, 0, none⟩) R0 cap1, .int .i64 0, .int .i64 0] 32))
 obtain ⟨Q, hQ⟩ := exq (w1.heap.size)
 have HB1 : Hid (Below w.heap.size w W1) := by unfold Hid; rw [← hW1]; have q := HB0.out.trans (hb.mono HB0.out.size); exact q.alloc q.size _
 have HO1 : Hid (Whole W1 Q 32 [.slice (some ⟨b, 0, none⟩) R0 cap1, .int .i64 0, .int .i64 0]) := by unfold Hid; rw [← hW1, ← hQ]; exact Whole.new _ _ _
 have HP1 : Hid (Whole W1 w.heap.size 32 [.slice A R cap, .int .i64 g.row, .int .i64 g.col]) := by unfold Hid; rw [← hW1]; exact (HX0.out.later hb).alloc _
 have HZ1 : Hid (Whole W1 (w.heap.size + 1) 32 [.slice none 0 0, .int .i64 0, .int .i64 0]) := by unfold Hid; rw [← hW1]; exact (HX1.out.later hb).alloc _
 have HNw1 : Hid (Lns W1 (some ⟨b, 0, none⟩) (fitTo g R0 C0 0)) := by
  unfold Hid
  have e : fitTo g R0 C0 0 = (newG R0 C0).ls := gtab_eq fun i hi => by rw [if_neg (by omega)]
  rw [← hW1, e]
  exact hl.alloc _
 have HFb : Hid (w.heap.size ≤ b) := by unfold Hid; exact Nat.le_trans HB0.out.size hfb
 have HW1 := hide hW1; have HQ := hide hQ; clear hl hb hfb hW1 hQ; go_wp2
 rw [HW1.out, HQ.out]
 go_loopw [8] (fun i wr => ∃ (k : Nat), (k ≤ R0 ∧ k ≤ R) ∧ i = .int .i64 k ∧ Lns wr (some ⟨b, 0, none⟩) (fitTo g R0 C0 k) ∧ Whole wr Q 32 [.slice (some ⟨b, 0, none⟩) R0 cap1, .int .i64 0, .int .i64 0] ∧ Whole wr w.heap.size 32 [.slice A R cap, .int .i64 g.row, .int .i64 g.col] ∧ Whole wr (w.heap.size + 1) 32 [.slice none 0 0, .int .i64 0, .int .i64 0] ∧ Below w.heap.size w wr) (fun i _ => R0 - (intOf i).toNat)
 case atStart => exact ⟨0, ⟨Nat.zero_le _, Nat.zero_le _⟩, rfl, HNw1.out, HO1.out, HP1.out, HZ1.out, HB1.out⟩
 case round =>
  obtain ⟨k, ⟨hk0, hk1⟩, rfl, hn, ho, hp, hz, hb⟩ := hrel
  have HNw := hide hn; have HO := hide ho; have HP := hide hp; have HZ := hide hz; have HB := hide hb; clear hn ho hp hz hb
  obtain ⟨p0, p1, p2, lp⟩ := cells3 HP.out
  obtain ⟨o0, o1, o2, lo⟩ := cells3 HO.out
  by_cases hlt : k < R0
  ·by_cases hlt2 : k < R
   ·obtain ⟨b1, A', c', rfl, lb1, hcell, -, hcels, hA'⟩ := (HL.out.below HB.out).at (i := k) (by rw [HLen.out]; exact hlt2)
    have HCr := hide hcels
    have HNr := hide ((HGO.out.each k hlt2).1)
    clear hcels; go_wp2
    refine rgL (fun w' => Below wr.heap.size wr w') 11 [(0, 2), (0, 5), (0, 8), (0, 0), (0, 3), (0, 1), (1, 4), (1, 6), (1, 7), (1, 9), (1, 10), (3, 11)] bd1 ?_
    iterate 5 refine stL (h := ?_)
    refine stL (hy := fun w hS => by obtain ⟨e0, e1, e2, -⟩ := cells3 (HO.out.later hS); go_simp <;> with_reducible rfl) (h := ?_)
    refine alL fun K hK => ?_
    go_wp2
    refine hK.out _ _ bd1 ?_
    clear hK K
    refine alL fun K hK => ?_
    go_wp2
    refine hK.out _ _ bd1 ?_
    clear hK K
    refine alL fun K hK => ?_
    go_wp2
    refine hK.out _ _ bd1 ?_
    clear hK K
    refine alL fun K hK => ?_
    go_wp2_with fail
    refine (rlfit_any A' _ c' (C0 : Int) _ _ HCr.out.drew rfl (by rw [HNr.out]; omega)).mono ?_
    rintro e k1 ⟨x, rfl, hx⟩
    have HX := hide hx.rowOk
    have Bk1 : Below wr.heap.size wr k1 := ((Below.refl wr.heap.size wr).drewN 1).trans hx.bel
    obtain ⟨Ax, cx, rfl, -⟩ := hx.rowOk
    have HN1 := hide (HNw.out.below Bk1)
    have HP1 := hide (HP.out.later Bk1)
    have HZ1 := hide (HZ.out.later Bk1)
    have HO1 := hide (HO.out.later Bk1)
    have HB1 := hide (HB.out.trans (Bk1.mono HB.out.size))
    clear hx p0 p1 p2 lp o0 o1 o2 lo
    obtain ⟨l9, hw9⟩ := HN1.out.whole (by rw [fitTo_len]; omega)
    have hzf := hw9.frozen
    have lb9 := hw9.lt
    obtain ⟨x0, hx0⟩ := HN1.out.there (i := k) (by rw [fitTo_len]; exact hlt)
    go_wp2
    refine hK.out _ _ (Bk1) ?_
    clear hK K
    refine alL fun K hK => ?_
    go_wp2
    refine hK.out _ _ (Bk1) ?_
    clear hK K
    refine laL fun K hK => ?_
    go_wp2
    refine hK.out _ _ ?_
    clear hK K
    refine chainL_nil ?_
    have HN2 : Hid (Lns (k1.setCell ⟨b, k, none⟩ (.slice Ax (fitC (lAt g.ls k) (C0 : Int)).length cx)) (some ⟨b, 0, none⟩) (fitTo g R0 C0 (k + 1))) := by unfold Hid; rw [← fitTo_next]; exact HN1.out.set (by rw [fitTo_len]; exact hlt) HX.out
    have HO2 := hide (HO1.out.far (Only.put (g := b) k (.slice Ax (fitC (lAt g.ls k) (C0 : Int)).length cx)) (HO1.out.ne hw9 (by decide)))
    have HP2 := hide (HP1.out.far (Only.put (g := b) k (.slice Ax (fitC (lAt g.ls k) (C0 : Int)).length cx)) (HP1.out.ne hw9 (by decide)))
    have HZ2 := hide (HZ1.out.far (Only.put (g := b) k (.slice Ax (fitC (lAt g.ls k) (C0 : Int)).length cx)) (HZ1.out.ne hw9 (by decide)))
    have HB2 := hide (HB1.out.setCell (p := ⟨b, k, none⟩) HFb.out (.slice Ax (fitC (lAt g.ls k) (C0 : Int)).length cx))
    clear hzf lb9 hx0 hw9 Bk1 hcell; go_wp2
    go_roundw
    case rel => exact ⟨k + 1, ⟨by omega, by omega⟩, by go_num, HN2.out, HO2.out, HP2.out, HZ2.out, HB2.out⟩
    case measure => simp [intOf]; omega
   ·obtain rfl : k = R := by omega
    have HE := hide (fitTo_end g R0 C0 k (.inr (by rw [HLen.out]; exact Nat.le_refl _)))
    have HM : Hid (moveG ⟨fitTo g R0 C0 k, 0, 0⟩ (g.row : Int) (g.col : Int) C0 = fitG g R0 C0) := by unfold Hid moveG fitG; rw [show (⟨fitTo g R0 C0 k, 0, 0⟩ : Gd).ls = fitTo g R0 C0 k from rfl, fitTo_len, HE.out]
    have HC00 : Hid ((lAt (fitTo g R0 C0 k) 0).length = C0) := by
     unfold Hid fitTo
     rw [gtab_lAt _ _ _ (by omega)]
     split
     ·rw [fit_len, lenN_nat C0 c2]
     ·exact newC_len C0 c2
    go_wp2_with fail
    refine (rgmove_any (some ⟨b, 0, none⟩) R0 C0 cap1 ⟨fitTo g R0 C0 k, 0, 0⟩ wr HNw.out (fitTo_len _ _ _ _) r1 r2 c1 c2 HC00.out g.row g.col).mono ?_
    rintro e k2 ⟨A2, cap2, rfl, hl, hb⟩
    have HL3 := hide hl
    have HZ3 := hide (HZ.out.later hb)
    have HB3 := hide (HB.out.trans (hb.mono HB.out.size))
    clear hl hb p0 p1 p2 lp o0 o1 o2 lo
    rw [HM.out] at HL3 ⊢
    obtain ⟨z0, z1, z2, lz⟩ := cells3 HZ3.out
    have hzf := HZ3.out.frozen
    go_wp2
    exact retG Tryz.results40 rfl rfl (put3 HZ3.out _ _ _) ⟨A2, cap2, rfl, HL3.out.put3 HZ3.out (by decide) (by decide) _ _ _, below_put3 HB3.out (by omega) _ _ _⟩
  ·obtain rfl : k = R0 := by omega
   have HE := hide (fitTo_end g k C0 k (.inl (Nat.le_refl _)))
   have HM : Hid (moveG ⟨fitTo g k C0 k, 0, 0⟩ (g.row : Int) (g.col : Int) C0 = fitG g k C0) := by unfold Hid moveG fitG; rw [show (⟨fitTo g k C0 k, 0, 0⟩ : Gd).ls = fitTo g k C0 k from rfl, fitTo_len, HE.out]
   have HC00 : Hid ((lAt (fitTo g k C0 k) 0).length = C0) := by
    unfold Hid fitTo
    rw [gtab_lAt _ _ _ (by omega)]
    split
    ·rw [fit_len, lenN_nat C0 c2]
    ·exact newC_len C0 c2
   go_wp2_with fail
   refine (rgmove_any (some ⟨b, 0, none⟩) k C0 cap1 ⟨fitTo g k C0 k, 0, 0⟩ wr HNw.out (fitTo_len _ _ _ _) r1 r2 c1 c2 HC00.out g.row g.col).mono ?_
   rintro e k2 ⟨A2, cap2, rfl, hl, hb⟩
   have HL3 := hide hl
   have HZ3 := hide (HZ.out.later hb)
   have HB3 := hide (HB.out.trans (hb.mono HB.out.size))
   clear hl hb p0 p1 p2 lp o0 o1 o2 lo
   rw [HM.out] at HL3 ⊢
   obtain ⟨z0, z1, z2, lz⟩ := cells3 HZ3.out
   have hzf := HZ3.out.frozen
   go_wp2
   exact retG Tryz.results40 rfl rfl (put3 HZ3.out _ _ _) ⟨A2, cap2, rfl, HL3.out.put3 HZ3.out (by decide) (by decide) _ _ _, below_put3 HB3.out (by omega) _ _ _⟩
theorem rgsame_any (A A' : Option Addr) (R R' cap cap' : Nat) (g g' : Gd) (w : World) (h : Lns w A g.ls) (h' : Lns w A' g'.ls) (hR : g.ls.length = R) (hR' : g'.ls.length = R') (hR2 : R ≤ 512) (hln : ∀ i, i < R → (lAt g.ls i).length ≤ 1000000) :
  Calls Tryz.prog 79 #[.agg #[.slice A R cap, .int .i64 g.row, .int .i64 g.col], .agg #[.slice A' R' cap', .int .i64 g'.row, .int .i64 g'.col]] w (Said (sameG g g') w) := by
 obtain ⟨W0, hW0⟩ := exq ((w.alloc (.cells #[.slice A R cap, .int .i64 g.row, .int .i64 g.col] 32)).alloc (.cells #[.slice A' R' cap', .int .i64 g'.row, .int .i64 g'.col] 32))
 have HB0 : Hid (Below w.heap.size w W0) := by unfold Hid; rw [← hW0]; exact two_new _ _ _ _ _
 have HX0 : Hid (Whole W0 (w.heap.size) 32 [.slice A R cap, .int .i64 g.row, .int .i64 g.col]) := by unfold Hid; rw [← hW0]; exact ((Whole.new _ _ _).alloc _)
 have HX1 : Hid (Whole W0 (w.heap.size + 1) 32 [.slice A' R' cap', .int .i64 g'.row, .int .i64 g'.col]) := by unfold Hid; rw [← hW0]; exact (whole_snd _ _ _ _)
 have HW0 := hide hW0; clear hW0; have HL := hide h
 have HL' := hide h'
 have HLen := hide hR
 have HLen' := hide hR'
 have HLn := hide hln
 obtain ⟨p0, p1, p2, lp⟩ := cells3 HX0.out
 obtain ⟨q0, q1, q2, lq⟩ := cells3 HX1.out
 clear h h' hln
 by_cases hne : R = R'
 ·have e1 : ((R : Int) != (R' : Int)) = false := by simp [hne]
  by_cases hrow : g.row = g'.row
  ·have e2 : ((g.row : Int) != (g'.row : Int)) = false := by simp [hrow]
   by_cases hcol : g.col = g'.col
   ·have e3 : ((g.col : Int) != (g'.col : Int)) = false := by simp [hcol]
    have HS : Hid (sameG g g' = decide (g.ls = g'.ls)) := by unfold Hid sameG; simp [hrow, hcol]
    have HRR := hide hne
    have HQ := hide (ls_eq (n := R) hR (by rw [hR', hne]))
    clear hrow hcol hR hR' hne
    go_enter Tryz.func79, Tryz.ntmps79
    go_wp2; rw [HW0.out]; clear p0 p1 p2 lp q0 q1 q2 lq
    go_loopw [5] (fun i wr => ∃ k : Nat, k ≤ R ∧ i = .int .i64 k ∧ Below W0.heap.size W0 wr ∧ ∀ q, q < k → lAt g.ls q = lAt g'.ls q) (fun i _ => R - (intOf i).toNat)
    case atStart => exact ⟨0, Nat.zero_le _, rfl, Below.refl _ _, fun q hq => by omega⟩
    case round =>
     obtain ⟨k, hk, rfl, hb, hall⟩ := hrel
     have HB := hide hb; have HAll := hide hall; clear hb hall
     have HP := hide (HX0.out.later HB.out)
     have HP' := hide (HX1.out.later HB.out)
     obtain ⟨p0, p1, p2, lp⟩ := cells3 HP.out
     obtain ⟨q0, q1, q2, lq⟩ := cells3 HP'.out
     by_cases hlt : k < R
     ·have hlt' : k < R' := by rw [← HRR.out]; exact hlt
      obtain ⟨b1, A1, c1, rfl, lb1, hc1, -, hr1, -⟩ := (HL.out.below (HB0.out.trans (HB.out.mono HB0.out.size))).at (i := k) (by rw [HLen.out]; exact hlt)
      obtain ⟨b2, A2, c2, rfl, lb2, hc2, -, hr2, -⟩ := (HL'.out.below (HB0.out.trans (HB.out.mono HB0.out.size))).at (i := k) (by rw [HLen'.out]; exact hlt')
      have HR1 := hide hr1; have HR2 := hide hr2
      have HLk := hide (HLn.out k hlt)
      clear hr1 hr2
      by_cases hq : lAt g.ls k = lAt g'.ls k
      ·have HE : Hid (decide (lAt g.ls k = lAt g'.ls k) = true) := by unfold Hid; simpa using hq
       have HKQ := hide hq; clear hq; go_wp2
       refine rgL (fun w' => Below wr.heap.size wr w') 10 [(0, 2), (0, 7), (0, 0), (0, 5), (0, 1), (0, 3), (0, 4), (1, 6), (1, 8), (1, 9), (3, 10), (3, 11)] bd1 ?_
       iterate 4 refine stL (h := ?_)
       refine stL (hy := fun w hS => by obtain ⟨e0, e1, e2, -⟩ := cells3 (HP.out.later hS); go_simp <;> with_reducible rfl) (h := ?_)
       refine stL (h := ?_)
       refine stL (hy := fun w hS => by have f0 : w.cell? ⟨b1, k, none⟩ = some (.slice A1 (lAt g.ls k).length c1) := (hS.cell (p := ⟨b1, k, none⟩) lb1).trans hc1; go_simp <;> with_reducible rfl) (h := ?_)
       refine alL fun K hK => ?_
       go_wp2
       refine hK.out _ _ bd1 ?_
       clear hK K
       refine alL fun K hK => ?_
       go_wp2
       refine hK.out _ _ bd1 ?_
       clear hK K
       refine alL fun K hK => ?_
       go_wp2
       refine hK.out _ _ bd1 ?_
       clear hK K
       refine laL fun K hK => ?_
       go_wp2_with fail
       refine (rsame6_any A1 A2 _ c1 _ c2 _ _ _ HR1.out.drew HR2.out.drew rfl rfl HLk.out).mono ?_
       rintro e k1 ⟨rfl, hb⟩
       rw [HE.out]
       have Bk1 : Below wr.heap.size wr k1 := ((Below.refl wr.heap.size wr).drewN 1).trans hb
       clear hb; go_wp2
       refine hK.out _ _ ?_
       clear hK K
       refine laL fun K hK => ?_
       go_wp2
       refine hK.out _ _ ?_
       clear hK K
       refine chainL_nil ?_
       have HB1 := hide (HB.out.trans (Bk1.mono HB.out.size))
       clear Bk1 p0 p1 p2 lp q0 q1 q2 lq hc1 hc2 lb1 lb2; go_wp2
       go_roundw
       case rel => exact ⟨k + 1, by omega, by go_num, HB1.out, fun q hq => by
        by_cases e : q = k
        ·rw [e]; exact HKQ.out
        ·exact HAll.out q (by omega)⟩
       case measure => simp [intOf]; omega
      ·have HE : Hid (decide (lAt g.ls k = lAt g'.ls k) = false) := by unfold Hid; simpa using hq
       have HN : Hid (sameG g g' = false) := by
        unfold Hid
        rw [HS.out, decide_eq_false_iff_not]
        intro e
        exact hq (by rw [e])
       clear hq; go_wp2
       refine rgL (fun w' => Below wr.heap.size wr w') 10 [(0, 2), (0, 7), (0, 0), (0, 5), (0, 1), (0, 3), (0, 4), (1, 6), (1, 8), (1, 9), (3, 10), (3, 11)] bd1 ?_
       iterate 4 refine stL (h := ?_)
       refine stL (hy := fun w hS => by obtain ⟨e0, e1, e2, -⟩ := cells3 (HP.out.later hS); go_simp <;> with_reducible rfl) (h := ?_)
       refine stL (h := ?_)
       refine stL (hy := fun w hS => by have f0 : w.cell? ⟨b1, k, none⟩ = some (.slice A1 (lAt g.ls k).length c1) := (hS.cell (p := ⟨b1, k, none⟩) lb1).trans hc1; go_simp <;> with_reducible rfl) (h := ?_)
       refine alL fun K hK => ?_
       go_wp2
       refine hK.out _ _ bd1 ?_
       clear hK K
       refine alL fun K hK => ?_
       go_wp2
       refine hK.out _ _ bd1 ?_
       clear hK K
       refine alL fun K hK => ?_
       go_wp2
       refine hK.out _ _ bd1 ?_
       clear hK K
       refine laL fun K hK => ?_
       go_wp2_with fail
       refine (rsame6_any A1 A2 _ c1 _ c2 _ _ _ HR1.out.drew HR2.out.drew rfl rfl HLk.out).mono ?_
       rintro e k1 ⟨rfl, hb⟩
       rw [HE.out]
       have Bk1 : Below wr.heap.size wr k1 := ((Below.refl wr.heap.size wr).drewN 1).trans hb
       clear hb; go_wp2
       refine hK.out _ _ ?_
       clear hK K
       refine laL fun K hK => ?_
       go_wp2
       refine hK.out _ _ ?_
       clear hK K
       refine chainL_nil ?_
       have HB1 := hide (HB.out.trans (Bk1.mono HB.out.size))
       clear Bk1 p0 p1 p2 lp q0 q1 q2 lq hc1 hc2 lb1 lb2; go_wp2; go_ret
       exact ⟨ret_bool HN.out.symm, HB0.out.trans (HB1.out.mono HB0.out.size)⟩
     ·have HY : Hid (sameG g g' = true) := by unfold Hid; rw [HS.out]; exact HQ.out.2 fun i hi => HAll.out i (by omega)
      go_wp2; go_ret
      exact ⟨ret_bool HY.out.symm, HB0.out.trans (HB.out.mono HB0.out.size)⟩
   ·have e3 : ((g.col : Int) != (g'.col : Int)) = true := by simp; omega
    have HS : Hid (sameG g g' = false) := by unfold Hid sameG; simp [hcol]
    clear hrow hcol hR hR' hne
    go_enter Tryz.func79, Tryz.ntmps79
    go_wp2; go_ret; rw [HW0.out]
    exact ⟨ret_bool HS.out.symm, HB0.out⟩
  ·have e2 : ((g.row : Int) != (g'.row : Int)) = true := by simp; omega
   have HS : Hid (sameG g g' = false) := by unfold Hid sameG; simp [hrow]
   clear hrow hR hR' hne
   go_enter Tryz.func79, Tryz.ntmps79
   go_wp2; go_ret; rw [HW0.out]
   exact ⟨ret_bool HS.out.symm, HB0.out⟩
 ·have e1 : ((R : Int) != (R' : Int)) = true := by simp; omega
  have HS : Hid (sameG g g' = false) := by
   unfold Hid sameG
   rw [Bool.and_eq_false_iff]
   right
   rw [decide_eq_false_iff_not]
   intro e
   rw [e, hR'] at hR
   exact hne hR.symm
  clear hR hR' hne
  go_enter Tryz.func79, Tryz.ntmps79
  go_wp2; go_ret; rw [HW0.out]
  exact ⟨ret_bool HS.out.symm, HB0.out⟩
theorem gof_any {G L M R C : Nat} {g : Gd} {w : World} (h : Grd w G L M R C g) (hok : GOk g R C) : Calls Tryz.prog 80 #[.pointer (some ⟨G, 0, none⟩)] w (GaveD R g w) := by
 obtain ⟨W0, hW0⟩ := exq ((w.alloc (.cells #[.slice none 0 0, .int .i64 0, .int .i64 0] 32)).alloc (.cells #[.slice none 0 0, .int .i64 0, .int .i64 0] 32))
 have HB0 : Hid (Below w.heap.size w W0) := by unfold Hid; rw [← hW0]; exact two_new _ _ _ _ _
 have HX0 : Hid (Whole W0 (w.heap.size) 32 [.slice none 0 0, .int .i64 0, .int .i64 0]) := by unfold Hid; rw [← hW0]; exact ((Whole.new _ _ _).alloc _)
 have HX1 : Hid (Whole W0 (w.heap.size + 1) 32 [.slice none 0 0, .int .i64 0, .int .i64 0]) := by unfold Hid; rw [← hW0]; exact (whole_snd _ _ _ _)
 have HW0 := hide hW0; clear hW0; have HG := hide h
 have hR1 := hok.r1
 have hR2 := hok.r2
 have hC2 := hok.c2
 have HGO := hide hok; have HLen := hide hok.len; clear h hok
 go_enter Tryz.func80, Tryz.ntmps80
 go_wp2; rw [HW0.out]
 go_loopw [4] (fun i wr => ∃ (k : Nat) (v : Value), k ≤ R ∧ i = .int .i64 k ∧ RwsC w.heap.size w wr v (gtab k (lAt g.ls)) ∧ Whole wr (w.heap.size + 1) 32 [v, .int .i64 0, .int .i64 0] ∧ Whole wr w.heap.size 32 [.slice none 0 0, .int .i64 0, .int .i64 0]) (fun i _ => R - (intOf i).toNat)
 case atStart => exact ⟨0, _, Nat.zero_le _, rfl, RwsC.from0 HB0.out.size HB0.out, HX1.out, HX0.out⟩
 case round =>
  obtain ⟨k, v, hk, rfl, hv, hq, hp⟩ := hrel
  have HV := hide hv; have HQ := hide hq; have HP := hide hp
  obtain ⟨Av, cv, rfl, -⟩ := hv.form
  rw [gtab_len] at HV HQ hq
  clear hv hp
  have HR := hide (rows_any (HG.out.later HV.out.bel))
  by_cases hlt : k < R
  ·have HNr := hide (HGO.out.each k hlt).1
   have HLB := hide (HGO.out.each k hlt).2.2
   clear hq; go_wp2_with fail
   refine HR.out.mono ?_
   rintro e w1 ⟨rfl, rfl⟩
   go_wp2
   refine rgL (fun w' => Below wr.heap.size wr w') 7 [(0, 2), (0, 3), (0, 0), (0, 1), (1, 4), (1, 5), (1, 6), (3, 7), (3, 8), (3, 9)] bd1 ?_
   iterate 3 refine stL (h := ?_)
   refine stL (hy := fun w hS => by obtain ⟨b0, b1, b2, -⟩ := cells3 (HQ.out.later hS); go_simp <;> with_reducible rfl) (h := ?_)
   refine alL fun K hK => ?_
   go_wp2_with fail
   refine (gline_any (HG.out.later (HV.out.bel.drewN 1)) k (by unfold hasG; omega) (by omega)).mono ?_
   rintro e k1 ⟨x, rfl, hx⟩
   rw [Int.toNat_natCast] at hx
   obtain ⟨A1, c1, rfl, hc1, -⟩ := hx.form
   have Bk1 : Below wr.heap.size wr k1 := bd1.trans hx.bel
   have HC1 := hide hc1
   rw [HNr.out]
   clear hx hc1; go_wp2
   refine hK.out _ _ (Bk1) ?_
   clear hK K
   refine alL fun K hK => ?_
   go_wp2_with fail
   refine (lineof_any A1 C c1 _ k1 HC1.out HNr.out (by omega) HLB.out).mono ?_
   rintro e k2 ⟨x, rfl, hx⟩
   have Bk2 : Below wr.heap.size wr k2 := Bk1.trans (hx.bel.mono Bk1.size)
   have HX := hide hx.rowOk
   have HV1 := hide (HV.out.later Bk2)
   have HQ1 := hide (HQ.out.later Bk2)
   have HP1 := hide (HP.out.later Bk2)
   obtain ⟨Ax, cx, rfl, -⟩ := hx.rowOk
   clear hx; go_wp2
   refine hK.out _ _ (Bk2) ?_
   clear hK K
   refine alL fun K hK => ?_
   go_wp2
   refine hK.out _ _ (Bk2.alloc Bk2.size _) ?_
   clear hK K
   refine laL fun K hK => ?_
   go_wp2_with (at_builtin; refine stopw ?_)
   unfold Hid
   refine wpList_pushL rfl _ _ rfl rfl rfl HV1.out HX.out (by rw [gtab_len]; omega) ?_
   intro v2 w2 hown hoth
   have HV2 : Hid (RwsC w.heap.size w w2 v2 (gtab (k + 1) (lAt g.ls))) := by unfold Hid; rw [gtab_snoc]; exact hown
   have HQ2 := hide (hoth _ _ _ (by decide) HQ1.out)
   have HP2 := hide (hoth _ _ _ (by decide) HP1.out)
   clear hown hoth
   obtain ⟨A2, cap2, rfl, -⟩ := HV2.out.form
   rw [gtab_len] at HV2 ⊢
   obtain ⟨d0, d1, d2, ld⟩ := cells3 HQ2.out
   have hz := HQ2.out.frozen
   go_wp2
   refine hK.out _ _ ?_
   clear hK K
   refine laL fun K hK => ?_
   go_wp2
   refine hK.out _ _ ?_
   clear hK K
   refine laL fun K hK => ?_
   go_wp2
   refine hK.out _ _ ?_
   clear hK K
   refine chainL_nil ?_
   have HQ3 := hide (HQ2.out.put 0 (.slice A2 (k + 1) cap2))
   have HP3 := hide (HP2.out.far (Only.put (g := w.heap.size + 1) 0 (.slice A2 (k + 1) cap2)) (by omega))
   have HV3 := hide (HV2.out.put (i := 0) (u := .slice A2 (k + 1) cap2) HQ2.out (by decide) (by decide) (by omega))
   clear d0 d1 d2 ld hz Bk1 Bk2; go_wp2
   go_roundw
   case rel => exact ⟨k + 1, _, by omega, by go_num, HV3.out, HQ3.out, HP3.out⟩
   case measure => simp [intOf]; omega
  ·obtain rfl : k = R := by omega
   have HCu := hide (row_any (HG.out.later HV.out.bel))
   have HCc := hide (col_any (HG.out.later HV.out.bel))
   have hqf := hq.frozen
   obtain ⟨b0, b1, b2, lb⟩ := cells3 hq
   obtain ⟨d0, d1, d2, ld⟩ := cells3 HP.out
   have hz := HP.out.frozen
   clear hq; go_wp2_with fail
   refine HR.out.mono ?_
   rintro e w1 ⟨rfl, rfl⟩
   go_wp2_with fail
   refine HCu.out.mono ?_
   rintro e w1 ⟨rfl, rfl⟩
   go_wp2_with fail
   refine HCc.out.mono ?_
   rintro e w1 ⟨rfl, rfl⟩
   obtain ⟨W3, hW3⟩ := exq ((wr.setCell ⟨w.heap.size + 1, 1, none⟩ (.int .i64 g.row)).setCell ⟨w.heap.size + 1, 2, none⟩ (.int .i64 g.col))
   have HQ3 : Hid (Whole W3 (w.heap.size + 1) 32 [.slice Av k cv, .int .i64 g.row, .int .i64 g.col]) := by unfold Hid; rw [← hW3]; exact (HQ.out.put 1 _).put 2 _
   have HP3 : Hid (Whole W3 w.heap.size 32 [.slice none 0 0, .int .i64 0, .int .i64 0]) := by unfold Hid; rw [← hW3]; exact HP.out.far ((Only.put (g := w.heap.size + 1) _ _).trans (Only.put _ _)) (by omega)
   have HV3 : Hid (RwsC w.heap.size w W3 (.slice Av k cv) (gtab k (lAt g.ls))) := by unfold Hid; rw [← hW3]; exact (HV.out.put (i := 1) HQ.out (by decide) (by decide) (by omega)).put (i := 2) (HQ.out.put 1 _) (by decide) (by decide) (by omega)
   have HF : Hid (gtab k (lAt g.ls) = g.ls) := by unfold Hid; rw [← HLen.out]; exact gtab_self _
   obtain ⟨f0, f1, f2, lf⟩ := cells3 HQ3.out
   obtain ⟨h0, h1, h2, lh⟩ := cells3 HP3.out
   have hz3 := HP3.out.frozen
   go_wp2
   refine retG Tryz.results80 rfl rfl (put3 HP3.out _ _ _) ⟨Av, cv, rfl, ?_, below_put3 HV3.out.bel (Nat.le_refl _) _ _ _⟩
   obtain ⟨A3, c3, e3, -, -, -, hL⟩ := HV3.out.form
   rw [gtab_len] at e3
   cases e3
   rw [HF.out] at hL
   exact hL.put3 HP3.out (by decide) (by decide) _ _ _
theorem rgput_any (A : Option Addr) (R C cap : Nat) (g : Gd) (w : World) (h : Lns w A g.ls) (hok : GOk g R C) (R0 at_ r m x : Int) (d f y b : Nat) (hd : d < 256) (ha : -9223372036854775808 ≤ at_ ∧ at_ < 9223372036854775808) :
  Calls Tryz.prog 106 #[.agg #[.slice A R cap, .int .i64 g.row, .int .i64 g.col], .int .i64 R0, .int .i64 at_, .agg #[.int .i64 r, .int .i64 m, .int .i64 x, .int .u8 d, .int .u8 f, .int .u8 y, .int .u8 b]] w (GaveD2 R (putG g R0 at_ ⟨r, m, x, d, ⟨f, y, b⟩⟩) (putGOk g R0 at_ ⟨r, m, x, d, ⟨f, y, b⟩⟩) w) := by
 obtain ⟨W0, hW0⟩ := exq (((w.alloc (.cells #[.slice A R cap, .int .i64 g.row, .int .i64 g.col] 32)).alloc (.cells #[.int .i64 r, .int .i64 m, .int .i64 x, .int .u8 d, .int .u8 f, .int .u8 y, .int .u8 b] 166)).alloc (.cells #[.slice none 0 0, .int .i64 0, .int .i64 0] 32))
 have HB0 : Hid (Below w.heap.size w W0) := by unfold Hid; rw [← hW0]; exact three_new w _ _ _
 have HX0 : Hid (Whole W0 (w.heap.size) 32 [.slice A R cap, .int .i64 g.row, .int .i64 g.col]) := by unfold Hid; rw [← hW0]; exact (((Whole.new _ _ _).alloc _).alloc _)
 have HX1 : Hid (Whole W0 (w.heap.size + 1) 166 [.int .i64 r, .int .i64 m, .int .i64 x, .int .u8 d, .int .u8 f, .int .u8 y, .int .u8 b]) := by unfold Hid; rw [← hW0]; exact ((whole_snd _ _ _ _).alloc _)
 have HX2 : Hid (Whole W0 (w.heap.size + 2) 32 [.slice none 0 0, .int .i64 0, .int .i64 0]) := by unfold Hid; rw [← hW0]; exact (whole_thd w _ _ 32 [.slice none 0 0, .int .i64 0, .int .i64 0])
 have HW0 := hide hW0; clear hW0
 have HL := hide (h.below HB0.out)
 have HGO := hide hok
 have hR1 := hok.r1
 have hR2 := hok.r2
 have hC0 := hok.c1
 have hC2 := hok.c2
 have hC1 : C ≤ 1000000 := by omega
 have HLen := hide hok.len
 obtain ⟨p0, p1, p2, lp⟩ := cells3 HX0.out
 obtain ⟨z0, z1, z2, lz⟩ := cells3 HX2.out
 have hzf := HX2.out.frozen
 have HA := hide ha; clear h hok ha
 by_cases hr : hasG R R0
 ·obtain ⟨q, hq⟩ : ∃ q : Nat, R0 = (q : Int) := ⟨R0.toNat, by unfold hasG at hr; omega⟩
  subst hq
  have hqR : q < R := by unfold hasG at hr; omega
  clear hr
  have HGE : Hid (putG g (q : Int) at_ ⟨r, m, x, d, ⟨f, y, b⟩⟩ = { g with ls := g.ls.set q (putC (lAt g.ls q) at_ ⟨r, m, x, d, ⟨f, y, b⟩⟩) }) := by unfold Hid putG; rw [if_pos (by unfold hasG; rw [HLen.out]; omega), Int.toNat_natCast]
  have HGK : Hid (putGOk g (q : Int) at_ ⟨r, m, x, d, ⟨f, y, b⟩⟩ = putOk (lAt g.ls q) at_ ⟨r, m, x, d, ⟨f, y, b⟩⟩) := by unfold Hid putGOk; rw [HLen.out, hasG_in hqR, Int.toNat_natCast, Bool.true_and]
  obtain ⟨X, hX⟩ := exq (putC (lAt g.ls q) at_ ⟨r, m, x, d, ⟨f, y, b⟩⟩)
  obtain ⟨ok, hok⟩ := exq (putOk (lAt g.ls q) at_ ⟨r, m, x, d, ⟨f, y, b⟩⟩)
  rw [hX] at HGE
  rw [hok] at HGK
  have HNr := hide ((HGO.out.each q hqR).1)
  have HXL : Hid (X.length = C) := by unfold Hid; rw [← hX, put_len, HNr.out]
  have HXX := hide hX; have HOK := hide hok; clear hX hok
  go_enter Tryz.func106, Tryz.ntmps106
  go_wp2_with fail
  rw [HW0.out]
  refine (rhas_any A R cap g.row g.col q W0).mono ?_
  rintro e W1 ⟨rfl, hb⟩
  rw [hasG_in hqR]
  have HL1 := hide (HL.out.below hb)
  have HP := hide (HX0.out.later hb)
  have HZ := hide (HX2.out.later hb)
  have HY := hide (HX1.out.later hb)
  have HB1 := hide (HB0.out.trans (hb.mono HB0.out.size))
  clear hb p0 p1 p2 lp z0 z1 z2 lz hzf
  obtain ⟨b0, A', c', rfl, lb, hcell, -, hcels, hA'⟩ := HL1.out.at (i := q) (by rw [HLen.out]; exact hqR)
  rw [HNr.out] at hcell
  have HCr := hide hcels; clear hcels
  obtain ⟨p0, p1, p2, lp⟩ := cells3 HP.out
  obtain ⟨a0, a1, a2, a3, a4, a5, a6, la⟩ := cells7 HY.out
  go_wp2
  refine rgL (fun w' => Below W1.heap.size W1 w') 12 [(0, 2), (0, 5), (0, 0), (0, 1), (0, 3), (0, 4), (1, 6), (1, 7), (1, 8), (2, 9), (2, 11), (1, 10), (3, 12)] bd1 ?_
  iterate 3 refine stL (h := ?_)
  refine stL (hy := fun w hS => by obtain ⟨e0, e1, e2, -⟩ := cells3 (HP.out.later hS); go_simp <;> with_reducible rfl) (h := ?_)
  refine stL (h := ?_)
  refine stL (hy := fun w hS => by have f0 : w.cell? ⟨b0, q, none⟩ = some (.slice A' C c') := (hS.cell (p := ⟨b0, q, none⟩) lb).trans hcell; go_simp <;> with_reducible rfl) (h := ?_)
  refine alL fun K hK => ?_
  go_wp2
  refine hK.out _ _ bd1 ?_
  clear hK K
  refine alL fun K hK => ?_
  go_wp2_with fail
  refine (rput_v at_ r m x d f y b HA.out HXX.out HOK.out HCr.out.drew HNr.out hC1 hd).mono ?_
  rintro e k1 ⟨A1, c1, rfl, hc1, hb⟩
  have HC1 := hide hc1; clear hc1
  have Bk1 : Below W1.heap.size W1 k1 := ((Below.refl W1.heap.size W1).drewN 1).trans hb
  clear hb; go_wp2
  refine hK.out _ _ (Bk1) ?_
  clear hK K
  refine alL fun K hK => ?_
  go_wp2
  refine hK.out _ _ (Bk1) ?_
  clear hK K
  refine puL (h := ?_)
  refine puL (h := ?_)
  refine alL fun K hK => ?_
  go_wp2
  refine hK.out _ _ (Bk1) ?_
  clear hK K
  refine laL fun K hK => ?_
  go_wp2
  refine hK.out _ _ ?_
  clear hK K
  refine chainL_nil ?_
  have HBk := hide Bk1; clear Bk1 a0 a1 a2 a3 a4 a5 a6 la
  have HL2 := hide (HL1.out.below HBk.out)
  have HP2 := hide (HP.out.later HBk.out)
  have HZ2 := hide (HZ.out.later HBk.out)
  have HB2 := hide (HB1.out.trans (HBk.out.mono HB1.out.size))
  clear p0 p1 p2 lp
  obtain ⟨p0, p1, p2, lp⟩ := cells3 HP2.out
  go_wp2_with fail
  refine (with7_any _ R cap g.row g.col g.ls k1 HL2.out HLen.out hR2 q hqR A1 C c1 X HC1.out HXL.out hC0 hC1).mono ?_
  rintro e k2 ⟨A2, cap2, rfl, hl, hb⟩
  have HL3 := hide hl
  have HZ3 := hide (HZ2.out.later hb)
  have HB3 := hide (HB2.out.trans (hb.mono HB2.out.size))
  clear hl hb p0 p1 p2 lp
  obtain ⟨z0, z1, z2, lz⟩ := cells3 HZ3.out
  have hzf := HZ3.out.frozen
  go_wp2
  refine retG2 Tryz.results106 rfl rfl rfl (put3 HZ3.out _ _ _) ⟨A2, cap2, ?_, ?_, below_put3 HB3.out (by omega) _ _ _⟩
  ·rw [HGE.out, HGK.out]; rfl
  ·rw [HGE.out]
   exact HL3.out.put3 HZ3.out (by decide) (by decide) _ _ _
 ·have HD : Hid (decide (hasG R R0) = false) := by unfold Hid; simp [hr]
  have HGE : Hid (putG g R0 at_ ⟨r, m, x, d, ⟨f, y, b⟩⟩ = g ∧ putGOk g R0 at_ ⟨r, m, x, d, ⟨f, y, b⟩⟩ = false) := by
   unfold Hid putG putGOk
   rw [HLen.out, if_neg hr]
   simp [hr]
  clear hr
  go_enter Tryz.func106, Tryz.ntmps106
  go_wp2_with fail
  rw [HW0.out]
  refine (rhas_any A R cap g.row g.col R0 W0).mono ?_
  rintro e W1 ⟨rfl, hb⟩
  rw [HD.out]
  have HL1 := hide (HL.out.below hb)
  have HP := hide (HX0.out.later hb)
  have HZ := hide (HX2.out.later hb)
  have HB1 := hide (HB0.out.trans (hb.mono HB0.out.size))
  clear hb p0 p1 p2 lp z0 z1 z2 lz hzf
  obtain ⟨p0, p1, p2, lp⟩ := cells3 HP.out
  obtain ⟨z0, z1, z2, lz⟩ := cells3 HZ.out
  have hzf := HZ.out.frozen
  go_wp2
  refine retG2 Tryz.results106 rfl rfl rfl (put3 HZ.out _ _ _) ⟨A, cap, ?_, ?_, below_put3 HB1.out (by omega) _ _ _⟩
  ·rw [HGE.out.1, HGE.out.2]; rfl
  ·rw [HGE.out.1]
   exact HL1.out.put3 HZ.out (by decide) (by decide) _ _ _
theorem rgmark_any (A : Option Addr) (R C cap : Nat) (g : Gd) (w : World) (h : Lns w A g.ls) (hok : GOk g R C) (R0 at_ y : Int) :
  Calls Tryz.prog 104 #[.agg #[.slice A R cap, .int .i64 g.row, .int .i64 g.col], .int .i64 R0, .int .i64 at_, .int .i64 y] w (GaveD2 R (markG g R0 at_ y) (markGOk g R0 at_ y) w) := by
 obtain ⟨W0, hW0⟩ := exq ((w.alloc (.cells #[.slice A R cap, .int .i64 g.row, .int .i64 g.col] 32)).alloc (.cells #[.slice none 0 0, .int .i64 0, .int .i64 0] 32))
 have HB0 : Hid (Below w.heap.size w W0) := by unfold Hid; rw [← hW0]; exact two_new _ _ _ _ _
 have HX0 : Hid (Whole W0 (w.heap.size) 32 [.slice A R cap, .int .i64 g.row, .int .i64 g.col]) := by unfold Hid; rw [← hW0]; exact ((Whole.new _ _ _).alloc _)
 have HX1 : Hid (Whole W0 (w.heap.size + 1) 32 [.slice none 0 0, .int .i64 0, .int .i64 0]) := by unfold Hid; rw [← hW0]; exact (whole_snd _ _ _ _)
 have HW0 := hide hW0; clear hW0
 have HL := hide (h.below HB0.out)
 have HGO := hide hok
 have hR1 := hok.r1
 have hR2 := hok.r2
 have hC0 := hok.c1
 have hC2 := hok.c2
 have hC1 : C ≤ 1000000 := by omega
 have HLen := hide hok.len
 obtain ⟨p0, p1, p2, lp⟩ := cells3 HX0.out
 obtain ⟨z0, z1, z2, lz⟩ := cells3 HX1.out
 have hzf := HX1.out.frozen
 clear h hok
 by_cases hr : hasG R R0
 ·obtain ⟨q, hq⟩ : ∃ q : Nat, R0 = (q : Int) := ⟨R0.toNat, by unfold hasG at hr; omega⟩
  subst hq
  have hqR : q < R := by unfold hasG at hr; omega
  clear hr
  have HGE : Hid (markG g (q : Int) at_ y = { g with ls := g.ls.set q ((lmarkC (lAt g.ls q) at_ y).1) }) := by unfold Hid markG; rw [if_pos (by unfold hasG; rw [HLen.out]; omega), Int.toNat_natCast]
  have HGK : Hid (markGOk g (q : Int) at_ y = (lmarkC (lAt g.ls q) at_ y).2) := by unfold Hid markGOk; rw [HLen.out, hasG_in hqR, Int.toNat_natCast, Bool.true_and]
  obtain ⟨X, hX⟩ := exq ((lmarkC (lAt g.ls q) at_ y).1)
  obtain ⟨ok, hok⟩ := exq ((lmarkC (lAt g.ls q) at_ y).2)
  rw [hX] at HGE
  rw [hok] at HGK
  have HNr := hide ((HGO.out.each q hqR).1)
  have HXL : Hid (X.length = C) := by unfold Hid; rw [← hX, lmark_len, HNr.out]
  have HXX : Hid (lmarkC (lAt g.ls q) at_ y = (X, ok)) := by unfold Hid; rw [← hX, ← hok]
  clear hX hok
  go_enter Tryz.func104, Tryz.ntmps104
  go_wp2_with fail
  rw [HW0.out]
  refine (rhas_any A R cap g.row g.col q W0).mono ?_
  rintro e W1 ⟨rfl, hb⟩
  rw [hasG_in hqR]
  have HL1 := hide (HL.out.below hb)
  have HP := hide (HX0.out.later hb)
  have HZ := hide (HX1.out.later hb)
  have HB1 := hide (HB0.out.trans (hb.mono HB0.out.size))
  clear hb p0 p1 p2 lp z0 z1 z2 lz hzf
  obtain ⟨b0, A', c', rfl, lb, hcell, -, hcels, hA'⟩ := HL1.out.at (i := q) (by rw [HLen.out]; exact hqR)
  rw [HNr.out] at hcell
  have HCr := hide hcels; clear hcels
  obtain ⟨p0, p1, p2, lp⟩ := cells3 HP.out
  go_wp2_with fail
  refine (rlmark_v at_ y HXX.out HCr.out HNr.out hC1 hA').mono ?_
  rintro e k1 ⟨A1, c1, rfl, hc1, hb⟩
  have HC1 := hide hc1; clear hc1; have HBk := hide hb; clear hb
  have HL2 := hide (HL1.out.below HBk.out)
  have HP2 := hide (HP.out.later HBk.out)
  have HZ2 := hide (HZ.out.later HBk.out)
  have HB2 := hide (HB1.out.trans (HBk.out.mono HB1.out.size))
  clear p0 p1 p2 lp
  obtain ⟨p0, p1, p2, lp⟩ := cells3 HP2.out
  go_wp2_with fail
  refine (with7_any _ R cap g.row g.col g.ls k1 HL2.out HLen.out hR2 q hqR A1 C c1 X HC1.out HXL.out hC0 hC1).mono ?_
  rintro e k2 ⟨A2, cap2, rfl, hl, hb⟩
  have HL3 := hide hl
  have HZ3 := hide (HZ2.out.later hb)
  have HB3 := hide (HB2.out.trans (hb.mono HB2.out.size))
  clear hl hb p0 p1 p2 lp
  obtain ⟨z0, z1, z2, lz⟩ := cells3 HZ3.out
  have hzf := HZ3.out.frozen
  go_wp2
  refine retG2 Tryz.results104 rfl rfl rfl (put3 HZ3.out _ _ _) ⟨A2, cap2, ?_, ?_, below_put3 HB3.out (by omega) _ _ _⟩
  ·rw [HGE.out, HGK.out]; rfl
  ·rw [HGE.out]
   exact HL3.out.put3 HZ3.out (by decide) (by decide) _ _ _
 ·have HD : Hid (decide (hasG R R0) = false) := by unfold Hid; simp [hr]
  have HGE : Hid (markG g R0 at_ y = g ∧ markGOk g R0 at_ y = false) := by
   unfold Hid markG markGOk
   rw [HLen.out, if_neg hr]
   simp [hr]
  clear hr
  go_enter Tryz.func104, Tryz.ntmps104
  go_wp2_with fail
  rw [HW0.out]
  refine (rhas_any A R cap g.row g.col R0 W0).mono ?_
  rintro e W1 ⟨rfl, hb⟩
  rw [HD.out]
  have HL1 := hide (HL.out.below hb)
  have HP := hide (HX0.out.later hb)
  have HZ := hide (HX1.out.later hb)
  have HB1 := hide (HB0.out.trans (hb.mono HB0.out.size))
  clear hb p0 p1 p2 lp z0 z1 z2 lz hzf
  obtain ⟨p0, p1, p2, lp⟩ := cells3 HP.out
  obtain ⟨z0, z1, z2, lz⟩ := cells3 HZ.out
  have hzf := HZ.out.frozen
  go_wp2
  refine retG2 Tryz.results104 rfl rfl rfl (put3 HZ.out _ _ _) ⟨A, cap, ?_, ?_, below_put3 HB1.out (by omega) _ _ _⟩
  ·rw [HGE.out.1, HGE.out.2]; rfl
  ·rw [HGE.out.1]
   exact HL1.out.put3 HZ.out (by decide) (by decide) _ _ _
def pn_eqP (f g b f' g' b' : Int) : Bool := (f == f') && ((g == g') && (b == b'))
def threeFields (P : Program) (t : TypeId) : Prop := (P.fieldsOf t).toList.map (fun f => (f.name == "_", f.type, f.offset)) = [(false, 5, 0), (false, 5, 1), (false, 5, 2)]
theorem fields38 : threeFields Tryz.prog 38 := by unfold threeFields; kernel_rfl
theorem pn_part5 (xs : Array Value) (i : Nat) (x : Int) (h : xs[i]? = some (.int .u8 x)) (w : World) : (part 5 xs i).run Tryz.prog w = .ok (.int .u8 x) w := by
 unfold part
 simp [go_sem, h]
theorem equal3 (t : TypeId) (ht : Tryz.prog.underlying t = some (.struct (Tryz.prog.fieldsOf t))) (hp : Tryz.prog.stoodInHeld t = false) (h3 : threeFields Tryz.prog t) (d : Nat) (w : World) (f g b f' g' b' : Int) :
  (Op.equalIn (d + 2) t (.agg #[.int .u8 f, .int .u8 g, .int .u8 b]) (.agg #[.int .u8 f', .int .u8 g', .int .u8 b'])).run Tryz.prog w = .ok (pn_eqP f g b f' g' b') w := by
 rw [run_equalIn_agg w (d + 1) t _ _ ht hp]
 unfold threeFields at h3
 generalize (Tryz.prog.fieldsOf t).toList = fs at h3
 have hl : fs.length = 3 := by have := congrArg List.length h3; simpa using this
 match fs, hl with
 | [f0, f1, f2], _ =>
  simp only [List.map_cons, List.map_nil, List.cons.injEq, Prod.mk.injEq, beq_eq_false_iff_ne, ne_eq, and_true] at h3
  obtain ⟨⟨n0, t0, o0⟩, ⟨n1, t1, o1⟩, n2, t2, o2⟩ := h3
  simp only [Op.eqFields, n0, n1, n2, t0, t1, t2, o0, o1, o2, ne_eq, not_false_eq_true, if_true, Sem.run_bind, pn_part5 #[Value.int .u8 f, .int .u8 g, .int .u8 b] 0 f rfl, pn_part5 #[Value.int .u8 f, .int .u8 g, .int .u8 b] 1 g rfl, pn_part5 #[Value.int .u8 f, .int .u8 g, .int .u8 b] 2 b rfl,
   pn_part5 #[Value.int .u8 f', .int .u8 g', .int .u8 b'] 0 f' rfl, pn_part5 #[Value.int .u8 f', .int .u8 g', .int .u8 b'] 1 g' rfl, pn_part5 #[Value.int .u8 f', .int .u8 g', .int .u8 b'] 2 b' rfl, Result.andThen_ok, run_equalIn_int w d 5 .u8 .u8 _ _ Tryz.underlying5, Sem.run_ite, Sem.run_pure]
  unfold pn_eqP
  cases hf : f == f' <;> cases hg : g == g' <;> cases hb : b == b' <;> simp
theorem eql38 (f g b f' g' b' : Int) (w : World) : (binOp .eql 38 (.agg #[.int .u8 f, .int .u8 g, .int .u8 b]) (.agg #[.int .u8 f', .int .u8 g', .int .u8 b'])).run Tryz.prog w = .ok (.bool (pn_eqP f g b f' g' b')) w := by
 rw [run_eql_struct, equal3 38 Tryz.underlying38 Tryz.stoodInHeld38 fields38 9998]; rfl
def Penned (p : Pn) (w : World) (e : Ending) (w' : World) : Prop := e = .returned (.agg #[.int .u8 p.f, .int .u8 p.g, .int .u8 p.b]) ∧ Below w.heap.size w w'
def penL (p : Pn) : List Value := [.int .u8 p.f, .int .u8 p.g, .int .u8 p.b]
theorem ret_pen {f g b f' g' b' : Int} (h1 : f = f') (h2 : g = g') (h3 : b = b') : Ending.returned (.agg #[.int .u8 f, .int .u8 g, .int .u8 b]) = .returned (.agg #[.int .u8 f', .int .u8 g', .int .u8 b']) := by rw [h1, h2, h3]
theorem pn_bcell {W w1 : World} (hb : Below W.heap.size W w1) : (∀ b o, b < W.heap.size → w1.cell? ⟨b, o, none⟩ = W.cell? ⟨b, o, none⟩) ∧ (∀ b o, b < W.heap.size → w1.frozen? ⟨b, o, none⟩ = W.frozen? ⟨b, o, none⟩) :=
 ⟨fun b o h => hb.cell (p := ⟨b, o, none⟩) h, fun b o h => hb.frozen (p := ⟨b, o, none⟩) h⟩
theorem two_whole (w : World) (t : TypeId) (l : List Value) (o : Obj) : Whole ((w.alloc (.cells l.toArray t)).alloc o) w.heap.size t l := (Whole.new w t l).alloc o
theorem pn_whole_snd (w : World) (o : Obj) (t : TypeId) (l : List Value) : Whole ((w.alloc o).alloc (.cells l.toArray t)) (w.heap.size + 1) t l := by
 have := Whole.new (w.alloc o) t l
 have e : (w.alloc o).heap.size = w.heap.size + 1 := by simp
 rw [e] at this
 exact this
theorem pn_eqP_self (f g b : Int) : pn_eqP f g b f g b = true := by unfold pn_eqP; simp
theorem ret3 {R : Ending → World → Prop} {a : Act} {w : World} {fn : Func} {s : Nat} {q t : Nat} {x y z : Int} (hr : fn.results = #[.cell s t]) (ht : t = 65 ∨ t = 38) (h4 : a.tmps.getD s undef = .pointer (some ⟨q, 0, none⟩)) (hd : a.defers = [])
  (hw : Whole w q t [.int .u8 x, .int .u8 y, .int .u8 z]) (hR : R (.returned (.agg #[.int .u8 x, .int .u8 y, .int .u8 z])) w) : bodyPost Tryz.prog fn R .ret a w := by
 have c0 : w.cell? ⟨q, 0, none⟩ = some (.int .u8 x) := hw.cell 0
 have c1 : w.cell? ⟨q, 1, none⟩ = some (.int .u8 y) := hw.cell 1
 have c2 : w.cell? ⟨q, 2, none⟩ = some (.int .u8 z) := hw.cell 2
 clear hw
 rw [Array.getD_eq_getD_getElem?] at h4
 rcases ht with rfl | rfl
 ·exact bodyPost_ret (v := .agg #[.int .u8 x, .int .u8 y, .int .u8 z]) (by simp [results, hr, h4, c0, c1, c2, go_sem]) hd hR
 ·exact bodyPost_ret (v := .agg #[.int .u8 x, .int .u8 y, .int .u8 z]) (by simp [results, hr, h4, c0, c1, c2, go_sem]) hd hR
theorem pn_put3 {w : World} {q : Nat} {t : TypeId} {x y z x' y' z' : Value} (hw : Whole w q t [x, y, z]) : Whole (((w.setCell ⟨q, 0, none⟩ x').setCell ⟨q, 1, none⟩ y').setCell ⟨q, 2, none⟩ z') q t [x', y', z'] :=
 ((hw.put 0 x').put 1 y').put 2 z'
theorem pn_with_any (f g b m : Nat) (on : Bool) (hf : f < 256) (hm : m < 256) (w : World) :
  Calls Tryz.prog 117 #[.agg #[.int .u8 f, .int .u8 g, .int .u8 b], .int .u8 m, .bool on] w (Penned ⟨withN f m on, g, b⟩ w) := by
 have H1 := hide (u8_or_nat f m hf hm)
 have H2 := hide (u8_andNot_nat f m hf hm)
 cases on
 ·go_enter Tryz.func117, Tryz.ntmps117
  go_wp2
  refine bodyPost_ret (v := .agg #[.int .u8 (bits .andNot .u8 (f : Int) (m : Int)), .int .u8 g, .int .u8 b]) (by simp [results, Tryz.results117, go_sem]) rfl ⟨ret_pen H2.out rfl rfl, ?_⟩
  exact ((Below.refl _ _).alloc (Nat.le_refl _) _).alloc (by simp) _
 ·go_enter Tryz.func117, Tryz.ntmps117
  go_wp2
  refine bodyPost_ret (v := .agg #[.int .u8 (bits .or .u8 (f : Int) (m : Int)), .int .u8 g, .int .u8 b]) (by simp [results, Tryz.results117, go_sem]) rfl ⟨ret_pen H1.out rfl rfl, ?_⟩
  exact ((Below.refl _ _).alloc (Nat.le_refl _) _).alloc (by simp) _
theorem hasN_eq (x b : Nat) : (((x : Int) / (b : Int) % 2 == 1) = hasN x b) := by
 unfold hasN
 rw [Bool.eq_iff_iff]
 simp
 omega
theorem pn_has_any (x b : Nat) (hx : x < 256) (hb : 0 < b) (hb2 : b < 256) (w : World) : Calls Tryz.prog 111 #[.int .u8 x, .int .u8 b] w fun e w' => e = .returned (.bool (hasN x b)) ∧ w = w' := by
 go_enter Tryz.func111, Tryz.ntmps111
 go_wp2; go_ret
 exact ⟨ret_bool (hasN_eq x b), rfl⟩
theorem tab_i (w : World) (t : TypeId) (k : IntKind) (a b c d e : Int) (i : Nat) (hi : i < 5) :
  (w.alloc (.cells #[.int k a, .int k b, .int k c, .int k d, .int k e] t)).cell? ⟨w.heap.size, i, none⟩ = some (.int k ([a, b, c, d, e].getD i 0)) := by
 rw [World.cell?_alloc_at (w := w) _ t _ i rfl]
 match i, hi with
 | 0, _ => rfl
 | 1, _ => rfl
 | 2, _ => rfl
 | 3, _ => rfl
 | 4, _ => rfl
theorem on_any (i : Nat) (hi : i < 5) (w : World) : Calls Tryz.prog 110 #[.int .i64 i] w (Num .i64 (onC i) w) := by
 have hc : (w.alloc (.cells #[.int .i64 1, .int .i64 2, .int .i64 4, .int .i64 5, .int .i64 7] 3)).cell? ⟨w.heap.size, i, none⟩ = some (.int .i64 (onC i)) := tab_i w 3 .i64 1 2 4 5 7 i hi
 go_enter Tryz.func110, Tryz.ntmps110
 go_wp2; go_ret
 exact ⟨rfl, (Below.refl _ _).alloc (Nat.le_refl _) _⟩
theorem bit_any (i : Nat) (hi : i < 5) (w : World) : Calls Tryz.prog 112 #[.int .i64 i] w (Num .u8 (bitC i : Int) w) := by
 have hc := tab_i w 5 .u8 1 2 4 8 16 i hi
 have he : (([1, 2, 4, 8, 16] : List Int).getD i 0) = (bitC i : Int) := by
  unfold bitC
  match i, hi with
  | 0, _ => rfl
  | 1, _ => rfl
  | 2, _ => rfl
  | 3, _ => rfl
  | 4, _ => rfl
 rw [he] at hc
 clear he
 go_enter Tryz.func112, Tryz.ntmps112
 go_wp2; go_ret
 exact ⟨rfl, (Below.refl _ _).alloc (Nat.le_refl _) _⟩
theorem color_none (w : World) : Calls Tryz.prog 119 #[.int .i64 39] w fun e w' => e = .returned (.int .u8 0) ∧ w = w' := by
 go_enter Tryz.func119, Tryz.ntmps119
 go_wp2; go_ret
 exact ⟨rfl, rfl⟩
theorem color_bright (n : Int) (h1 : 90 ≤ n) (h2 : n ≤ 97) (w : World) : Calls Tryz.prog 119 #[.int .i64 n] w fun e w' => e = .returned (.int .u8 ((n - 81).toNat : Int)) ∧ w = w' := by
 have h3 : (n == 39) = false := by simp; omega
 have H4 : Hid (((n - 81).toNat : Int) = n - 90 + 9) := by unfold Hid; omega
 go_enter Tryz.func119, Tryz.ntmps119
 go_wp2; go_ret
 exact ⟨ret_int H4.out.symm, rfl⟩
theorem color_dark (n : Int) (h1 : 30 ≤ n) (h2 : n ≤ 37) (w : World) : Calls Tryz.prog 119 #[.int .i64 n] w fun e w' => e = .returned (.int .u8 ((n - 29).toNat : Int)) ∧ w = w' := by
 have h3 : (n == 39) = false := by simp; omega
 have H4 : Hid (((n - 29).toNat : Int) = n - 30 + 1) := by unfold Hid; omega
 go_enter Tryz.func119, Tryz.ntmps119
 go_wp2; go_ret
 exact ⟨ret_int H4.out.symm, rfl⟩
end
end Go.Proofs.YtkijclgbpbhglaaGreatDoor
