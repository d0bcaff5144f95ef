/-
  The walk of the law GridSame.
-/
import Derived.Test.YtiifeniijcnahaaDoorGLoop
namespace Go.Proofs.YtiifeniijcnahaaDoor
set_option maxRecDepth 100000
open Go.ChangeShapes Go.WideShapes Go.ChangeAt Go.RowKit
set_option linter.unusedVariables false

set_option maxHeartbeats 8000000 in
theorem gridSame_walk (rows cols : Int) (A0 : Option Addr) (len cap0 : Nat) (A1 : Option Addr) (len' cap1 : Nat) (w : World) (hr : (Lit.int .i64 rows).wf = true) (hc : (Lit.int .i64 cols).wf = true) (ha : Acts w A0 len) (hb : Acts w A1 len') (hS : Spans w) :
    Calls Tryd.prog 3 #[.int .i64 rows, .int .i64 cols, .slice A0 len cap0, .slice A1 len' cap1] w fun e w' => e = .returned (.bool true) ∧ Below w.heap.size w w' := by
  have HA := hide ha
  have HB := hide hb
  have HS := hide hS
  obtain ⟨sr, hsr⟩ : ∃ sr, smallI rows = sr := ⟨_, rfl⟩
  obtain ⟨sc, hsc⟩ : ∃ sc, smallI cols = sc := ⟨_, rfl⟩
  have HSR := hide hsr
  have HSC := hide hsc
  clear ha hb hS hr hc hsr hsc
  by_cases hs : sizeN sr sc
  · obtain ⟨R0, C0, rfl, rfl, q1, q2, q3, q4⟩ := sizeN_small hs
    clear hs
    go_enter Tryd.func3, Tryd.ntmps3
    go_wp2_with fail
    refine (small_any rows w).mono ?_
    rintro e w1 ⟨rfl, rfl⟩
    rw [HSR.out]
    go_wp2_with fail
    refine (small_any cols w).mono ?_
    rintro e w1 ⟨rfl, rfl⟩
    rw [HSC.out]
    go_wp2_with fail
    refine (gnew_yes R0 C0 q1 q2 q3 q4 w).mono ?_
    rintro e w1 ⟨G1, L1, M1, rfl, hg, hb, n1, n2, n3⟩
    have HG1 := hide hg
    have HB1 := hide hb
    clear hg hb
    go_wp2_with fail
    refine (gnew_yes R0 C0 q1 q2 q3 q4 w1).mono ?_
    rintro e w2 ⟨G2, L2, M2, rfl, hg, hb, m1, m2, m3⟩
    have HG2 := hide hg
    have HG1' := hide (HG1.out.later hb)
    have HB2 := hide (HB1.out.trans (hb.mono HB1.out.size))
    have HNE00 : Hid (G2 ≠ G1 ∧ L2 ≠ L1 ∧ M2 ≠ M1) := by
      unfold Hid
      have := HG1.out.ltG
      have := HG1.out.ltL
      have := HG1.out.ltM
      omega
    have HM : Hid (w.heap.size ≤ G2 ∧ w.heap.size ≤ L2 ∧ w.heap.size ≤ M2) := by unfold Hid; have := HB1.out.size; omega
    have HN : Hid (w.heap.size ≤ G1 ∧ w.heap.size ≤ L1 ∧ w.heap.size ≤ M1) := ⟨n1, n2, n3⟩
    clear hg hb n1 n2 n3 m1 m2 m3
    go_wp2_with fail
    refine (rgnew_v R0 C0 q1 q2 w2).mono ?_
    rintro e w3 ⟨c1, cap3, rfl, hl, hb, -⟩
    have HL3 := hide hl
    have HG13 := hide (HG1'.out.later hb)
    have HG23 := hide (HG2.out.later hb)
    have HB3 := hide (HB2.out.trans (hb.mono HB2.out.size))
    clear hl hb
    go_wp2_with fail
    refine (rgnew_v R0 C0 q1 q2 w3).mono ?_
    rintro e w4 ⟨c2, cap2, rfl, hl, hb, -⟩
    obtain ⟨Q13, hQ⟩ : ∃ Q13, w4.heap.size = Q13 := ⟨_, rfl⟩
    obtain ⟨Q14, hQ'⟩ : ∃ Q14, Q13 + 1 = Q14 := ⟨_, rfl⟩
    obtain ⟨W5, hW5⟩ : ∃ W5, (w4.alloc (.cells #[.slice (some ⟨c1, 0, none⟩) R0 cap3, .int .i64 0, .int .i64 0] 32)).alloc (.cells #[.slice (some ⟨c2, 0, none⟩) R0 cap2, .int .i64 0, .int .i64 0] 32) = W5 := ⟨_, rfl⟩
    have hb5 : Below w3.heap.size w3 W5 := by rw [← hW5]; have q := hb.alloc hb.size (.cells #[.slice (some ⟨c1, 0, none⟩) R0 cap3, .int .i64 0, .int .i64 0] 32); exact q.alloc q.size _
    have HB5 := hide (HB3.out.trans (hb5.mono HB3.out.size))
    have hq3 : w.heap.size ≤ Q13 := by rw [← hQ]; exact Nat.le_trans HB3.out.size hb.size
    have hx3 : Whole W5 Q13 32 [.slice (some ⟨c1, 0, none⟩) R0 cap3, .int .i64 0, .int .i64 0] := by rw [← hW5, ← hQ]; exact (Whole.new w4 32 [.slice (some ⟨c1, 0, none⟩) R0 cap3, .int .i64 0, .int .i64 0]).alloc _
    have hx4 : Whole W5 Q14 32 [.slice (some ⟨c2, 0, none⟩) R0 cap2, .int .i64 0, .int .i64 0] := by rw [← hW5, ← hQ', ← hQ]; exact whole_snd w4 _ 32 [.slice (some ⟨c2, 0, none⟩) R0 cap2, .int .i64 0, .int .i64 0]
    have hl4 : Lns W5 (some ⟨c2, 0, none⟩) (newG R0 C0).ls := by rw [← hW5]; exact (hl.alloc _).alloc _
    have hok := GOk.new (R := R0) (C := C0) q1 q2 q3 q4
    have HX00 : Hid (One w W5 G1 L1 M1 R0 C0 (newG R0 C0) Q13 (some ⟨c1, 0, none⟩) cap3) := ⟨⟨HG13.out.later hb5, hok, hx3, HL3.out.below hb5, HN.out.1, HN.out.2.1, HN.out.2.2, hq3⟩, HS.out.below HB5.out, HB5.out, HS.out.size⟩
    have HP00 : Hid (Pair w.heap.size W5 G2 L2 M2 R0 C0 (newG R0 C0) Q14 (some ⟨c2, 0, none⟩) cap2) := ⟨HG23.out.later hb5, hok, hx4, hl4, HM.out.1, HM.out.2.1, HM.out.2.2, by omega⟩
    have HQ34 : Hid (Q13 ≠ Q14) := by unfold Hid; omega
    have HW5 := hide hW5
    have HQ := hide hQ
    have HQ' := hide hQ'
    clear hl hb hb5 hW5 hQ hQ' hx3 hx4 hl4 hok hq3
    go_wp2
    rw [HW5.out, HQ.out, HQ'.out]
    go_loopw [9, 15] (fun gp i wr => ∃ (k : Nat) (g : Gd) (R C G L M : Nat) (A : Option Addr) (cap : Nat), k ≤ len ∧ i = .int .i64 k ∧ gp = .pointer (some ⟨G, 0, none⟩) ∧ One w wr G L M R C g Q13 A cap ∧ Pair w.heap.size wr G2 L2 M2 R0 C0 (newG R0 C0) Q14 (some ⟨c2, 0, none⟩) cap2 ∧ (G2 ≠ G ∧ L2 ≠ L ∧ M2 ≠ M)) (fun _ i _ => len - (intOf i).toNat)
    case atStart => exact ⟨0, _, _, _, _, _, _, _, _, Nat.zero_le _, rfl, rfl, HX00.out, HP00.out, HNE00.out⟩
    case round =>
      obtain ⟨k, g, R, C, G, L, M, A, cap, hk, rfl, rfl, hx, hp, hne⟩ := hrel
      have HX1 := hide hx
      have HP := hide hp
      have HNE := hide hne
      clear hx hp hne
      by_cases hlt : k < len
      · by_cases h40 : k < 40
        · have HQQ : Hid (Q14 ≠ Q13) := by unfold Hid; exact fun q => HQ34.out q.symm
          obtain ⟨b, off, a, rfl, lb, hac, f0, f1, f2, f3, f4, f5, f6, f7, f8, f9, g0, g1, g2, g3, g4, g5⟩ := (HA.out.below HX1.out.bel).at (i := k) hlt
          have HAC := hide hac
          obtain ⟨x0, x1, x2, lx⟩ := cells3 HX1.out.p.q
          clear hac
          go_wp2
          refine wp_region_chainL (fun w' => Below wr.heap.size wr w') 6 [(2, 0), (2, 2), (2, 3), (2, 4), (0, 1), (1, 5), (3, 6), (3, 7), (2, 8), (2, 11), (2, 9), (2, 10), (3, 12)] (by kernel_rfl) (by kernel_rfl) (by kernel_rfl) (fun _ _ _ _ _ h => h) ?_ ?_
          · exact (Below.refl _ _).drewN 1
          refine chainL_pure (v := ?_) (by simp only [List.getElem?_toArray, List.getElem?_cons_zero]; rfl) (by rfl) (fun w => ?_) ?_
          rotate_left
          · go_simp <;> with_reducible rfl
          simp only [Act.put, List.setIfInBounds_toArray, List.set_cons_zero, List.set_cons_succ]
          refine chainL_pure (v := ?_) (by simp only [List.getElem?_toArray, List.getElem?_cons_zero, List.getElem?_cons_succ]; rfl) (by rfl) (fun w => ?_) ?_
          rotate_left
          · go_simp <;> with_reducible rfl
          simp only [Act.put, List.setIfInBounds_toArray, List.set_cons_zero, List.set_cons_succ]
          refine chainL_pure (v := ?_) (by simp only [List.getElem?_toArray, List.getElem?_cons_zero, List.getElem?_cons_succ]; rfl) (by rfl) (fun w => ?_) ?_
          rotate_left
          · go_simp <;> with_reducible rfl
          simp only [Act.put, List.setIfInBounds_toArray, List.set_cons_zero, List.set_cons_succ]
          refine chainL_pure (v := ?_) (by simp only [List.getElem?_toArray, List.getElem?_cons_zero, List.getElem?_cons_succ]; rfl) (by rfl) (fun w => ?_) ?_
          rotate_left
          · go_simp <;> with_reducible rfl
          simp only [Act.put, List.setIfInBounds_toArray, List.set_cons_zero, List.set_cons_succ]
          refine chainL_take (v := ?_) (by simp only [List.getElem?_toArray, List.getElem?_cons_zero, List.getElem?_cons_succ]; rfl) (by rfl) (fun w hS => ?_) ?_
          rotate_left
          · obtain ⟨d0, d1, d2, -⟩ := cells3 (HX1.out.p.q.later hS); go_simp <;> with_reducible rfl
          simp only [Act.put, List.setIfInBounds_toArray, List.set_cons_zero, List.set_cons_succ]
          refine chainL_alone (by simp only [List.getElem?_toArray, List.getElem?_cons_zero, List.getElem?_cons_succ]; rfl) ?_
          intro K hK
          go_wp2
          refine hK.out _ _ ((Below.refl _ _).drewN 1) ?_
          clear hK K
          refine chainL_late (by simp only [List.getElem?_toArray, List.getElem?_cons_zero, List.getElem?_cons_succ]; rfl) ?_
          intro K hK
          go_wp2_with fail
          refine (do_any HX1.out.drew.p.grd HX1.out.p.ok A cap HX1.out.drew.p.lns HX1.out.drew.sp a (HAC.out.below ((Below.refl _ _).drewN 1))).mono ?_
          rintro e k1 ⟨g', R', C', G', L', M', A', cap', rfl, hg, hl, hok, ht, hG, hL, hM⟩
          have HN := hide (HX1.out.drew.next hg hl hok ht hG hL hM (cap' := cap'))
          have HQ := hide (HX1.out.drew.p.turned ht)
          have HP2 := hide (HX1.out.drew.other (HP.out.later ((Below.refl _ _).drewN 1)) HNE.out HQQ.out ht (.slice A' R' cap') (.int .i64 (g'.row : Int)) (.int .i64 (g'.col : Int)))
          have HNE2 := hide (apart_next (HP.out.later ((Below.refl _ _).drewN 1)) HNE.out hG hL hM)
          clear hg hl hok ht hG hL hM f0 f1 f2 f3 f4 f5 f6 f7 f8 f9 g0 g1 g2 g3 g4 g5 x0 x1 x2 lx lb
          obtain ⟨x0, x1, x2, lx⟩ := cells3 HQ.out
          have hxf := HQ.out.frozen
          go_wp2
          refine hK.out _ _ ?_
          clear hK K
          refine chainL_late (by simp only [List.getElem?_toArray, List.getElem?_cons_zero, List.getElem?_cons_succ]; rfl) ?_
          intro K hK
          go_wp2
          refine hK.out _ _ ?_
          clear hK K
          refine chainL_pure (v := ?_) (by simp only [List.getElem?_toArray, List.getElem?_cons_zero, List.getElem?_cons_succ]; rfl) (by rfl) (fun w => ?_) ?_
          rotate_left
          · go_simp <;> with_reducible rfl
          simp only [Act.put, List.setIfInBounds_toArray, List.set_cons_zero, List.set_cons_succ]
          refine chainL_pure (v := ?_) (by simp only [List.getElem?_toArray, List.getElem?_cons_zero, List.getElem?_cons_succ]; rfl) (by rfl) (fun w => ?_) ?_
          rotate_left
          · go_simp <;> with_reducible rfl
          simp only [Act.put, List.setIfInBounds_toArray, List.set_cons_zero, List.set_cons_succ]
          refine chainL_pure (v := ?_) (by simp only [List.getElem?_toArray, List.getElem?_cons_zero, List.getElem?_cons_succ]; rfl) (by rfl) (fun w => ?_) ?_
          rotate_left
          · go_simp <;> with_reducible rfl
          simp only [Act.put, List.setIfInBounds_toArray, List.set_cons_zero, List.set_cons_succ]
          refine chainL_pure (v := ?_) (by simp only [List.getElem?_toArray, List.getElem?_cons_zero, List.getElem?_cons_succ]; rfl) (by rfl) (fun w => ?_) ?_
          rotate_left
          · go_simp <;> with_reducible rfl
          simp only [Act.put, List.setIfInBounds_toArray, List.set_cons_zero, List.set_cons_succ]
          refine chainL_late (by simp only [List.getElem?_toArray, List.getElem?_cons_zero, List.getElem?_cons_succ]; rfl) ?_
          intro K hK
          go_wp2
          refine hK.out _ _ ?_
          clear hK K
          refine chainL_nil ?_
          clear x0 x1 x2 lx hxf HQ
          go_wp2
          go_roundw
          case rel => exact ⟨k + 1, _, _, _, _, _, _, _, _, hlt, by go_num, by rfl, HN.out, HP2.out, HNE2.out⟩
          case measure => simp [intOf]; omega
        · obtain ⟨g5, R5, C5, G5, L5, M5, A5, cap5, hgp5⟩ : ∃ (g5 : Gd) (R5 C5 G5 L5 M5 : Nat) (A5 : Option Addr) (cap5 : Nat), One w wr G5 L5 M5 R5 C5 g5 Q13 A5 cap5 ∧ G5 = G ∧ L5 = L ∧ M5 = M := ⟨_, _, _, _, _, _, _, _, HX1.out, rfl, rfl, rfl⟩
          obtain ⟨hgp5, rfl, rfl, rfl⟩ := hgp5
          have HX0 := hide hgp5.p
          have HY0 : Hid (One w wr G2 L2 M2 R0 C0 (newG R0 C0) Q14 (some ⟨c2, 0, none⟩) cap2) := ⟨HP.out, HX1.out.sp, HX1.out.bel, HX1.out.pos⟩
          have HNE0 : Hid (G5 ≠ G2 ∧ L5 ≠ L2 ∧ M5 ≠ M2) := ⟨fun q => HNE.out.1 q.symm, fun q => HNE.out.2.1 q.symm, fun q => HNE.out.2.2 q.symm⟩
          clear hgp5
          go_wp2
          go_loopw [11, 16] (fun gp i wr => ∃ (k : Nat) (g : Gd) (R C G L M : Nat) (A : Option Addr) (cap : Nat), k ≤ len' ∧ i = .int .i64 k ∧ gp = .pointer (some ⟨G, 0, none⟩) ∧ One w wr G L M R C g Q14 A cap ∧ Pair w.heap.size wr G5 L5 M5 R5 C5 g5 Q13 A5 cap5 ∧ (G5 ≠ G ∧ L5 ≠ L ∧ M5 ≠ M)) (fun _ i _ => len' - (intOf i).toNat)
          case atStart => exact ⟨0, _, _, _, _, _, _, _, _, Nat.zero_le _, rfl, rfl, HY0.out, HX0.out, HNE0.out⟩
          case round =>
            obtain ⟨k, g, R, C, G, L, M, A, cap, hk, rfl, rfl, hy, hx, hne⟩ := hrel
            have HY := hide hy
            have HX := hide hx
            have HNE := hide hne
            clear hy hx hne
            by_cases hlt : k < len'
            · by_cases h40 : k < 40
              · have HQQ : Hid (Q13 ≠ Q14) := HQ34
                obtain ⟨b, off, a, rfl, lb, hac, f0, f1, f2, f3, f4, f5, f6, f7, f8, f9, g0, g1, g2, g3, g4, g5⟩ := (HB.out.below HY.out.bel).at (i := k) hlt
                have HAC := hide hac
                obtain ⟨x0, x1, x2, lx⟩ := cells3 HY.out.p.q
                clear hac
                go_wp2
                refine wp_region_chainL (fun w' => Below wr.heap.size wr w') 6 [(2, 0), (2, 2), (2, 3), (2, 4), (0, 1), (1, 5), (3, 6), (3, 7), (2, 8), (2, 11), (2, 9), (2, 10), (3, 12)] (by kernel_rfl) (by kernel_rfl) (by kernel_rfl) (fun _ _ _ _ _ h => h) ?_ ?_
                · exact (Below.refl _ _).drewN 1
                refine chainL_pure (v := ?_) (by simp only [List.getElem?_toArray, List.getElem?_cons_zero]; rfl) (by rfl) (fun w => ?_) ?_
                rotate_left
                · go_simp <;> with_reducible rfl
                simp only [Act.put, List.setIfInBounds_toArray, List.set_cons_zero, List.set_cons_succ]
                refine chainL_pure (v := ?_) (by simp only [List.getElem?_toArray, List.getElem?_cons_zero, List.getElem?_cons_succ]; rfl) (by rfl) (fun w => ?_) ?_
                rotate_left
                · go_simp <;> with_reducible rfl
                simp only [Act.put, List.setIfInBounds_toArray, List.set_cons_zero, List.set_cons_succ]
                refine chainL_pure (v := ?_) (by simp only [List.getElem?_toArray, List.getElem?_cons_zero, List.getElem?_cons_succ]; rfl) (by rfl) (fun w => ?_) ?_
                rotate_left
                · go_simp <;> with_reducible rfl
                simp only [Act.put, List.setIfInBounds_toArray, List.set_cons_zero, List.set_cons_succ]
                refine chainL_pure (v := ?_) (by simp only [List.getElem?_toArray, List.getElem?_cons_zero, List.getElem?_cons_succ]; rfl) (by rfl) (fun w => ?_) ?_
                rotate_left
                · go_simp <;> with_reducible rfl
                simp only [Act.put, List.setIfInBounds_toArray, List.set_cons_zero, List.set_cons_succ]
                refine chainL_take (v := ?_) (by simp only [List.getElem?_toArray, List.getElem?_cons_zero, List.getElem?_cons_succ]; rfl) (by rfl) (fun w hS => ?_) ?_
                rotate_left
                · obtain ⟨d0, d1, d2, -⟩ := cells3 (HY.out.p.q.later hS); go_simp <;> with_reducible rfl
                simp only [Act.put, List.setIfInBounds_toArray, List.set_cons_zero, List.set_cons_succ]
                refine chainL_alone (by simp only [List.getElem?_toArray, List.getElem?_cons_zero, List.getElem?_cons_succ]; rfl) ?_
                intro K hK
                go_wp2
                refine hK.out _ _ ((Below.refl _ _).drewN 1) ?_
                clear hK K
                refine chainL_late (by simp only [List.getElem?_toArray, List.getElem?_cons_zero, List.getElem?_cons_succ]; rfl) ?_
                intro K hK
                go_wp2_with fail
                refine (do_any HY.out.drew.p.grd HY.out.p.ok A cap HY.out.drew.p.lns HY.out.drew.sp a (HAC.out.below ((Below.refl _ _).drewN 1))).mono ?_
                rintro e k1 ⟨g', R', C', G', L', M', A', cap', rfl, hg, hl, hok, ht, hG, hL, hM⟩
                have HN := hide (HY.out.drew.next hg hl hok ht hG hL hM (cap' := cap'))
                have HQ := hide (HY.out.drew.p.turned ht)
                have HP2 := hide (HY.out.drew.other (HX.out.later ((Below.refl _ _).drewN 1)) HNE.out HQQ.out ht (.slice A' R' cap') (.int .i64 (g'.row : Int)) (.int .i64 (g'.col : Int)))
                have HNE2 := hide (apart_next (HX.out.later ((Below.refl _ _).drewN 1)) HNE.out hG hL hM)
                clear hg hl hok ht hG hL hM f0 f1 f2 f3 f4 f5 f6 f7 f8 f9 g0 g1 g2 g3 g4 g5 x0 x1 x2 lx lb
                obtain ⟨x0, x1, x2, lx⟩ := cells3 HQ.out
                have hxf := HQ.out.frozen
                go_wp2
                refine hK.out _ _ ?_
                clear hK K
                refine chainL_late (by simp only [List.getElem?_toArray, List.getElem?_cons_zero, List.getElem?_cons_succ]; rfl) ?_
                intro K hK
                go_wp2
                refine hK.out _ _ ?_
                clear hK K
                refine chainL_pure (v := ?_) (by simp only [List.getElem?_toArray, List.getElem?_cons_zero, List.getElem?_cons_succ]; rfl) (by rfl) (fun w => ?_) ?_
                rotate_left
                · go_simp <;> with_reducible rfl
                simp only [Act.put, List.setIfInBounds_toArray, List.set_cons_zero, List.set_cons_succ]
                refine chainL_pure (v := ?_) (by simp only [List.getElem?_toArray, List.getElem?_cons_zero, List.getElem?_cons_succ]; rfl) (by rfl) (fun w => ?_) ?_
                rotate_left
                · go_simp <;> with_reducible rfl
                simp only [Act.put, List.setIfInBounds_toArray, List.set_cons_zero, List.set_cons_succ]
                refine chainL_pure (v := ?_) (by simp only [List.getElem?_toArray, List.getElem?_cons_zero, List.getElem?_cons_succ]; rfl) (by rfl) (fun w => ?_) ?_
                rotate_left
                · go_simp <;> with_reducible rfl
                simp only [Act.put, List.setIfInBounds_toArray, List.set_cons_zero, List.set_cons_succ]
                refine chainL_pure (v := ?_) (by simp only [List.getElem?_toArray, List.getElem?_cons_zero, List.getElem?_cons_succ]; rfl) (by rfl) (fun w => ?_) ?_
                rotate_left
                · go_simp <;> with_reducible rfl
                simp only [Act.put, List.setIfInBounds_toArray, List.set_cons_zero, List.set_cons_succ]
                refine chainL_late (by simp only [List.getElem?_toArray, List.getElem?_cons_zero, List.getElem?_cons_succ]; rfl) ?_
                intro K hK
                go_wp2
                refine hK.out _ _ ?_
                clear hK K
                refine chainL_nil ?_
                clear x0 x1 x2 lx hxf HQ
                go_wp2
                go_roundw
                case rel => exact ⟨k + 1, _, _, _, _, _, _, _, _, hlt, by go_num, by rfl, HN.out, HP2.out, HNE2.out⟩
                case measure => simp [intOf]; omega
              · have HLn : Hid (∀ i, i < R5 → (lAt g5.ls i).length ≤ 1000000) := by unfold Hid; intro i hi; rw [(HX.out.ok.each i hi).1]; have := HX.out.ok.c2; omega
                obtain ⟨smv, hsm⟩ : ∃ smv, sameG g5 g = smv := ⟨_, rfl⟩
                have HSM := hide hsm
                clear hsm
                go_wp2
                refine wp_region_chainL (fun w' => Below wr.heap.size wr w') 23 [(1, 0), (1, 1), (2, 2), (2, 3), (0, 5), (0, 6), (1, 4), (1, 7), (1, 8), (1, 9), (1, 10), (2, 11), (1, 12), (1, 13), (1, 14), (1, 15), (1, 16), (1, 17), (1, 18), (1, 19), (1, 20), (1, 21), (1, 22), (3, 23)] (by kernel_rfl) (by kernel_rfl) (by kernel_rfl) (fun _ _ _ _ _ h => h) ?_ ?_
                · exact (Below.refl _ _).drewN 1
                refine chainL_alone (by simp only [List.getElem?_toArray, List.getElem?_cons_zero]; rfl) ?_
                intro K hK
                go_wp2_with fail
                refine (gknown_any _ HY.out.drew.sp).mono ?_
                rintro e k1 ⟨rfl, hb⟩
                have B1 : Below wr.heap.size wr k1 := ((Below.refl wr.heap.size wr).drewN 1).trans hb
                clear hb
                go_wp2
                refine hK.out _ _ (B1) ?_
                clear hK K
                refine chainL_alone (by simp only [List.getElem?_toArray, List.getElem?_cons_zero, List.getElem?_cons_succ]; rfl) ?_
                intro K hK
                go_wp2
                refine hK.out _ _ (B1) ?_
                clear hK K
                refine chainL_pure (v := ?_) (by simp only [List.getElem?_toArray, List.getElem?_cons_zero, List.getElem?_cons_succ]; rfl) (by rfl) (fun w => ?_) ?_
                rotate_left
                · go_simp <;> with_reducible rfl
                simp only [Act.put, List.setIfInBounds_toArray, List.set_cons_zero, List.set_cons_succ]
                refine chainL_pure (v := ?_) (by simp only [List.getElem?_toArray, List.getElem?_cons_zero, List.getElem?_cons_succ]; rfl) (by rfl) (fun w => ?_) ?_
                rotate_left
                · go_simp <;> with_reducible rfl
                simp only [Act.put, List.setIfInBounds_toArray, List.set_cons_zero, List.set_cons_succ]
                refine chainL_take (v := ?_) (by simp only [List.getElem?_toArray, List.getElem?_cons_zero, List.getElem?_cons_succ]; rfl) (by rfl) (fun w hS => ?_) ?_
                rotate_left
                · obtain ⟨d0, d1, d2, -⟩ := cells3 (HX.out.q.later hS); go_simp <;> with_reducible rfl
                simp only [Act.put, List.setIfInBounds_toArray, List.set_cons_zero, List.set_cons_succ]
                refine chainL_take (v := ?_) (by simp only [List.getElem?_toArray, List.getElem?_cons_zero, List.getElem?_cons_succ]; rfl) (by rfl) (fun w hS => ?_) ?_
                rotate_left
                · obtain ⟨d0, d1, d2, -⟩ := cells3 (HY.out.p.q.later hS); go_simp <;> with_reducible rfl
                simp only [Act.put, List.setIfInBounds_toArray, List.set_cons_zero, List.set_cons_succ]
                refine chainL_alone (by simp only [List.getElem?_toArray, List.getElem?_cons_zero, List.getElem?_cons_succ]; rfl) ?_
                intro K hK
                go_wp2_with fail
                refine (gsame_any (HX.out.grd.later B1) (HY.out.p.grd.later B1) HX.out.ok.r2 HY.out.p.ok.r2 HX.out.ok.c2).mono ?_
                rintro e k2 ⟨rfl, hb⟩
                rw [HSM.out]
                have B2 : Below wr.heap.size wr k2 := B1.trans (hb.mono B1.size)
                clear hb
                go_wp2
                refine hK.out _ _ (B2) ?_
                clear hK K
                refine chainL_alone (by simp only [List.getElem?_toArray, List.getElem?_cons_zero, List.getElem?_cons_succ]; rfl) ?_
                intro K hK
                go_wp2_with fail
                refine (rgsame_any A5 A R5 R cap5 cap g5 g k2 (HX.out.lns.below B2) (HY.out.p.lns.below B2) HX.out.ok.len HY.out.p.ok.len HX.out.ok.r2 HLn.out).mono ?_
                rintro e k3 ⟨rfl, hb⟩
                rw [HSM.out]
                have B3 : Below wr.heap.size wr k3 := B2.trans (hb.mono B2.size)
                clear hb
                go_wp2
                refine hK.out _ _ (B3) ?_
                clear hK K
                refine chainL_alone (by simp only [List.getElem?_toArray, List.getElem?_cons_zero, List.getElem?_cons_succ]; rfl) ?_
                intro K hK
                go_wp2
                refine hK.out _ _ (B3) ?_
                clear hK K
                refine chainL_alone (by simp only [List.getElem?_toArray, List.getElem?_cons_zero, List.getElem?_cons_succ]; rfl) ?_
                intro K hK
                go_wp2
                refine hK.out _ _ (B3) ?_
                clear hK K
                refine chainL_alone (by simp only [List.getElem?_toArray, List.getElem?_cons_zero, List.getElem?_cons_succ]; rfl) ?_
                intro K hK
                go_wp2
                refine hK.out _ _ (B3) ?_
                clear hK K
                refine chainL_pure (v := ?_) (by simp only [List.getElem?_toArray, List.getElem?_cons_zero, List.getElem?_cons_succ]; rfl) (by rfl) (fun w => ?_) ?_
                rotate_left
                · go_simp <;> with_reducible rfl
                simp only [Act.put, List.setIfInBounds_toArray, List.set_cons_zero, List.set_cons_succ]
                refine chainL_alone (by simp only [List.getElem?_toArray, List.getElem?_cons_zero, List.getElem?_cons_succ]; rfl) ?_
                intro K hK
                go_wp2
                refine hK.out _ _ (B3) ?_
                clear hK K
                refine chainL_alone (by simp only [List.getElem?_toArray, List.getElem?_cons_zero, List.getElem?_cons_succ]; rfl) ?_
                intro K hK
                go_wp2_with fail
                refine (gsame_any (HX.out.grd.later B3) (HX.out.grd.later B3) HX.out.ok.r2 HX.out.ok.r2 HX.out.ok.c2).mono ?_
                rintro e k4 ⟨rfl, hb⟩
                rw [sameG_self]
                have B4 : Below wr.heap.size wr k4 := B3.trans (hb.mono B3.size)
                clear hb
                go_wp2
                refine hK.out _ _ (B4) ?_
                clear hK K
                refine chainL_alone (by simp only [List.getElem?_toArray, List.getElem?_cons_zero, List.getElem?_cons_succ]; rfl) ?_
                intro K hK
                go_wp2
                refine hK.out _ _ (B4) ?_
                clear hK K
                refine chainL_alone (by simp only [List.getElem?_toArray, List.getElem?_cons_zero, List.getElem?_cons_succ]; rfl) ?_
                intro K hK
                go_wp2
                refine hK.out _ _ (B4) ?_
                clear hK K
                refine chainL_alone (by simp only [List.getElem?_toArray, List.getElem?_cons_zero, List.getElem?_cons_succ]; rfl) ?_
                intro K hK
                go_wp2
                refine hK.out _ _ (B4) ?_
                clear hK K
                refine chainL_alone (by simp only [List.getElem?_toArray, List.getElem?_cons_zero, List.getElem?_cons_succ]; rfl) ?_
                intro K hK
                go_wp2_with fail
                refine (gsame_nilR G5 k4).mono ?_
                rintro e k5 ⟨rfl, rfl⟩
                go_wp2
                refine hK.out _ _ (B4) ?_
                clear hK K
                refine chainL_alone (by simp only [List.getElem?_toArray, List.getElem?_cons_zero, List.getElem?_cons_succ]; rfl) ?_
                intro K hK
                go_wp2
                refine hK.out _ _ (B4) ?_
                clear hK K
                refine chainL_alone (by simp only [List.getElem?_toArray, List.getElem?_cons_zero, List.getElem?_cons_succ]; rfl) ?_
                intro K hK
                go_wp2
                refine hK.out _ _ (B4) ?_
                clear hK K
                refine chainL_alone (by simp only [List.getElem?_toArray, List.getElem?_cons_zero, List.getElem?_cons_succ]; rfl) ?_
                intro K hK
                go_wp2
                refine hK.out _ _ (B4) ?_
                clear hK K
                refine chainL_alone (by simp only [List.getElem?_toArray, List.getElem?_cons_zero, List.getElem?_cons_succ]; rfl) ?_
                intro K hK
                go_wp2_with fail
                refine (gsame_nil2 k4).mono ?_
                rintro e k5 ⟨rfl, rfl⟩
                go_wp2
                refine hK.out _ _ (B4) ?_
                clear hK K
                refine chainL_alone (by simp only [List.getElem?_toArray, List.getElem?_cons_zero, List.getElem?_cons_succ]; rfl) ?_
                intro K hK
                go_wp2
                refine hK.out _ _ (B4) ?_
                clear hK K
                refine chainL_late (by simp only [List.getElem?_toArray, List.getElem?_cons_zero, List.getElem?_cons_succ]; rfl) ?_
                intro K hK
                go_wp2
                refine hK.out _ _ ?_
                clear hK K
                refine chainL_nil ?_
                have HBZ := hide (HY.out.bel.trans (B4.mono HY.out.bel.size))
                clear B1 B2 B3 B4
                go_wp2
                go_ret
                exact ⟨rfl, HBZ.out⟩
            · have HLn : Hid (∀ i, i < R5 → (lAt g5.ls i).length ≤ 1000000) := by unfold Hid; intro i hi; rw [(HX.out.ok.each i hi).1]; have := HX.out.ok.c2; omega
              obtain ⟨smv, hsm⟩ : ∃ smv, sameG g5 g = smv := ⟨_, rfl⟩
              have HSM := hide hsm
              clear hsm
              go_wp2
              refine wp_region_chainL (fun w' => Below wr.heap.size wr w') 23 [(1, 0), (1, 1), (2, 2), (2, 3), (0, 5), (0, 6), (1, 4), (1, 7), (1, 8), (1, 9), (1, 10), (2, 11), (1, 12), (1, 13), (1, 14), (1, 15), (1, 16), (1, 17), (1, 18), (1, 19), (1, 20), (1, 21), (1, 22), (3, 23)] (by kernel_rfl) (by kernel_rfl) (by kernel_rfl) (fun _ _ _ _ _ h => h) ?_ ?_
              · exact (Below.refl _ _).drewN 1
              refine chainL_alone (by simp only [List.getElem?_toArray, List.getElem?_cons_zero]; rfl) ?_
              intro K hK
              go_wp2_with fail
              refine (gknown_any _ HY.out.drew.sp).mono ?_
              rintro e k1 ⟨rfl, hb⟩
              have B1 : Below wr.heap.size wr k1 := ((Below.refl wr.heap.size wr).drewN 1).trans hb
              clear hb
              go_wp2
              refine hK.out _ _ (B1) ?_
              clear hK K
              refine chainL_alone (by simp only [List.getElem?_toArray, List.getElem?_cons_zero, List.getElem?_cons_succ]; rfl) ?_
              intro K hK
              go_wp2
              refine hK.out _ _ (B1) ?_
              clear hK K
              refine chainL_pure (v := ?_) (by simp only [List.getElem?_toArray, List.getElem?_cons_zero, List.getElem?_cons_succ]; rfl) (by rfl) (fun w => ?_) ?_
              rotate_left
              · go_simp <;> with_reducible rfl
              simp only [Act.put, List.setIfInBounds_toArray, List.set_cons_zero, List.set_cons_succ]
              refine chainL_pure (v := ?_) (by simp only [List.getElem?_toArray, List.getElem?_cons_zero, List.getElem?_cons_succ]; rfl) (by rfl) (fun w => ?_) ?_
              rotate_left
              · go_simp <;> with_reducible rfl
              simp only [Act.put, List.setIfInBounds_toArray, List.set_cons_zero, List.set_cons_succ]
              refine chainL_take (v := ?_) (by simp only [List.getElem?_toArray, List.getElem?_cons_zero, List.getElem?_cons_succ]; rfl) (by rfl) (fun w hS => ?_) ?_
              rotate_left
              · obtain ⟨d0, d1, d2, -⟩ := cells3 (HX.out.q.later hS); go_simp <;> with_reducible rfl
              simp only [Act.put, List.setIfInBounds_toArray, List.set_cons_zero, List.set_cons_succ]
              refine chainL_take (v := ?_) (by simp only [List.getElem?_toArray, List.getElem?_cons_zero, List.getElem?_cons_succ]; rfl) (by rfl) (fun w hS => ?_) ?_
              rotate_left
              · obtain ⟨d0, d1, d2, -⟩ := cells3 (HY.out.p.q.later hS); go_simp <;> with_reducible rfl
              simp only [Act.put, List.setIfInBounds_toArray, List.set_cons_zero, List.set_cons_succ]
              refine chainL_alone (by simp only [List.getElem?_toArray, List.getElem?_cons_zero, List.getElem?_cons_succ]; rfl) ?_
              intro K hK
              go_wp2_with fail
              refine (gsame_any (HX.out.grd.later B1) (HY.out.p.grd.later B1) HX.out.ok.r2 HY.out.p.ok.r2 HX.out.ok.c2).mono ?_
              rintro e k2 ⟨rfl, hb⟩
              rw [HSM.out]
              have B2 : Below wr.heap.size wr k2 := B1.trans (hb.mono B1.size)
              clear hb
              go_wp2
              refine hK.out _ _ (B2) ?_
              clear hK K
              refine chainL_alone (by simp only [List.getElem?_toArray, List.getElem?_cons_zero, List.getElem?_cons_succ]; rfl) ?_
              intro K hK
              go_wp2_with fail
              refine (rgsame_any A5 A R5 R cap5 cap g5 g k2 (HX.out.lns.below B2) (HY.out.p.lns.below B2) HX.out.ok.len HY.out.p.ok.len HX.out.ok.r2 HLn.out).mono ?_
              rintro e k3 ⟨rfl, hb⟩
              rw [HSM.out]
              have B3 : Below wr.heap.size wr k3 := B2.trans (hb.mono B2.size)
              clear hb
              go_wp2
              refine hK.out _ _ (B3) ?_
              clear hK K
              refine chainL_alone (by simp only [List.getElem?_toArray, List.getElem?_cons_zero, List.getElem?_cons_succ]; rfl) ?_
              intro K hK
              go_wp2
              refine hK.out _ _ (B3) ?_
              clear hK K
              refine chainL_alone (by simp only [List.getElem?_toArray, List.getElem?_cons_zero, List.getElem?_cons_succ]; rfl) ?_
              intro K hK
              go_wp2
              refine hK.out _ _ (B3) ?_
              clear hK K
              refine chainL_alone (by simp only [List.getElem?_toArray, List.getElem?_cons_zero, List.getElem?_cons_succ]; rfl) ?_
              intro K hK
              go_wp2
              refine hK.out _ _ (B3) ?_
              clear hK K
              refine chainL_pure (v := ?_) (by simp only [List.getElem?_toArray, List.getElem?_cons_zero, List.getElem?_cons_succ]; rfl) (by rfl) (fun w => ?_) ?_
              rotate_left
              · go_simp <;> with_reducible rfl
              simp only [Act.put, List.setIfInBounds_toArray, List.set_cons_zero, List.set_cons_succ]
              refine chainL_alone (by simp only [List.getElem?_toArray, List.getElem?_cons_zero, List.getElem?_cons_succ]; rfl) ?_
              intro K hK
              go_wp2
              refine hK.out _ _ (B3) ?_
              clear hK K
              refine chainL_alone (by simp only [List.getElem?_toArray, List.getElem?_cons_zero, List.getElem?_cons_succ]; rfl) ?_
              intro K hK
              go_wp2_with fail
              refine (gsame_any (HX.out.grd.later B3) (HX.out.grd.later B3) HX.out.ok.r2 HX.out.ok.r2 HX.out.ok.c2).mono ?_
              rintro e k4 ⟨rfl, hb⟩
              rw [sameG_self]
              have B4 : Below wr.heap.size wr k4 := B3.trans (hb.mono B3.size)
              clear hb
              go_wp2
              refine hK.out _ _ (B4) ?_
              clear hK K
              refine chainL_alone (by simp only [List.getElem?_toArray, List.getElem?_cons_zero, List.getElem?_cons_succ]; rfl) ?_
              intro K hK
              go_wp2
              refine hK.out _ _ (B4) ?_
              clear hK K
              refine chainL_alone (by simp only [List.getElem?_toArray, List.getElem?_cons_zero, List.getElem?_cons_succ]; rfl) ?_
              intro K hK
              go_wp2
              refine hK.out _ _ (B4) ?_
              clear hK K
              refine chainL_alone (by simp only [List.getElem?_toArray, List.getElem?_cons_zero, List.getElem?_cons_succ]; rfl) ?_
              intro K hK
              go_wp2
              refine hK.out _ _ (B4) ?_
              clear hK K
              refine chainL_alone (by simp only [List.getElem?_toArray, List.getElem?_cons_zero, List.getElem?_cons_succ]; rfl) ?_
              intro K hK
              go_wp2_with fail
              refine (gsame_nilR G5 k4).mono ?_
              rintro e k5 ⟨rfl, rfl⟩
              go_wp2
              refine hK.out _ _ (B4) ?_
              clear hK K
              refine chainL_alone (by simp only [List.getElem?_toArray, List.getElem?_cons_zero, List.getElem?_cons_succ]; rfl) ?_
              intro K hK
              go_wp2
              refine hK.out _ _ (B4) ?_
              clear hK K
              refine chainL_alone (by simp only [List.getElem?_toArray, List.getElem?_cons_zero, List.getElem?_cons_succ]; rfl) ?_
              intro K hK
              go_wp2
              refine hK.out _ _ (B4) ?_
              clear hK K
              refine chainL_alone (by simp only [List.getElem?_toArray, List.getElem?_cons_zero, List.getElem?_cons_succ]; rfl) ?_
              intro K hK
              go_wp2
              refine hK.out _ _ (B4) ?_
              clear hK K
              refine chainL_alone (by simp only [List.getElem?_toArray, List.getElem?_cons_zero, List.getElem?_cons_succ]; rfl) ?_
              intro K hK
              go_wp2_with fail
              refine (gsame_nil2 k4).mono ?_
              rintro e k5 ⟨rfl, rfl⟩
              go_wp2
              refine hK.out _ _ (B4) ?_
              clear hK K
              refine chainL_alone (by simp only [List.getElem?_toArray, List.getElem?_cons_zero, List.getElem?_cons_succ]; rfl) ?_
              intro K hK
              go_wp2
              refine hK.out _ _ (B4) ?_
              clear hK K
              refine chainL_late (by simp only [List.getElem?_toArray, List.getElem?_cons_zero, List.getElem?_cons_succ]; rfl) ?_
              intro K hK
              go_wp2
              refine hK.out _ _ ?_
              clear hK K
              refine chainL_nil ?_
              have HBZ := hide (HY.out.bel.trans (B4.mono HY.out.bel.size))
              clear B1 B2 B3 B4
              go_wp2
              go_ret
              exact ⟨rfl, HBZ.out⟩
      · obtain ⟨g5, R5, C5, G5, L5, M5, A5, cap5, hgp5⟩ : ∃ (g5 : Gd) (R5 C5 G5 L5 M5 : Nat) (A5 : Option Addr) (cap5 : Nat), One w wr G5 L5 M5 R5 C5 g5 Q13 A5 cap5 ∧ G5 = G ∧ L5 = L ∧ M5 = M := ⟨_, _, _, _, _, _, _, _, HX1.out, rfl, rfl, rfl⟩
        obtain ⟨hgp5, rfl, rfl, rfl⟩ := hgp5
        have HX0 := hide hgp5.p
        have HY0 : Hid (One w wr G2 L2 M2 R0 C0 (newG R0 C0) Q14 (some ⟨c2, 0, none⟩) cap2) := ⟨HP.out, HX1.out.sp, HX1.out.bel, HX1.out.pos⟩
        have HNE0 : Hid (G5 ≠ G2 ∧ L5 ≠ L2 ∧ M5 ≠ M2) := ⟨fun q => HNE.out.1 q.symm, fun q => HNE.out.2.1 q.symm, fun q => HNE.out.2.2 q.symm⟩
        clear hgp5
        go_wp2
        go_loopw [11, 16] (fun gp i wr => ∃ (k : Nat) (g : Gd) (R C G L M : Nat) (A : Option Addr) (cap : Nat), k ≤ len' ∧ i = .int .i64 k ∧ gp = .pointer (some ⟨G, 0, none⟩) ∧ One w wr G L M R C g Q14 A cap ∧ Pair w.heap.size wr G5 L5 M5 R5 C5 g5 Q13 A5 cap5 ∧ (G5 ≠ G ∧ L5 ≠ L ∧ M5 ≠ M)) (fun _ i _ => len' - (intOf i).toNat)
        case atStart => exact ⟨0, _, _, _, _, _, _, _, _, Nat.zero_le _, rfl, rfl, HY0.out, HX0.out, HNE0.out⟩
        case round =>
          obtain ⟨k, g, R, C, G, L, M, A, cap, hk, rfl, rfl, hy, hx, hne⟩ := hrel
          have HY := hide hy
          have HX := hide hx
          have HNE := hide hne
          clear hy hx hne
          by_cases hlt : k < len'
          · by_cases h40 : k < 40
            · have HQQ : Hid (Q13 ≠ Q14) := HQ34
              obtain ⟨b, off, a, rfl, lb, hac, f0, f1, f2, f3, f4, f5, f6, f7, f8, f9, g0, g1, g2, g3, g4, g5⟩ := (HB.out.below HY.out.bel).at (i := k) hlt
              have HAC := hide hac
              obtain ⟨x0, x1, x2, lx⟩ := cells3 HY.out.p.q
              clear hac
              go_wp2
              refine wp_region_chainL (fun w' => Below wr.heap.size wr w') 6 [(2, 0), (2, 2), (2, 3), (2, 4), (0, 1), (1, 5), (3, 6), (3, 7), (2, 8), (2, 11), (2, 9), (2, 10), (3, 12)] (by kernel_rfl) (by kernel_rfl) (by kernel_rfl) (fun _ _ _ _ _ h => h) ?_ ?_
              · exact (Below.refl _ _).drewN 1
              refine chainL_pure (v := ?_) (by simp only [List.getElem?_toArray, List.getElem?_cons_zero]; rfl) (by rfl) (fun w => ?_) ?_
              rotate_left
              · go_simp <;> with_reducible rfl
              simp only [Act.put, List.setIfInBounds_toArray, List.set_cons_zero, List.set_cons_succ]
              refine chainL_pure (v := ?_) (by simp only [List.getElem?_toArray, List.getElem?_cons_zero, List.getElem?_cons_succ]; rfl) (by rfl) (fun w => ?_) ?_
              rotate_left
              · go_simp <;> with_reducible rfl
              simp only [Act.put, List.setIfInBounds_toArray, List.set_cons_zero, List.set_cons_succ]
              refine chainL_pure (v := ?_) (by simp only [List.getElem?_toArray, List.getElem?_cons_zero, List.getElem?_cons_succ]; rfl) (by rfl) (fun w => ?_) ?_
              rotate_left
              · go_simp <;> with_reducible rfl
              simp only [Act.put, List.setIfInBounds_toArray, List.set_cons_zero, List.set_cons_succ]
              refine chainL_pure (v := ?_) (by simp only [List.getElem?_toArray, List.getElem?_cons_zero, List.getElem?_cons_succ]; rfl) (by rfl) (fun w => ?_) ?_
              rotate_left
              · go_simp <;> with_reducible rfl
              simp only [Act.put, List.setIfInBounds_toArray, List.set_cons_zero, List.set_cons_succ]
              refine chainL_take (v := ?_) (by simp only [List.getElem?_toArray, List.getElem?_cons_zero, List.getElem?_cons_succ]; rfl) (by rfl) (fun w hS => ?_) ?_
              rotate_left
              · obtain ⟨d0, d1, d2, -⟩ := cells3 (HY.out.p.q.later hS); go_simp <;> with_reducible rfl
              simp only [Act.put, List.setIfInBounds_toArray, List.set_cons_zero, List.set_cons_succ]
              refine chainL_alone (by simp only [List.getElem?_toArray, List.getElem?_cons_zero, List.getElem?_cons_succ]; rfl) ?_
              intro K hK
              go_wp2
              refine hK.out _ _ ((Below.refl _ _).drewN 1) ?_
              clear hK K
              refine chainL_late (by simp only [List.getElem?_toArray, List.getElem?_cons_zero, List.getElem?_cons_succ]; rfl) ?_
              intro K hK
              go_wp2_with fail
              refine (do_any HY.out.drew.p.grd HY.out.p.ok A cap HY.out.drew.p.lns HY.out.drew.sp a (HAC.out.below ((Below.refl _ _).drewN 1))).mono ?_
              rintro e k1 ⟨g', R', C', G', L', M', A', cap', rfl, hg, hl, hok, ht, hG, hL, hM⟩
              have HN := hide (HY.out.drew.next hg hl hok ht hG hL hM (cap' := cap'))
              have HQ := hide (HY.out.drew.p.turned ht)
              have HP2 := hide (HY.out.drew.other (HX.out.later ((Below.refl _ _).drewN 1)) HNE.out HQQ.out ht (.slice A' R' cap') (.int .i64 (g'.row : Int)) (.int .i64 (g'.col : Int)))
              have HNE2 := hide (apart_next (HX.out.later ((Below.refl _ _).drewN 1)) HNE.out hG hL hM)
              clear hg hl hok ht hG hL hM f0 f1 f2 f3 f4 f5 f6 f7 f8 f9 g0 g1 g2 g3 g4 g5 x0 x1 x2 lx lb
              obtain ⟨x0, x1, x2, lx⟩ := cells3 HQ.out
              have hxf := HQ.out.frozen
              go_wp2
              refine hK.out _ _ ?_
              clear hK K
              refine chainL_late (by simp only [List.getElem?_toArray, List.getElem?_cons_zero, List.getElem?_cons_succ]; rfl) ?_
              intro K hK
              go_wp2
              refine hK.out _ _ ?_
              clear hK K
              refine chainL_pure (v := ?_) (by simp only [List.getElem?_toArray, List.getElem?_cons_zero, List.getElem?_cons_succ]; rfl) (by rfl) (fun w => ?_) ?_
              rotate_left
              · go_simp <;> with_reducible rfl
              simp only [Act.put, List.setIfInBounds_toArray, List.set_cons_zero, List.set_cons_succ]
              refine chainL_pure (v := ?_) (by simp only [List.getElem?_toArray, List.getElem?_cons_zero, List.getElem?_cons_succ]; rfl) (by rfl) (fun w => ?_) ?_
              rotate_left
              · go_simp <;> with_reducible rfl
              simp only [Act.put, List.setIfInBounds_toArray, List.set_cons_zero, List.set_cons_succ]
              refine chainL_pure (v := ?_) (by simp only [List.getElem?_toArray, List.getElem?_cons_zero, List.getElem?_cons_succ]; rfl) (by rfl) (fun w => ?_) ?_
              rotate_left
              · go_simp <;> with_reducible rfl
              simp only [Act.put, List.setIfInBounds_toArray, List.set_cons_zero, List.set_cons_succ]
              refine chainL_pure (v := ?_) (by simp only [List.getElem?_toArray, List.getElem?_cons_zero, List.getElem?_cons_succ]; rfl) (by rfl) (fun w => ?_) ?_
              rotate_left
              · go_simp <;> with_reducible rfl
              simp only [Act.put, List.setIfInBounds_toArray, List.set_cons_zero, List.set_cons_succ]
              refine chainL_late (by simp only [List.getElem?_toArray, List.getElem?_cons_zero, List.getElem?_cons_succ]; rfl) ?_
              intro K hK
              go_wp2
              refine hK.out _ _ ?_
              clear hK K
              refine chainL_nil ?_
              clear x0 x1 x2 lx hxf HQ
              go_wp2
              go_roundw
              case rel => exact ⟨k + 1, _, _, _, _, _, _, _, _, hlt, by go_num, by rfl, HN.out, HP2.out, HNE2.out⟩
              case measure => simp [intOf]; omega
            · have HLn : Hid (∀ i, i < R5 → (lAt g5.ls i).length ≤ 1000000) := by unfold Hid; intro i hi; rw [(HX.out.ok.each i hi).1]; have := HX.out.ok.c2; omega
              obtain ⟨smv, hsm⟩ : ∃ smv, sameG g5 g = smv := ⟨_, rfl⟩
              have HSM := hide hsm
              clear hsm
              go_wp2
              refine wp_region_chainL (fun w' => Below wr.heap.size wr w') 23 [(1, 0), (1, 1), (2, 2), (2, 3), (0, 5), (0, 6), (1, 4), (1, 7), (1, 8), (1, 9), (1, 10), (2, 11), (1, 12), (1, 13), (1, 14), (1, 15), (1, 16), (1, 17), (1, 18), (1, 19), (1, 20), (1, 21), (1, 22), (3, 23)] (by kernel_rfl) (by kernel_rfl) (by kernel_rfl) (fun _ _ _ _ _ h => h) ?_ ?_
              · exact (Below.refl _ _).drewN 1
              refine chainL_alone (by simp only [List.getElem?_toArray, List.getElem?_cons_zero]; rfl) ?_
              intro K hK
              go_wp2_with fail
              refine (gknown_any _ HY.out.drew.sp).mono ?_
              rintro e k1 ⟨rfl, hb⟩
              have B1 : Below wr.heap.size wr k1 := ((Below.refl wr.heap.size wr).drewN 1).trans hb
              clear hb
              go_wp2
              refine hK.out _ _ (B1) ?_
              clear hK K
              refine chainL_alone (by simp only [List.getElem?_toArray, List.getElem?_cons_zero, List.getElem?_cons_succ]; rfl) ?_
              intro K hK
              go_wp2
              refine hK.out _ _ (B1) ?_
              clear hK K
              refine chainL_pure (v := ?_) (by simp only [List.getElem?_toArray, List.getElem?_cons_zero, List.getElem?_cons_succ]; rfl) (by rfl) (fun w => ?_) ?_
              rotate_left
              · go_simp <;> with_reducible rfl
              simp only [Act.put, List.setIfInBounds_toArray, List.set_cons_zero, List.set_cons_succ]
              refine chainL_pure (v := ?_) (by simp only [List.getElem?_toArray, List.getElem?_cons_zero, List.getElem?_cons_succ]; rfl) (by rfl) (fun w => ?_) ?_
              rotate_left
              · go_simp <;> with_reducible rfl
              simp only [Act.put, List.setIfInBounds_toArray, List.set_cons_zero, List.set_cons_succ]
              refine chainL_take (v := ?_) (by simp only [List.getElem?_toArray, List.getElem?_cons_zero, List.getElem?_cons_succ]; rfl) (by rfl) (fun w hS => ?_) ?_
              rotate_left
              · obtain ⟨d0, d1, d2, -⟩ := cells3 (HX.out.q.later hS); go_simp <;> with_reducible rfl
              simp only [Act.put, List.setIfInBounds_toArray, List.set_cons_zero, List.set_cons_succ]
              refine chainL_take (v := ?_) (by simp only [List.getElem?_toArray, List.getElem?_cons_zero, List.getElem?_cons_succ]; rfl) (by rfl) (fun w hS => ?_) ?_
              rotate_left
              · obtain ⟨d0, d1, d2, -⟩ := cells3 (HY.out.p.q.later hS); go_simp <;> with_reducible rfl
              simp only [Act.put, List.setIfInBounds_toArray, List.set_cons_zero, List.set_cons_succ]
              refine chainL_alone (by simp only [List.getElem?_toArray, List.getElem?_cons_zero, List.getElem?_cons_succ]; rfl) ?_
              intro K hK
              go_wp2_with fail
              refine (gsame_any (HX.out.grd.later B1) (HY.out.p.grd.later B1) HX.out.ok.r2 HY.out.p.ok.r2 HX.out.ok.c2).mono ?_
              rintro e k2 ⟨rfl, hb⟩
              rw [HSM.out]
              have B2 : Below wr.heap.size wr k2 := B1.trans (hb.mono B1.size)
              clear hb
              go_wp2
              refine hK.out _ _ (B2) ?_
              clear hK K
              refine chainL_alone (by simp only [List.getElem?_toArray, List.getElem?_cons_zero, List.getElem?_cons_succ]; rfl) ?_
              intro K hK
              go_wp2_with fail
              refine (rgsame_any A5 A R5 R cap5 cap g5 g k2 (HX.out.lns.below B2) (HY.out.p.lns.below B2) HX.out.ok.len HY.out.p.ok.len HX.out.ok.r2 HLn.out).mono ?_
              rintro e k3 ⟨rfl, hb⟩
              rw [HSM.out]
              have B3 : Below wr.heap.size wr k3 := B2.trans (hb.mono B2.size)
              clear hb
              go_wp2
              refine hK.out _ _ (B3) ?_
              clear hK K
              refine chainL_alone (by simp only [List.getElem?_toArray, List.getElem?_cons_zero, List.getElem?_cons_succ]; rfl) ?_
              intro K hK
              go_wp2
              refine hK.out _ _ (B3) ?_
              clear hK K
              refine chainL_alone (by simp only [List.getElem?_toArray, List.getElem?_cons_zero, List.getElem?_cons_succ]; rfl) ?_
              intro K hK
              go_wp2
              refine hK.out _ _ (B3) ?_
              clear hK K
              refine chainL_alone (by simp only [List.getElem?_toArray, List.getElem?_cons_zero, List.getElem?_cons_succ]; rfl) ?_
              intro K hK
              go_wp2
              refine hK.out _ _ (B3) ?_
              clear hK K
              refine chainL_pure (v := ?_) (by simp only [List.getElem?_toArray, List.getElem?_cons_zero, List.getElem?_cons_succ]; rfl) (by rfl) (fun w => ?_) ?_
              rotate_left
              · go_simp <;> with_reducible rfl
              simp only [Act.put, List.setIfInBounds_toArray, List.set_cons_zero, List.set_cons_succ]
              refine chainL_alone (by simp only [List.getElem?_toArray, List.getElem?_cons_zero, List.getElem?_cons_succ]; rfl) ?_
              intro K hK
              go_wp2
              refine hK.out _ _ (B3) ?_
              clear hK K
              refine chainL_alone (by simp only [List.getElem?_toArray, List.getElem?_cons_zero, List.getElem?_cons_succ]; rfl) ?_
              intro K hK
              go_wp2_with fail
              refine (gsame_any (HX.out.grd.later B3) (HX.out.grd.later B3) HX.out.ok.r2 HX.out.ok.r2 HX.out.ok.c2).mono ?_
              rintro e k4 ⟨rfl, hb⟩
              rw [sameG_self]
              have B4 : Below wr.heap.size wr k4 := B3.trans (hb.mono B3.size)
              clear hb
              go_wp2
              refine hK.out _ _ (B4) ?_
              clear hK K
              refine chainL_alone (by simp only [List.getElem?_toArray, List.getElem?_cons_zero, List.getElem?_cons_succ]; rfl) ?_
              intro K hK
              go_wp2
              refine hK.out _ _ (B4) ?_
              clear hK K
              refine chainL_alone (by simp only [List.getElem?_toArray, List.getElem?_cons_zero, List.getElem?_cons_succ]; rfl) ?_
              intro K hK
              go_wp2
              refine hK.out _ _ (B4) ?_
              clear hK K
              refine chainL_alone (by simp only [List.getElem?_toArray, List.getElem?_cons_zero, List.getElem?_cons_succ]; rfl) ?_
              intro K hK
              go_wp2
              refine hK.out _ _ (B4) ?_
              clear hK K
              refine chainL_alone (by simp only [List.getElem?_toArray, List.getElem?_cons_zero, List.getElem?_cons_succ]; rfl) ?_
              intro K hK
              go_wp2_with fail
              refine (gsame_nilR G5 k4).mono ?_
              rintro e k5 ⟨rfl, rfl⟩
              go_wp2
              refine hK.out _ _ (B4) ?_
              clear hK K
              refine chainL_alone (by simp only [List.getElem?_toArray, List.getElem?_cons_zero, List.getElem?_cons_succ]; rfl) ?_
              intro K hK
              go_wp2
              refine hK.out _ _ (B4) ?_
              clear hK K
              refine chainL_alone (by simp only [List.getElem?_toArray, List.getElem?_cons_zero, List.getElem?_cons_succ]; rfl) ?_
              intro K hK
              go_wp2
              refine hK.out _ _ (B4) ?_
              clear hK K
              refine chainL_alone (by simp only [List.getElem?_toArray, List.getElem?_cons_zero, List.getElem?_cons_succ]; rfl) ?_
              intro K hK
              go_wp2
              refine hK.out _ _ (B4) ?_
              clear hK K
              refine chainL_alone (by simp only [List.getElem?_toArray, List.getElem?_cons_zero, List.getElem?_cons_succ]; rfl) ?_
              intro K hK
              go_wp2_with fail
              refine (gsame_nil2 k4).mono ?_
              rintro e k5 ⟨rfl, rfl⟩
              go_wp2
              refine hK.out _ _ (B4) ?_
              clear hK K
              refine chainL_alone (by simp only [List.getElem?_toArray, List.getElem?_cons_zero, List.getElem?_cons_succ]; rfl) ?_
              intro K hK
              go_wp2
              refine hK.out _ _ (B4) ?_
              clear hK K
              refine chainL_late (by simp only [List.getElem?_toArray, List.getElem?_cons_zero, List.getElem?_cons_succ]; rfl) ?_
              intro K hK
              go_wp2
              refine hK.out _ _ ?_
              clear hK K
              refine chainL_nil ?_
              have HBZ := hide (HY.out.bel.trans (B4.mono HY.out.bel.size))
              clear B1 B2 B3 B4
              go_wp2
              go_ret
              exact ⟨rfl, HBZ.out⟩
          · have HLn : Hid (∀ i, i < R5 → (lAt g5.ls i).length ≤ 1000000) := by unfold Hid; intro i hi; rw [(HX.out.ok.each i hi).1]; have := HX.out.ok.c2; omega
            obtain ⟨smv, hsm⟩ : ∃ smv, sameG g5 g = smv := ⟨_, rfl⟩
            have HSM := hide hsm
            clear hsm
            go_wp2
            refine wp_region_chainL (fun w' => Below wr.heap.size wr w') 23 [(1, 0), (1, 1), (2, 2), (2, 3), (0, 5), (0, 6), (1, 4), (1, 7), (1, 8), (1, 9), (1, 10), (2, 11), (1, 12), (1, 13), (1, 14), (1, 15), (1, 16), (1, 17), (1, 18), (1, 19), (1, 20), (1, 21), (1, 22), (3, 23)] (by kernel_rfl) (by kernel_rfl) (by kernel_rfl) (fun _ _ _ _ _ h => h) ?_ ?_
            · exact (Below.refl _ _).drewN 1
            refine chainL_alone (by simp only [List.getElem?_toArray, List.getElem?_cons_zero]; rfl) ?_
            intro K hK
            go_wp2_with fail
            refine (gknown_any _ HY.out.drew.sp).mono ?_
            rintro e k1 ⟨rfl, hb⟩
            have B1 : Below wr.heap.size wr k1 := ((Below.refl wr.heap.size wr).drewN 1).trans hb
            clear hb
            go_wp2
            refine hK.out _ _ (B1) ?_
            clear hK K
            refine chainL_alone (by simp only [List.getElem?_toArray, List.getElem?_cons_zero, List.getElem?_cons_succ]; rfl) ?_
            intro K hK
            go_wp2
            refine hK.out _ _ (B1) ?_
            clear hK K
            refine chainL_pure (v := ?_) (by simp only [List.getElem?_toArray, List.getElem?_cons_zero, List.getElem?_cons_succ]; rfl) (by rfl) (fun w => ?_) ?_
            rotate_left
            · go_simp <;> with_reducible rfl
            simp only [Act.put, List.setIfInBounds_toArray, List.set_cons_zero, List.set_cons_succ]
            refine chainL_pure (v := ?_) (by simp only [List.getElem?_toArray, List.getElem?_cons_zero, List.getElem?_cons_succ]; rfl) (by rfl) (fun w => ?_) ?_
            rotate_left
            · go_simp <;> with_reducible rfl
            simp only [Act.put, List.setIfInBounds_toArray, List.set_cons_zero, List.set_cons_succ]
            refine chainL_take (v := ?_) (by simp only [List.getElem?_toArray, List.getElem?_cons_zero, List.getElem?_cons_succ]; rfl) (by rfl) (fun w hS => ?_) ?_
            rotate_left
            · obtain ⟨d0, d1, d2, -⟩ := cells3 (HX.out.q.later hS); go_simp <;> with_reducible rfl
            simp only [Act.put, List.setIfInBounds_toArray, List.set_cons_zero, List.set_cons_succ]
            refine chainL_take (v := ?_) (by simp only [List.getElem?_toArray, List.getElem?_cons_zero, List.getElem?_cons_succ]; rfl) (by rfl) (fun w hS => ?_) ?_
            rotate_left
            · obtain ⟨d0, d1, d2, -⟩ := cells3 (HY.out.p.q.later hS); go_simp <;> with_reducible rfl
            simp only [Act.put, List.setIfInBounds_toArray, List.set_cons_zero, List.set_cons_succ]
            refine chainL_alone (by simp only [List.getElem?_toArray, List.getElem?_cons_zero, List.getElem?_cons_succ]; rfl) ?_
            intro K hK
            go_wp2_with fail
            refine (gsame_any (HX.out.grd.later B1) (HY.out.p.grd.later B1) HX.out.ok.r2 HY.out.p.ok.r2 HX.out.ok.c2).mono ?_
            rintro e k2 ⟨rfl, hb⟩
            rw [HSM.out]
            have B2 : Below wr.heap.size wr k2 := B1.trans (hb.mono B1.size)
            clear hb
            go_wp2
            refine hK.out _ _ (B2) ?_
            clear hK K
            refine chainL_alone (by simp only [List.getElem?_toArray, List.getElem?_cons_zero, List.getElem?_cons_succ]; rfl) ?_
            intro K hK
            go_wp2_with fail
            refine (rgsame_any A5 A R5 R cap5 cap g5 g k2 (HX.out.lns.below B2) (HY.out.p.lns.below B2) HX.out.ok.len HY.out.p.ok.len HX.out.ok.r2 HLn.out).mono ?_
            rintro e k3 ⟨rfl, hb⟩
            rw [HSM.out]
            have B3 : Below wr.heap.size wr k3 := B2.trans (hb.mono B2.size)
            clear hb
            go_wp2
            refine hK.out _ _ (B3) ?_
            clear hK K
            refine chainL_alone (by simp only [List.getElem?_toArray, List.getElem?_cons_zero, List.getElem?_cons_succ]; rfl) ?_
            intro K hK
            go_wp2
            refine hK.out _ _ (B3) ?_
            clear hK K
            refine chainL_alone (by simp only [List.getElem?_toArray, List.getElem?_cons_zero, List.getElem?_cons_succ]; rfl) ?_
            intro K hK
            go_wp2
            refine hK.out _ _ (B3) ?_
            clear hK K
            refine chainL_alone (by simp only [List.getElem?_toArray, List.getElem?_cons_zero, List.getElem?_cons_succ]; rfl) ?_
            intro K hK
            go_wp2
            refine hK.out _ _ (B3) ?_
            clear hK K
            refine chainL_pure (v := ?_) (by simp only [List.getElem?_toArray, List.getElem?_cons_zero, List.getElem?_cons_succ]; rfl) (by rfl) (fun w => ?_) ?_
            rotate_left
            · go_simp <;> with_reducible rfl
            simp only [Act.put, List.setIfInBounds_toArray, List.set_cons_zero, List.set_cons_succ]
            refine chainL_alone (by simp only [List.getElem?_toArray, List.getElem?_cons_zero, List.getElem?_cons_succ]; rfl) ?_
            intro K hK
            go_wp2
            refine hK.out _ _ (B3) ?_
            clear hK K
            refine chainL_alone (by simp only [List.getElem?_toArray, List.getElem?_cons_zero, List.getElem?_cons_succ]; rfl) ?_
            intro K hK
            go_wp2_with fail
            refine (gsame_any (HX.out.grd.later B3) (HX.out.grd.later B3) HX.out.ok.r2 HX.out.ok.r2 HX.out.ok.c2).mono ?_
            rintro e k4 ⟨rfl, hb⟩
            rw [sameG_self]
            have B4 : Below wr.heap.size wr k4 := B3.trans (hb.mono B3.size)
            clear hb
            go_wp2
            refine hK.out _ _ (B4) ?_
            clear hK K
            refine chainL_alone (by simp only [List.getElem?_toArray, List.getElem?_cons_zero, List.getElem?_cons_succ]; rfl) ?_
            intro K hK
            go_wp2
            refine hK.out _ _ (B4) ?_
            clear hK K
            refine chainL_alone (by simp only [List.getElem?_toArray, List.getElem?_cons_zero, List.getElem?_cons_succ]; rfl) ?_
            intro K hK
            go_wp2
            refine hK.out _ _ (B4) ?_
            clear hK K
            refine chainL_alone (by simp only [List.getElem?_toArray, List.getElem?_cons_zero, List.getElem?_cons_succ]; rfl) ?_
            intro K hK
            go_wp2
            refine hK.out _ _ (B4) ?_
            clear hK K
            refine chainL_alone (by simp only [List.getElem?_toArray, List.getElem?_cons_zero, List.getElem?_cons_succ]; rfl) ?_
            intro K hK
            go_wp2_with fail
            refine (gsame_nilR G5 k4).mono ?_
            rintro e k5 ⟨rfl, rfl⟩
            go_wp2
            refine hK.out _ _ (B4) ?_
            clear hK K
            refine chainL_alone (by simp only [List.getElem?_toArray, List.getElem?_cons_zero, List.getElem?_cons_succ]; rfl) ?_
            intro K hK
            go_wp2
            refine hK.out _ _ (B4) ?_
            clear hK K
            refine chainL_alone (by simp only [List.getElem?_toArray, List.getElem?_cons_zero, List.getElem?_cons_succ]; rfl) ?_
            intro K hK
            go_wp2
            refine hK.out _ _ (B4) ?_
            clear hK K
            refine chainL_alone (by simp only [List.getElem?_toArray, List.getElem?_cons_zero, List.getElem?_cons_succ]; rfl) ?_
            intro K hK
            go_wp2
            refine hK.out _ _ (B4) ?_
            clear hK K
            refine chainL_alone (by simp only [List.getElem?_toArray, List.getElem?_cons_zero, List.getElem?_cons_succ]; rfl) ?_
            intro K hK
            go_wp2_with fail
            refine (gsame_nil2 k4).mono ?_
            rintro e k5 ⟨rfl, rfl⟩
            go_wp2
            refine hK.out _ _ (B4) ?_
            clear hK K
            refine chainL_alone (by simp only [List.getElem?_toArray, List.getElem?_cons_zero, List.getElem?_cons_succ]; rfl) ?_
            intro K hK
            go_wp2
            refine hK.out _ _ (B4) ?_
            clear hK K
            refine chainL_late (by simp only [List.getElem?_toArray, List.getElem?_cons_zero, List.getElem?_cons_succ]; rfl) ?_
            intro K hK
            go_wp2
            refine hK.out _ _ ?_
            clear hK K
            refine chainL_nil ?_
            have HBZ := hide (HY.out.bel.trans (B4.mono HY.out.bel.size))
            clear B1 B2 B3 B4
            go_wp2
            go_ret
            exact ⟨rfl, HBZ.out⟩
  · have HNS := hide hs
    have HSZ : Hid (sizeB sr sc = false) := by unfold Hid sizeB; simpa using hs
    clear hs
    go_enter Tryd.func3, Tryd.ntmps3
    go_wp2_with fail
    refine (small_any rows w).mono ?_
    rintro e w1 ⟨rfl, rfl⟩
    rw [HSR.out]
    go_wp2_with fail
    refine (small_any cols w).mono ?_
    rintro e w1 ⟨rfl, rfl⟩
    rw [HSC.out]
    go_wp2_with fail
    refine (gnew_no sr sc HNS.out w).mono ?_
    rintro e w1 ⟨rfl, rfl⟩
    go_wp2_with fail
    refine (gnew_no sr sc HNS.out w).mono ?_
    rintro e w1 ⟨rfl, rfl⟩
    go_wp2_with fail
    refine (gknown_any w HS.out).mono ?_
    rintro e w1 ⟨rfl, hb⟩
    have HB1 := hide hb
    clear hb
    go_wp2_with fail
    refine (rsize_any sr sc w1).mono ?_
    rintro e w2 ⟨rfl, rfl⟩
    rw [HSZ.out]
    go_wp2
    go_ret
    exact ⟨rfl, HB1.out⟩
end Go.Proofs.YtiifeniijcnahaaDoor
