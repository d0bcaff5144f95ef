/-
  Contracts and plain mathematics of DRef2.
-/
import Derived.Test.YtcbdokocnjoilaaGreatDoorH15
import Derived.Test.YtcbdokocnjoilaaGreatDoorH14
import Derived.Test.YtcbdokocnjoilaaGreatDoorH5
import Derived.Test.YtcbdokocnjoilaaGreatDoorH6
import Derived.Deep.DeepCutAuto
import Derived.Deep.CutRange
namespace Go.Proofs.YtcbdokocnjoilaaGreatDoor
set_option maxRecDepth 100000
set_option linter.unusedVariables false
set_option maxHeartbeats 8000000
section
open Go.ChangeShapes Go.WideShapes Go.ChangeAt Go.RowKit
theorem rdsame_any (C C' : Nat) (te t te' t' : TypeId) (x y : Df) (A A' : Option Addr) (n m c d : Nat) (w : World) (ha : Sps C te t .i64 w A x.ss) (hb : Sps C' te' t' .i64 w A' y.ss) (hC : C ≤ w.heap.size) (hC' : C' ≤ w.heap.size) (hn : x.ss.length = n) (hm : y.ss.length = m) (hl : n ≤ 1000000) (hbd : ∀ s ∈ x.ss, s.cs.length ≤ 1000000) :
    Calls Tryz.prog 25 #[.agg #[.int .i64 x.rows, .int .i64 x.cols, .int .i64 x.row, .int .i64 x.col, .slice A n c], .agg #[.int .i64 y.rows, .int .i64 y.cols, .int .i64 y.row, .int .i64 y.col, .slice A' m d]] w (Said (decide (x = y)) w) := by
  obtain ⟨a1, a2, a3, a4, es⟩ := x
  obtain ⟨b1, b2, b3, b4, fs⟩ := y
  simp only at ha hb hn hm hbd ⊢
  obtain ⟨W0, hW0⟩ : ∃ W0, (w.alloc (.cells #[.int .i64 a1, .int .i64 a2, .int .i64 a3, .int .i64 a4, .slice A n c] 32)).alloc (.cells #[.int .i64 b1, .int .i64 b2, .int .i64 b3, .int .i64 b4, .slice A' m d] 32) = W0 := ⟨_, rfl⟩
  have HB0 : Hid (Below w.heap.size w W0) := by unfold Hid; rw [← hW0]; exact two_new w _ _ [.int .i64 a1, .int .i64 a2, .int .i64 a3, .int .i64 a4, .slice A n c] [.int .i64 b1, .int .i64 b2, .int .i64 b3, .int .i64 b4, .slice A' m d]
  have HX0 : Hid (Whole W0 w.heap.size 32 [.int .i64 a1, .int .i64 a2, .int .i64 a3, .int .i64 a4, .slice A n c]) := by unfold Hid; rw [← hW0]; exact (Whole.new w 32 [.int .i64 a1, .int .i64 a2, .int .i64 a3, .int .i64 a4, .slice A n c]).alloc _
  have HY0 : Hid (Whole W0 (w.heap.size + 1) 32 [.int .i64 b1, .int .i64 b2, .int .i64 b3, .int .i64 b4, .slice A' m d]) := by unfold Hid; rw [← hW0]; exact whole_snd w _ 32 [.int .i64 b1, .int .i64 b2, .int .i64 b3, .int .i64 b4, .slice A' m d]
  have HW0 := hide hW0
  have HA := hide (ha.below HB0.out hC)
  have HB := hide (hb.below HB0.out hC')
  have HN := hide hn
  have HM := hide hm
  have HBD := hide hbd
  have HC : Hid (C ≤ W0.heap.size) := Nat.le_trans hC HB0.out.size
  have HC' : Hid (C' ≤ W0.heap.size) := Nat.le_trans hC' HB0.out.size
  clear hW0 ha hb hn hm hbd hC hC'
  by_cases q1 : a1 = b1
  rotate_left
  · have e1 : (a1 != b1) = true := by simpa using q1
    have HF : Hid (decide ((⟨a1, a2, a3, a4, es⟩ : Df) = ⟨b1, b2, b3, b4, fs⟩) = false) := by unfold Hid; rw [decide_eq_false_iff_not, Df.same]; rintro ⟨⟨h1, h2, h3, h4⟩, -⟩; exact q1 h1
    clear q1
    go_enter Tryz.func25, Tryz.ntmps25
    go_wp2
    go_ret
    exact ⟨ret_bool HF.out.symm, by rw [HW0.out]; exact HB0.out⟩
  subst q1
  by_cases q2 : a2 = b2
  rotate_left
  · have e2 : (a2 != b2) = true := by simpa using q2
    have HF : Hid (decide ((⟨a1, a2, a3, a4, es⟩ : Df) = ⟨a1, b2, b3, b4, fs⟩) = false) := by unfold Hid; rw [decide_eq_false_iff_not, Df.same]; rintro ⟨⟨h1, h2, h3, h4⟩, -⟩; exact q2 h2
    clear q2
    go_enter Tryz.func25, Tryz.ntmps25
    go_wp2
    go_ret
    exact ⟨ret_bool HF.out.symm, by rw [HW0.out]; exact HB0.out⟩
  subst q2
  by_cases q3 : a3 = b3
  rotate_left
  · have e3 : (a3 != b3) = true := by simpa using q3
    have HF : Hid (decide ((⟨a1, a2, a3, a4, es⟩ : Df) = ⟨a1, a2, b3, b4, fs⟩) = false) := by unfold Hid; rw [decide_eq_false_iff_not, Df.same]; rintro ⟨⟨h1, h2, h3, h4⟩, -⟩; exact q3 h3
    clear q3
    go_enter Tryz.func25, Tryz.ntmps25
    go_wp2
    go_ret
    exact ⟨ret_bool HF.out.symm, by rw [HW0.out]; exact HB0.out⟩
  subst q3
  by_cases q4 : a4 = b4
  rotate_left
  · have e4 : (a4 != b4) = true := by simpa using q4
    have HF : Hid (decide ((⟨a1, a2, a3, a4, es⟩ : Df) = ⟨a1, a2, a3, b4, fs⟩) = false) := by unfold Hid; rw [decide_eq_false_iff_not, Df.same]; rintro ⟨⟨h1, h2, h3, h4⟩, -⟩; exact q4 h4
    clear q4
    go_enter Tryz.func25, Tryz.ntmps25
    go_wp2
    go_ret
    exact ⟨ret_bool HF.out.symm, by rw [HW0.out]; exact HB0.out⟩
  subst q4
  by_cases hnm : n = m
  rotate_left
  · have e5 : ((n : Int) != (m : Int)) = true := by simp; omega
    have HF : Hid (decide ((⟨a1, a2, a3, a4, es⟩ : Df) = ⟨a1, a2, a3, a4, fs⟩) = false) := by unfold Hid; rw [decide_eq_false_iff_not, Df.same]; rintro ⟨-, h5⟩; simp only at h5; apply hnm; rw [← HN.out, ← HM.out, h5]
    clear hnm
    go_enter Tryz.func25, Tryz.ntmps25
    go_wp2
    go_ret
    exact ⟨ret_bool HF.out.symm, by rw [HW0.out]; exact HB0.out⟩
  subst hnm
  have HS : Hid (decide ((⟨a1, a2, a3, a4, es⟩ : Df) = ⟨a1, a2, a3, a4, fs⟩) = decide (es = fs)) := by unfold Hid; rw [Bool.eq_iff_iff, decide_eq_true_iff, decide_eq_true_iff, Df.same]; exact ⟨fun h => h.2, fun h => ⟨⟨rfl, rfl, rfl, rfl⟩, h⟩⟩
  go_enter Tryz.func25, Tryz.ntmps25
  go_wp2
  rw [HW0.out]
  go_loopw [5, 6, 7] (fun i _ _ wr => ∃ k : Nat, k ≤ n ∧ i = .int .i64 k ∧ Hid (∀ j, j < k → sAt es j = sAt fs j) ∧ Below W0.heap.size W0 wr) (fun i _ _ _ => n - (intOf i).toNat)
  case atStart => exact ⟨0, Nat.zero_le _, rfl, (by unfold Hid; intro j hj; omega), Below.refl _ _⟩
  case round =>
    obtain ⟨k, hk, rfl, hall, hbel⟩ := hrel
    obtain ⟨d0, d1, d2, d3, d4, ld⟩ := cells5 (HX0.out.later hbel)
    by_cases hlt : k < n
    · obtain ⟨b, off, A1, c1, rfl, lb, x0, x1, x2, xi, -⟩ := (HA.out.below hbel HC.out).at (i := k) (by rw [HN.out]; exact hlt)
      obtain ⟨b', off', A2, c2, rfl, lb2, y0, y1, y2, yi, -⟩ := (HB.out.below hbel HC'.out).at (i := k) (by rw [HM.out]; exact hlt)
      obtain ⟨g0, g1, g2, g3, g4, lg⟩ := cells5 (HY0.out.later hbel)
      have hlu : (sAt es k).cs.length ≤ 1000000 := HBD.out _ (mem_sAt es k (by rw [HN.out]; exact hlt))
      obtain ⟨u, hu⟩ : ∃ u, sAt es k = u := ⟨_, rfl⟩
      obtain ⟨v, hv⟩ : ∃ v, sAt fs k = v := ⟨_, rfl⟩
      rw [hu] at x0 x1 x2 xi hlu
      rw [hv] at y0 y1 y2 yi
      obtain ⟨ur, uc, us⟩ := u
      obtain ⟨vr, vc, vs⟩ := v
      simp only at x0 x1 x2 xi hlu y0 y1 y2 yi
      obtain ⟨nu, hnu⟩ : ∃ nu, us.length = nu := ⟨_, rfl⟩
      obtain ⟨nv, hnv⟩ : ∃ nv, vs.length = nv := ⟨_, rfl⟩
      rw [hnu] at x2 hlu
      rw [hnv] at y2
      have HXI := hide xi.cels
      have HYI := hide yi.cels
      have HU := hide hu
      have HV := hide hv
      have HNU := hide hnu
      have HNV := hide hnv
      have HBE := hide hbel
      clear hu hv hnu hnv xi yi hbel
      go_upto_region 6 with fail
      go_cut [6, 7] from 43 to 79 (fun p q wx => ∃ P Q, p = .pointer (some ⟨P, 0, none⟩) ∧ q = .pointer (some ⟨Q, 0, none⟩) ∧ Hid (Whole wx P 73 [.int .i64 ur, .int .i64 uc, .slice A1 nu c1] ∧ Whole wx Q 73 [.int .i64 vr, .int .i64 vc, .slice A2 nv c2] ∧ Below wr.heap.size wr wx))
      case first =>
        refine rgT (fun w' => Below wr.heap.size wr w') (.take 2 (.take 7 (.take 0 (.take 5 (.take 1 (.take 6 (.take 3 (.take 8 (.take 4 (.take 9 (.two 10 (.alone 11 (.alone 12 (.alone 13 .done))) 11 (.alone 10 (.alone 12 (.alone 13 .done)))))))))))))) ((Below.refl _ _).drewN 1) ?_
        iterate 4 refine stT (h := ?_)
        refine stT (hy := fun w hS => by rw [← hS.cell (by simpa using ld)] at d4; go_simp <;> with_reducible rfl) (h := ?_)
        refine stT (hy := fun w hS => by rw [← hS.cell (by simpa using lg)] at g4; go_simp <;> with_reducible rfl) (h := ?_)
        iterate 2 refine stT (h := ?_)
        refine stT (hy := fun w hS => by rw [← hS.cell (by simpa using lb)] at x0 x1 x2; go_simp <;> with_reducible rfl) (h := ?_)
        refine stT (hy := fun w hS => by rw [← hS.cell (by simpa using lb2)] at y0 y1 y2; go_simp <;> with_reducible rfl) (h := ?_)
        refine tree_two (by simp only [List.getElem?_toArray, List.getElem?_cons_zero, List.getElem?_cons_succ]; rfl) (by simp only [List.getElem?_toArray, List.getElem?_cons_zero, List.getElem?_cons_succ]; rfl) ?_ ?_
        · intro K hK
          go_wp2
          refine hK.out _ _ (((Below.refl _ _).drewN 1).alloc (Nat.le_refl _) _) ?_
          clear hK K
          refine alT fun K hK => ?_
          go_wp2
          refine hK.out _ _ ((((Below.refl _ _).drewN 1).alloc (Nat.le_refl _) _).alloc (by simp) _) ?_
          clear hK K
          obtain ⟨V, hV⟩ : ∃ V, ((wr.alloc (.cells #[.int .i64 0, .int .i64 0, .slice none 0 0] 73)).alloc (.cells #[.int .i64 0, .int .i64 0, .slice none 0 0] 73)).drew = V := ⟨_, rfl⟩
          have hV0 : Whole V wr.heap.size 73 [.int .i64 0, .int .i64 0, .slice none 0 0] := by rw [← hV]; exact ((Whole.new wr 73 [.int .i64 0, .int .i64 0, .slice none 0 0]).alloc _).drew
          have hV1 : Whole V (wr.heap.size + 1) 73 [.int .i64 0, .int .i64 0, .slice none 0 0] := by rw [← hV]; exact (whole_snd wr _ 73 [.int .i64 0, .int .i64 0, .slice none 0 0]).drew
          have hVB : Below wr.heap.size wr V := by rw [← hV]; exact (((Below.refl _ _).alloc (Nat.le_refl _) _).alloc (by simp) _).drewN 1
          rw [hV]
          clear hV
          have l0 := hV0.lt
          have l1 := hV1.lt
          have z0 := hV0.frozen
          have z1 := hV1.frozen
          obtain ⟨p0, p1, p2, -⟩ := cells3 hV0
          obtain ⟨q0, q1, q2, -⟩ := cells3 hV1
          refine alT fun K hK => ?_
          go_wp2
          refine hK.out _ _ (below_put3 hVB (by simp) _ _ _) ?_
          clear hK K
          have hW0 := put3 hV0 (.int .i64 ur) (.int .i64 uc) (.slice A1 nu c1)
          have hW1 : Whole (((V.setCell ⟨wr.heap.size, 0, none⟩ (.int .i64 ur)).setCell ⟨wr.heap.size, 1, none⟩ (.int .i64 uc)).setCell ⟨wr.heap.size, 2, none⟩ (.slice A1 nu c1)) (wr.heap.size + 1) 73 [.int .i64 0, .int .i64 0, .slice none 0 0] := hV1.same (heap_put3 _ _ _ _ _ _ (by simp))
          have hWB : Below wr.heap.size wr (((V.setCell ⟨wr.heap.size, 0, none⟩ (.int .i64 ur)).setCell ⟨wr.heap.size, 1, none⟩ (.int .i64 uc)).setCell ⟨wr.heap.size, 2, none⟩ (.slice A1 nu c1)) := below_put3 hVB (by simp) _ _ _
          clear p0 p1 p2 q0 q1 q2 z0 z1 l0 l1 hV0 hV1 hVB
          obtain ⟨V2, hV2⟩ : ∃ V2, (((V.setCell ⟨wr.heap.size, 0, none⟩ (.int .i64 ur)).setCell ⟨wr.heap.size, 1, none⟩ (.int .i64 uc)).setCell ⟨wr.heap.size, 2, none⟩ (.slice A1 nu c1)) = V2 := ⟨_, rfl⟩
          rw [hV2] at hW0 hW1 hWB ⊢
          clear hV2
          have l0 := hW1.lt
          have z0 := hW1.frozen
          obtain ⟨q0, q1, q2, -⟩ := cells3 hW1
          refine alT fun K hK => ?_
          go_wp2
          refine hK.out _ _ (below_put3 hWB (by simp) _ _ _) ?_
          clear hK K
          have HF1 : Hid (Whole (((V2.setCell ⟨wr.heap.size + 1, 0, none⟩ (.int .i64 vr)).setCell ⟨wr.heap.size + 1, 1, none⟩ (.int .i64 vc)).setCell ⟨wr.heap.size + 1, 2, none⟩ (.slice A2 nv c2)) wr.heap.size 73 [.int .i64 ur, .int .i64 uc, .slice A1 nu c1] ∧ Whole (((V2.setCell ⟨wr.heap.size + 1, 0, none⟩ (.int .i64 vr)).setCell ⟨wr.heap.size + 1, 1, none⟩ (.int .i64 vc)).setCell ⟨wr.heap.size + 1, 2, none⟩ (.slice A2 nv c2)) (wr.heap.size + 1) 73 [.int .i64 vr, .int .i64 vc, .slice A2 nv c2] ∧ Below wr.heap.size wr (((V2.setCell ⟨wr.heap.size + 1, 0, none⟩ (.int .i64 vr)).setCell ⟨wr.heap.size + 1, 1, none⟩ (.int .i64 vc)).setCell ⟨wr.heap.size + 1, 2, none⟩ (.slice A2 nv c2))) :=
            ⟨hW0.same (heap_put3 _ _ _ _ _ _ (by simp)), put3 hW1 _ _ _, below_put3 hWB (by simp) _ _ _⟩
          clear q0 q1 q2 z0 l0 hW0 hW1 hWB
          refine tree_done ?_
          go_wp2
          go_meet
          case rel => exact ⟨_, _, rfl, rfl, HF1⟩
        · intro K hK
          go_wp2
          refine hK.out _ _ (((Below.refl _ _).drewN 1).alloc (Nat.le_refl _) _) ?_
          clear hK K
          refine alT fun K hK => ?_
          go_wp2
          refine hK.out _ _ ((((Below.refl _ _).drewN 1).alloc (Nat.le_refl _) _).alloc (by simp) _) ?_
          clear hK K
          obtain ⟨V, hV⟩ : ∃ V, ((wr.alloc (.cells #[.int .i64 0, .int .i64 0, .slice none 0 0] 73)).alloc (.cells #[.int .i64 0, .int .i64 0, .slice none 0 0] 73)).drew = V := ⟨_, rfl⟩
          have hV0 : Whole V wr.heap.size 73 [.int .i64 0, .int .i64 0, .slice none 0 0] := by rw [← hV]; exact ((Whole.new wr 73 [.int .i64 0, .int .i64 0, .slice none 0 0]).alloc _).drew
          have hV1 : Whole V (wr.heap.size + 1) 73 [.int .i64 0, .int .i64 0, .slice none 0 0] := by rw [← hV]; exact (whole_snd wr _ 73 [.int .i64 0, .int .i64 0, .slice none 0 0]).drew
          have hVB : Below wr.heap.size wr V := by rw [← hV]; exact (((Below.refl _ _).alloc (Nat.le_refl _) _).alloc (by simp) _).drewN 1
          rw [hV]
          clear hV
          have l0 := hV0.lt
          have l1 := hV1.lt
          have z0 := hV0.frozen
          have z1 := hV1.frozen
          obtain ⟨p0, p1, p2, -⟩ := cells3 hV0
          obtain ⟨q0, q1, q2, -⟩ := cells3 hV1
          refine alT fun K hK => ?_
          go_wp2
          refine hK.out _ _ (below_put3 hVB (by simp) _ _ _) ?_
          clear hK K
          have hW0 := put3 hV1 (.int .i64 ur) (.int .i64 uc) (.slice A1 nu c1)
          have hW1 : Whole (((V.setCell ⟨wr.heap.size + 1, 0, none⟩ (.int .i64 ur)).setCell ⟨wr.heap.size + 1, 1, none⟩ (.int .i64 uc)).setCell ⟨wr.heap.size + 1, 2, none⟩ (.slice A1 nu c1)) wr.heap.size 73 [.int .i64 0, .int .i64 0, .slice none 0 0] := hV0.same (heap_put3 _ _ _ _ _ _ (by simp))
          have hWB : Below wr.heap.size wr (((V.setCell ⟨wr.heap.size + 1, 0, none⟩ (.int .i64 ur)).setCell ⟨wr.heap.size + 1, 1, none⟩ (.int .i64 uc)).setCell ⟨wr.heap.size + 1, 2, none⟩ (.slice A1 nu c1)) := below_put3 hVB (by simp) _ _ _
          clear p0 p1 p2 q0 q1 q2 z0 z1 l0 l1 hV0 hV1 hVB
          obtain ⟨V2, hV2⟩ : ∃ V2, (((V.setCell ⟨wr.heap.size + 1, 0, none⟩ (.int .i64 ur)).setCell ⟨wr.heap.size + 1, 1, none⟩ (.int .i64 uc)).setCell ⟨wr.heap.size + 1, 2, none⟩ (.slice A1 nu c1)) = V2 := ⟨_, rfl⟩
          rw [hV2] at hW0 hW1 hWB ⊢
          clear hV2
          have l0 := hW1.lt
          have z0 := hW1.frozen
          obtain ⟨q0, q1, q2, -⟩ := cells3 hW1
          refine alT fun K hK => ?_
          go_wp2
          refine hK.out _ _ (below_put3 hWB (by simp) _ _ _) ?_
          clear hK K
          have HF1 : Hid (Whole (((V2.setCell ⟨wr.heap.size, 0, none⟩ (.int .i64 vr)).setCell ⟨wr.heap.size, 1, none⟩ (.int .i64 vc)).setCell ⟨wr.heap.size, 2, none⟩ (.slice A2 nv c2)) (wr.heap.size + 1) 73 [.int .i64 ur, .int .i64 uc, .slice A1 nu c1] ∧ Whole (((V2.setCell ⟨wr.heap.size, 0, none⟩ (.int .i64 vr)).setCell ⟨wr.heap.size, 1, none⟩ (.int .i64 vc)).setCell ⟨wr.heap.size, 2, none⟩ (.slice A2 nv c2)) wr.heap.size 73 [.int .i64 vr, .int .i64 vc, .slice A2 nv c2] ∧ Below wr.heap.size wr (((V2.setCell ⟨wr.heap.size, 0, none⟩ (.int .i64 vr)).setCell ⟨wr.heap.size, 1, none⟩ (.int .i64 vc)).setCell ⟨wr.heap.size, 2, none⟩ (.slice A2 nv c2))) :=
            ⟨hW0.same (heap_put3 _ _ _ _ _ _ (by simp)), put3 hW1 _ _ _, below_put3 hWB (by simp) _ _ _⟩
          clear q0 q1 q2 z0 l0 hW0 hW1 hWB
          refine tree_done ?_
          go_wp2
          go_meet
          case rel => exact ⟨_, _, rfl, rfl, HF1⟩
      case rest =>
        obtain ⟨P, Q, rfl, rfl, HH⟩ := hcut
        have HP := hide HH.out.1
        have HQ := hide HH.out.2.1
        have HB2 := hide (HBE.out.trans (HH.out.2.2.mono HBE.out.size))
        have HXJ := hide (HXI.out.below HH.out.2.2)
        have HYJ := hide (HYI.out.below HH.out.2.2)
        clear HH HXI HYI d0 d1 d2 d3 d4 ld g0 g1 g2 g3 g4 lg x0 x1 x2 y0 y1 y2 lb lb2
        obtain ⟨p0, p1, p2, lp⟩ := cells3 HP.out
        obtain ⟨q0, q1, q2, lq⟩ := cells3 HQ.out
        have fin : ¬ ((⟨ur, uc, us⟩ : Sp) = ⟨vr, vc, vs⟩) → ¬ es = fs := fun h1 h2 => h1 (by rw [← HU.out, ← HV.out, h2])
        have HFN := hide fin
        clear fin
        by_cases hr : ur = vr
        rotate_left
        · have e1 : (ur != vr) = true := by simpa using hr
          have HF : Hid (decide (es = fs) = false) := by unfold Hid; rw [decide_eq_false_iff_not]; exact HFN.out (fun e => hr (by cases e; rfl))
          clear hr
          go_wp2
          go_ret
          exact ⟨ret_bool (HS.out.trans HF.out).symm, HB0.out.trans (HB2.out.mono HB0.out.size)⟩
        subst hr
        by_cases hc : uc = vc
        rotate_left
        · have e1 : (uc != vc) = true := by simpa using hc
          have HF : Hid (decide (es = fs) = false) := by unfold Hid; rw [decide_eq_false_iff_not]; exact HFN.out (fun e => hc (by cases e; rfl))
          clear hc
          go_wp2
          go_ret
          exact ⟨ret_bool (HS.out.trans HF.out).symm, HB0.out.trans (HB2.out.mono HB0.out.size)⟩
        subst hc
        go_wp2_with fail
        refine (rsame6_any A1 A2 nu c1 nv c2 us vs wc HXJ.out HYJ.out HNU.out HNV.out hlu).mono ?_
        obtain ⟨bo, hbo⟩ : ∃ bo, decide (us = vs) = bo := ⟨_, rfl⟩
        rw [hbo]
        have HBO := hide hbo
        clear hbo
        rintro e w1 ⟨rfl, hb1⟩
        have HB3 := hide (HB2.out.trans (hb1.mono HB2.out.size))
        clear hb1
        cases bo
        · have HF : Hid (decide (es = fs) = false) := by unfold Hid; rw [decide_eq_false_iff_not]; exact HFN.out (fun e => by have := of_decide_eq_false HBO.out; apply this; cases e; rfl)
          go_wp2
          go_ret
          exact ⟨ret_bool (HS.out.trans HF.out).symm, HB0.out.trans (HB3.out.mono HB0.out.size)⟩
        · have HALL : Hid (∀ j, j < k + 1 → sAt es j = sAt fs j) := by
            unfold Hid
            intro j hj
            by_cases e : j = k
            · rw [e, HU.out, HV.out, of_decide_eq_true HBO.out]
            · exact hall.out j (by omega)
          go_wp2
          go_roundw
          case rel => exact ⟨k + 1, by omega, by go_num, HALL, HB3.out⟩
          case measure => simp [intOf]; omega
    · have HE : Hid (decide (es = fs) = true) := by
        unfold Hid
        rw [decide_eq_true_iff]
        exact sp_ext (by rw [HN.out, HM.out]) (fun j hj => hall.out j (by rw [HN.out] at hj; omega))
      have HBE := hide hbel
      clear hbel
      go_wp2
      go_ret
      exact ⟨ret_bool (HS.out.trans HE.out).symm, HB0.out.trans (HBE.out.mono HB0.out.size)⟩
end
end Go.Proofs.YtcbdokocnjoilaaGreatDoor
