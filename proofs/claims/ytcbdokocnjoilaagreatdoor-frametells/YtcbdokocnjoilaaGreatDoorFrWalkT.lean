/-
  The walk of the law FrameTells.
-/
import Derived.Test.YtcbdokocnjoilaaGreatDoorFrWalkB
import Derived.Test.YtcbdokocnjoilaaGreatDoorFrRefB
import Derived.Test.YtcbdokocnjoilaaGreatDoorH13
namespace Go.Proofs.YtcbdokocnjoilaaGreatDoor
set_option maxRecDepth 100000
open Go.ChangeShapes Go.WideShapes Go.ChangeAt Go.RowKit
set_option linter.unusedVariables false

theorem checkFm_len {f : Fm} (h : checkFm f = 0) : (bytesFm f).length ≤ 65536 := (checkFm_zero h).2.2
set_option maxHeartbeats 8000000 in
theorem frameTells_walk (a : Fm) (Aa : Option Addr) (ca : Nat) (b : Fm) (Ab : Option Addr) (cb : Nat) (w : World) (ha : FmIn w a Aa ca) (hb : FmIn w b Ab cb) (hS : Spans w) :
    Calls Tryz.prog 3 #[.agg #[.int .u64 a.num, .int .u64 a.base, .int .u64 a.echo, .int .u64 a.stamp, .int .i64 a.d.rows, .int .i64 a.d.cols, .int .i64 a.d.row, .int .i64 a.d.col, .slice Aa a.d.ss.length ca], .agg #[.int .u64 b.num, .int .u64 b.base, .int .u64 b.echo, .int .u64 b.stamp, .int .i64 b.d.rows, .int .i64 b.d.cols, .int .i64 b.d.row, .int .i64 b.d.col, .slice Ab b.d.ss.length cb]] w fun e w' => e = .returned (.bool true) ∧ Below w.heap.size w w' := by
  obtain ⟨W0, hW0⟩ : ∃ W0, (w.alloc (.cells #[.int .u64 a.num, .int .u64 a.base, .int .u64 a.echo, .int .u64 a.stamp, .int .i64 a.d.rows, .int .i64 a.d.cols, .int .i64 a.d.row, .int .i64 a.d.col, .slice Aa a.d.ss.length ca] 27)).alloc (.cells #[.int .u64 b.num, .int .u64 b.base, .int .u64 b.echo, .int .u64 b.stamp, .int .i64 b.d.rows, .int .i64 b.d.cols, .int .i64 b.d.row, .int .i64 b.d.col, .slice Ab b.d.ss.length cb] 27) = W0 := ⟨_, rfl⟩
  have HB0 : Hid (Below w.heap.size w W0) := by unfold Hid; rw [← hW0]; exact below2 w _ _
  have HX1 : Hid (Whole W0 w.heap.size 27 [.int .u64 a.num, .int .u64 a.base, .int .u64 a.echo, .int .u64 a.stamp, .int .i64 a.d.rows, .int .i64 a.d.cols, .int .i64 a.d.row, .int .i64 a.d.col, .slice Aa a.d.ss.length ca]) := by unfold Hid; rw [← hW0]; exact (Whole.new w 27 [.int .u64 a.num, .int .u64 a.base, .int .u64 a.echo, .int .u64 a.stamp, .int .i64 a.d.rows, .int .i64 a.d.cols, .int .i64 a.d.row, .int .i64 a.d.col, .slice Aa a.d.ss.length ca]).alloc _
  have HY1 : Hid (Whole W0 (w.heap.size + 1) 27 [.int .u64 b.num, .int .u64 b.base, .int .u64 b.echo, .int .u64 b.stamp, .int .i64 b.d.rows, .int .i64 b.d.cols, .int .i64 b.d.row, .int .i64 b.d.col, .slice Ab b.d.ss.length cb]) := by unfold Hid; rw [← hW0]; exact whole_snd w _ 27 [.int .u64 b.num, .int .u64 b.base, .int .u64 b.echo, .int .u64 b.stamp, .int .i64 b.d.rows, .int .i64 b.d.cols, .int .i64 b.d.row, .int .i64 b.d.col, .slice Ab b.d.ss.length cb]
  have HS := hide hS
  have HW0 := hide hW0
  have hokf := cutFm_ok ha.ok
  have hlaf : ∀ s ∈ (cutFm a).d.ss, LB s.cs := cut_LB a.d ha.df.lb
  have hcaf : ∀ s ∈ (cutFm a).d.ss, s.cs.length ≤ 30 := cut_cells a.d
  have hnaf : (cutFm a).d.ss.length ≤ 10 := cutTo_len a.d.ss 10
  have hszf : (bytesSs (cutFm a).d.ss).length ≤ 30000 := cut_small a.d
  obtain ⟨f, hff⟩ : ∃ f, cutFm a = f := ⟨_, rfl⟩
  rw [hff] at hokf hlaf hcaf hnaf hszf
  obtain ⟨n, hnf⟩ : ∃ n, f.d.ss.length = n := ⟨_, rfl⟩
  rw [hnf] at hnaf
  have HOKf := hide hokf
  have HLBf := hide hlaf
  have HBDf : Hid (∀ s ∈ f.d.ss, s.cs.length ≤ 1000000) := fun s hs => Nat.le_trans (hcaf s hs) (by omega)
  have HSZf : Hid ((bytesSs f.d.ss).length ≤ 300000) := Nat.le_trans hszf (by omega)
  have HNf := hide hnf
  have HMf : Hid (n ≤ 1000000) := Nat.le_trans hnaf (by decide)
  have HSPf := hide ha.df.ok.sps
  have HFCf := hide hff
  clear hokf hlaf hcaf hnaf hszf hff hnf
  have hokg := cutFm_ok hb.ok
  have hlag : ∀ s ∈ (cutFm b).d.ss, LB s.cs := cut_LB b.d hb.df.lb
  have hcag : ∀ s ∈ (cutFm b).d.ss, s.cs.length ≤ 30 := cut_cells b.d
  have hnag : (cutFm b).d.ss.length ≤ 10 := cutTo_len b.d.ss 10
  have hszg : (bytesSs (cutFm b).d.ss).length ≤ 30000 := cut_small b.d
  obtain ⟨g, hfg⟩ : ∃ f, cutFm b = f := ⟨_, rfl⟩
  rw [hfg] at hokg hlag hcag hnag hszg
  obtain ⟨m, hng⟩ : ∃ n, g.d.ss.length = n := ⟨_, rfl⟩
  rw [hng] at hnag
  have HOKg := hide hokg
  have HLBg := hide hlag
  have HBDg : Hid (∀ s ∈ g.d.ss, s.cs.length ≤ 1000000) := fun s hs => Nat.le_trans (hcag s hs) (by omega)
  have HSZg : Hid ((bytesSs g.d.ss).length ≤ 300000) := Nat.le_trans hszg (by omega)
  have HNg := hide hng
  have HMg : Hid (m ≤ 1000000) := Nat.le_trans hnag (by decide)
  have HSPg := hide hb.df.ok.sps
  have HFCg := hide hfg
  clear hokg hlag hcag hnag hszg hfg hng
  clear hS hW0 ha hb
  go_enter Tryz.func3, Tryz.ntmps3
  go_upto_region 1 with fail
  rw [HW0.out]
  refine rgL (fun w' => Whole w' w.heap.size 27 [.int .u64 a.num, .int .u64 a.base, .int .u64 a.echo, .int .u64 a.stamp, .int .i64 a.d.rows, .int .i64 a.d.cols, .int .i64 a.d.row, .int .i64 a.d.col, .slice Aa a.d.ss.length ca] ∧ Whole w' (w.heap.size + 1) 27 [.int .u64 b.num, .int .u64 b.base, .int .u64 b.echo, .int .u64 b.stamp, .int .i64 b.d.rows, .int .i64 b.d.cols, .int .i64 b.d.row, .int .i64 b.d.col, .slice Ab b.d.ss.length cb]) 4 [(0, 0), (0, 2), (1, 1), (1, 3), (3, 4), (3, 5)] (⟨HX1.out.later ((Below.refl _ _).drewN 1), HY1.out.later ((Below.refl _ _).drewN 1)⟩) ?_
  have BD : Hid (Below W0.heap.size W0 W0.drew) := (Below.refl _ _).drewN 1
  generalize W0.drew = k0 at *
  refine stL (hy := fun w hS => by obtain ⟨f0, f1, f2, f3, f4, f5, f6, f7, f8, -⟩ := cells9 hS.1; go_simp <;> with_reducible rfl) (h := ?_)
  refine stL (hy := fun w hS => by obtain ⟨f0, f1, f2, f3, f4, f5, f6, f7, f8, -⟩ := cells9 hS.2; go_simp <;> with_reducible rfl) (h := ?_)
  refine alL fun K hK => ?_
  go_wp2_with fail
  refine (frcut_any w.heap.size 68 105 a Aa a.d.ss.length ca k0 (HSPf.out.below (HB0.out.trans (BD.out.mono HB0.out.size)) (Nat.le_refl _)) (Nat.le_trans HB0.out.size BD.out.size) rfl).mono ?_
  rintro e k1 ⟨A1, c1, rfl, hd, hb⟩
  rw [HFCf.out] at hd
  rw [HFCf.out]
  rw [HNf.out]
  have B1 := hide (BD.out.trans (hb.mono BD.out.size))
  have HDF := hide hd
  clear hd hb
  go_wp2
  refine hK.out _ _ (⟨HX1.out.later B1.out, HY1.out.later B1.out⟩) ?_
  clear hK K
  refine alL fun K hK => ?_
  go_wp2_with fail
  refine (frcut_any w.heap.size 68 105 b Ab b.d.ss.length cb k1 (HSPg.out.below (HB0.out.trans (B1.out.mono HB0.out.size)) (Nat.le_refl _)) (Nat.le_trans HB0.out.size B1.out.size) rfl).mono ?_
  rintro e k2 ⟨A2, c2, rfl, hd, hb⟩
  rw [HFCg.out] at hd
  rw [HFCg.out]
  rw [HNg.out]
  have B2 := hide (B1.out.trans (hb.mono B1.out.size))
  replace HDF := hide (HDF.out.below hb)
  have HDG := hide hd
  clear hd hb
  go_wp2
  refine hK.out _ _ (⟨HX1.out.later B2.out, HY1.out.later B2.out⟩) ?_
  clear hK K
  have HX2 := hide (HX1.out.later B2.out)
  have HY2 := hide (HY1.out.later B2.out)
  obtain ⟨f0, f1, f2, f3, f4, f5, f6, f7, f8, lf⟩ := cells9 HX2.out
  have fz := HX2.out.frozen
  have HX := hide (put9 HX2.out (.int .u64 f.num) (.int .u64 f.base) (.int .u64 f.echo) (.int .u64 f.stamp) (.int .i64 f.d.rows) (.int .i64 f.d.cols) (.int .i64 f.d.row) (.int .i64 f.d.col) (.slice A1 n c1))
  have HY3 := hide (HY2.out.same (heap_put9 k2 w.heap.size (.int .u64 f.num) (.int .u64 f.base) (.int .u64 f.echo) (.int .u64 f.stamp) (.int .i64 f.d.rows) (.int .i64 f.d.cols) (.int .i64 f.d.row) (.int .i64 f.d.col) (.slice A1 n c1) (w.heap.size + 1) (by omega)))
  replace HDF := hide (dfok_put9 HDF.out HX2.out (by decide) (by decide) (.int .u64 f.num) (.int .u64 f.base) (.int .u64 f.echo) (.int .u64 f.stamp) (.int .i64 f.d.rows) (.int .i64 f.d.cols) (.int .i64 f.d.row) (.int .i64 f.d.col) (.slice A1 n c1))
  replace HDG := hide (dfok_put9 HDG.out HX2.out (by decide) (by decide) (.int .u64 f.num) (.int .u64 f.base) (.int .u64 f.echo) (.int .u64 f.stamp) (.int .i64 f.d.rows) (.int .i64 f.d.cols) (.int .i64 f.d.row) (.int .i64 f.d.col) (.slice A1 n c1))
  have HB3 := hide (below_put9 (HB0.out.trans (B2.out.mono HB0.out.size)) (Nat.le_refl _) (.int .u64 f.num) (.int .u64 f.base) (.int .u64 f.echo) (.int .u64 f.stamp) (.int .i64 f.d.rows) (.int .i64 f.d.cols) (.int .i64 f.d.row) (.int .i64 f.d.col) (.slice A1 n c1))
  obtain ⟨W3, hW3⟩ : ∃ W3, set9 k2 w.heap.size (.int .u64 f.num) (.int .u64 f.base) (.int .u64 f.echo) (.int .u64 f.stamp) (.int .i64 f.d.rows) (.int .i64 f.d.cols) (.int .i64 f.d.row) (.int .i64 f.d.col) (.slice A1 n c1) = W3 := ⟨_, rfl⟩
  rw [hW3] at HX HY3 HDF HDG HB3
  unfold set9 at hW3
  have HW3 := hide hW3
  clear hW3
  refine laL fun K hK => ?_
  go_wp2
  rw [HW3.out]
  refine hK.out _ _ ?_
  clear hK K
  clear f0 f1 f2 f3 f4 f5 f6 f7 f8 lf
  clear fz HX2 HY2 HW3
  obtain ⟨g0, g1, g2, g3, g4, g5, g6, g7, g8, lg⟩ := cells9 HY3.out
  have gz := HY3.out.frozen
  have HY := hide (put9 HY3.out (.int .u64 g.num) (.int .u64 g.base) (.int .u64 g.echo) (.int .u64 g.stamp) (.int .i64 g.d.rows) (.int .i64 g.d.cols) (.int .i64 g.d.row) (.int .i64 g.d.col) (.slice A2 m c2))
  replace HX := hide (HX.out.same (heap_put9 W3 (w.heap.size + 1) (.int .u64 g.num) (.int .u64 g.base) (.int .u64 g.echo) (.int .u64 g.stamp) (.int .i64 g.d.rows) (.int .i64 g.d.cols) (.int .i64 g.d.row) (.int .i64 g.d.col) (.slice A2 m c2) w.heap.size (by omega)))
  replace HDF := hide (dfok_put9 HDF.out HY3.out (by decide) (by decide) (.int .u64 g.num) (.int .u64 g.base) (.int .u64 g.echo) (.int .u64 g.stamp) (.int .i64 g.d.rows) (.int .i64 g.d.cols) (.int .i64 g.d.row) (.int .i64 g.d.col) (.slice A2 m c2))
  replace HDG := hide (dfok_put9 HDG.out HY3.out (by decide) (by decide) (.int .u64 g.num) (.int .u64 g.base) (.int .u64 g.echo) (.int .u64 g.stamp) (.int .i64 g.d.rows) (.int .i64 g.d.cols) (.int .i64 g.d.row) (.int .i64 g.d.col) (.slice A2 m c2))
  have HB := hide (below_put9 HB3.out (Nat.le_succ _) (.int .u64 g.num) (.int .u64 g.base) (.int .u64 g.echo) (.int .u64 g.stamp) (.int .i64 g.d.rows) (.int .i64 g.d.cols) (.int .i64 g.d.row) (.int .i64 g.d.col) (.slice A2 m c2))
  obtain ⟨W, hW⟩ : ∃ W, set9 W3 (w.heap.size + 1) (.int .u64 g.num) (.int .u64 g.base) (.int .u64 g.echo) (.int .u64 g.stamp) (.int .i64 g.d.rows) (.int .i64 g.d.cols) (.int .i64 g.d.row) (.int .i64 g.d.col) (.slice A2 m c2) = W := ⟨_, rfl⟩
  rw [hW] at HX HY HDF HDG HB
  unfold set9 at hW
  have HW := hide hW
  clear hW
  refine laL fun K hK => ?_
  go_wp2
  rw [HW.out]
  refine hK.out _ _ ?_
  clear hK K
  clear g0 g1 g2 g3 g4 g5 g6 g7 g8 lg
  clear gz HY3 HB3 HW B1 B2 BD HX1 HY1 HB0 HSPf HSPg HFCf HFCg
  refine chainL_nil ?_
  clear HW0
  obtain ⟨Y, hY⟩ : ∃ Y, checkFm f = Y := ⟨_, rfl⟩
  have HYV := hide hY
  clear hY
  obtain ⟨bo, hbo⟩ : ∃ bo, decide (f = g) = bo := ⟨_, rfl⟩
  have HBO := hide hbo
  clear hbo
  have eb : (bo != bo) = false := by simp
  have y0 : (Y != Y) = false := by simp
  obtain ⟨f0, f1, f2, f3, f4, f5, f6, f7, f8, lf⟩ := cells9 HX.out
  go_wp2_with fail
  refine (frof_any 0 68 105 f A1 n c1 _ HDF.out.sps (Nat.zero_le _) HNf.out HMf.out HBDf.out HLBf.out).mono ?_
  rintro e w1 ⟨A4, c4, rfl, hd, hb⟩
  rw [HNf.out]
  have HE := hide hd
  clear hd
  clear f0 f1 f2 f3 f4 f5 f6 f7 f8 lf
  replace HB := hide (HB.out.trans (hb.mono HB.out.size))
  replace HX := hide (HX.out.later hb)
  replace HY := hide (HY.out.later hb)
  replace HDF := hide (HDF.out.below hb)
  replace HDG := hide (HDG.out.below hb)
  clear hb
  go_wp2_with fail
  refine (rfrcheck_any 0 73 100 f A4 n c4 _ HOKf.out HE.out.sps (Nat.zero_le _) HNf.out HMf.out (by decide) HLBf.out HBDf.out HSZf.out).mono ?_
  rintro e w2 ⟨rfl, hb⟩
  rw [HYV.out]
  replace HB := hide (HB.out.trans (hb.mono HB.out.size))
  replace HX := hide (HX.out.later hb)
  replace HY := hide (HY.out.later hb)
  replace HDF := hide (HDF.out.below hb)
  replace HDG := hide (HDG.out.below hb)
  replace HE := hide (HE.out.below hb)
  clear hb
  obtain ⟨f0, f1, f2, f3, f4, f5, f6, f7, f8, lf⟩ := cells9 HX.out
  go_wp2_with fail
  refine (frbytes_any 0 68 105 f A1 n c1 _ HOKf.out HDF.out.sps (Nat.zero_le _) HNf.out HMf.out HLBf.out HSZf.out (HS.out.below HB.out)).mono ?_
  rintro e w3 ⟨v, he, ho⟩
  rw [HYV.out] at he ho
  subst he
  clear f0 f1 f2 f3 f4 f5 f6 f7 f8 lf
  obtain ⟨A3, c3, rfl, hi, hcap, hz3, -⟩ := ho.form2
  have hb := ho.bel
  clear ho
  obtain ⟨X, hX⟩ : ∃ X, (if Y = 0 then bytesFm f else []) = X := ⟨_, rfl⟩
  rw [hX] at hi hcap ⊢
  obtain ⟨L, hL⟩ : ∃ L, X.length = L := ⟨_, rfl⟩
  rw [hL] at hcap ⊢
  have HI := hide hi
  have HXX := hide hX
  have HL := hide hL
  have HZ3 := hide hz3
  have HCAP := hide hcap
  clear hi hX hL hz3 hcap
  replace HB := hide (HB.out.trans (hb.mono HB.out.size))
  replace HX := hide (HX.out.later hb)
  replace HY := hide (HY.out.later hb)
  replace HDF := hide (HDF.out.below hb)
  replace HDG := hide (HDG.out.below hb)
  replace HE := hide (HE.out.below hb)
  clear hb
  go_upto_region 4 with fail
  refine rgH (fun w' => Whole w' w.heap.size 27 [.int .u64 f.num, .int .u64 f.base, .int .u64 f.echo, .int .u64 f.stamp, .int .i64 f.d.rows, .int .i64 f.d.cols, .int .i64 f.d.row, .int .i64 f.d.col, .slice A1 n c1] ∧ Whole w' (w.heap.size + 1) 27 [.int .u64 g.num, .int .u64 g.base, .int .u64 g.echo, .int .u64 g.stamp, .int .i64 g.d.rows, .int .i64 g.d.cols, .int .i64 g.d.row, .int .i64 g.d.col, .slice A2 m c2]) [(true, 2), (false, 0), (false, 1), (false, 3), (false, 4), (true, 5), (false, 6), (false, 7), (false, 8), (false, 9), (true, 10), (true, 11), (true, 13), (true, 15), (false, 12), (false, 14), (false, 16), (false, 17), (false, 18), (false, 19), (false, 20), (true, 21), (false, 22), (false, 23), (false, 24), (false, 25)] (⟨HX.out.later ((Below.refl _ _).drewN 1), HY.out.later ((Below.refl _ _).drewN 1)⟩) ?_
  have B0 : Hid (Below w3.heap.size w3 w3.drew) := (Below.refl _ _).drewN 1
  generalize w3.drew = k0 at *
  refine stH (h := ?_)
  obtain ⟨f0, f1, f2, f3, f4, f5, f6, f7, f8, lf⟩ := cells9 (HX.out.later B0.out)
  refine alH fun K hK => ?_
  go_wp2
  refine hK.out _ _ (⟨HX.out.later B0.out, HY.out.later B0.out⟩) ?_
  clear hK K
  clear f0 f1 f2 f3 f4 f5 f6 f7 f8 lf
  refine alH fun K hK => ?_
  go_wp2_with fail
  refine (frcheck_any 0 68 105 f A1 n c1 k0 HOKf.out (HDF.out.below B0.out).sps (Nat.zero_le _) HNf.out HMf.out HLBf.out HSZf.out (HS.out.below (HB.out.trans (B0.out.mono HB.out.size)))).mono ?_
  rintro e k1 ⟨rfl, hb⟩
  rw [HYV.out]
  have B1 := hide (B0.out.trans (hb.mono B0.out.size))
  clear hb
  go_wp2
  refine hK.out _ _ (⟨HX.out.later B1.out, HY.out.later B1.out⟩) ?_
  clear hK K
  refine alH fun K hK => ?_
  go_wp2
  refine hK.out _ _ (⟨HX.out.later B1.out, HY.out.later B1.out⟩) ?_
  clear hK K
  refine alH fun K hK => ?_
  go_wp2
  refine hK.out _ _ (⟨HX.out.later B1.out, HY.out.later B1.out⟩) ?_
  clear hK K
  refine stH (h := ?_)
  refine alH fun K hK => ?_
  go_wp2
  refine hK.out _ _ (⟨HX.out.later B1.out, HY.out.later B1.out⟩) ?_
  clear hK K
  refine alH fun K hK => ?_
  go_wp2
  refine hK.out _ _ (⟨HX.out.later B1.out, HY.out.later B1.out⟩) ?_
  clear hK K
  refine alH fun K hK => ?_
  go_wp2
  refine hK.out _ _ (⟨HX.out.later B1.out, HY.out.later B1.out⟩) ?_
  clear hK K
  refine alH fun K hK => ?_
  go_wp2
  refine hK.out _ _ (⟨HX.out.later B1.out, HY.out.later B1.out⟩) ?_
  clear hK K
  refine stH (hy := fun w hS => by obtain ⟨f0, f1, f2, f3, f4, f5, f6, f7, f8, -⟩ := cells9 hS.1; go_simp <;> with_reducible rfl) (h := ?_)
  refine stH (hy := fun w hS => by obtain ⟨f0, f1, f2, f3, f4, f5, f6, f7, f8, -⟩ := cells9 hS.2; go_simp <;> with_reducible rfl) (h := ?_)
  refine stH (hy := fun w hS => by obtain ⟨f0, f1, f2, f3, f4, f5, f6, f7, f8, -⟩ := cells9 hS.1; go_simp <;> with_reducible rfl) (h := ?_)
  refine stH (hy := fun w hS => by obtain ⟨f0, f1, f2, f3, f4, f5, f6, f7, f8, -⟩ := cells9 hS.2; go_simp <;> with_reducible rfl) (h := ?_)
  refine alH fun K hK => ?_
  go_wp2_with fail
  refine (frsame_any 0 0 68 105 68 105 f g A1 A2 n m c1 c2 k1 (HDF.out.below B1.out).sps (HDG.out.below B1.out).sps (Nat.zero_le _) (Nat.zero_le _) HNf.out HNg.out HMf.out HBDf.out).mono ?_
  rintro e k2 ⟨rfl, hb⟩
  rw [HBO.out]
  have B2 := hide (B1.out.trans (hb.mono B1.out.size))
  clear hb
  go_wp2
  refine hK.out _ _ (⟨HX.out.later B2.out, HY.out.later B2.out⟩) ?_
  clear hK K
  refine alH fun K hK => ?_
  go_wp2_with fail
  refine (frof_any 0 68 105 f A1 n c1 k2 (HDF.out.below B2.out).sps (Nat.zero_le _) HNf.out HMf.out HBDf.out HLBf.out).mono ?_
  rintro e k3 ⟨A8, c8, rfl, hd, hb⟩
  rw [HNf.out]
  have B3 := hide (B2.out.trans (hb.mono B2.out.size))
  have HD8 := hide hd
  clear hd hb
  go_wp2
  refine hK.out _ _ (⟨HX.out.later B3.out, HY.out.later B3.out⟩) ?_
  clear hK K
  refine alH fun K hK => ?_
  go_wp2_with fail
  refine (frof_any 0 68 105 g A2 m c2 k3 (HDG.out.below B3.out).sps (Nat.zero_le _) HNg.out HMg.out HBDg.out HLBg.out).mono ?_
  rintro e k4 ⟨A9, c9, rfl, hd, hb⟩
  rw [HNg.out]
  have B4 := hide (B3.out.trans (hb.mono B3.out.size))
  replace HD8 := hide (HD8.out.below hb)
  have HD9 := hide hd
  clear hd hb
  go_wp2
  refine hK.out _ _ (⟨HX.out.later B4.out, HY.out.later B4.out⟩) ?_
  clear hK K
  refine alH fun K hK => ?_
  go_wp2_with fail
  refine (rfrsame_any 0 0 73 100 73 100 f g A8 A9 n m c8 c9 k4 HD8.out.sps HD9.out.sps (Nat.zero_le _) (Nat.zero_le _) HNf.out HNg.out HMf.out HBDf.out).mono ?_
  rintro e k5 ⟨rfl, hb⟩
  rw [HBO.out]
  have B5 := hide (B4.out.trans (hb.mono B4.out.size))
  clear hb
  go_wp2
  refine hK.out _ _ (⟨HX.out.later B5.out, HY.out.later B5.out⟩) ?_
  clear hK K
  refine alH fun K hK => ?_
  go_wp2
  refine hK.out _ _ (⟨HX.out.later B5.out, HY.out.later B5.out⟩) ?_
  clear hK K
  refine alH fun K hK => ?_
  go_wp2
  refine hK.out _ _ (⟨HX.out.later B5.out, HY.out.later B5.out⟩) ?_
  clear hK K
  refine alH fun K hK => ?_
  go_wp2
  refine hK.out _ _ (⟨HX.out.later B5.out, HY.out.later B5.out⟩) ?_
  clear hK K
  refine stH (hy := fun w hS => by obtain ⟨f0, f1, f2, f3, f4, f5, f6, f7, f8, -⟩ := cells9 hS.1; go_simp <;> with_reducible rfl) (h := ?_)
  obtain ⟨f0, f1, f2, f3, f4, f5, f6, f7, f8, lf⟩ := cells9 (HX.out.later B5.out)
  refine alH fun K hK => ?_
  go_wp2
  refine hK.out _ _ (⟨HX.out.later B5.out, HY.out.later B5.out⟩) ?_
  clear hK K
  clear f0 f1 f2 f3 f4 f5 f6 f7 f8 lf
  refine alH fun K hK => ?_
  go_wp2_with fail
  refine (frsame_any 0 0 68 105 68 105 f f A1 A1 n n c1 c1 k5 (HDF.out.below B5.out).sps (HDF.out.below B5.out).sps (Nat.zero_le _) (Nat.zero_le _) HNf.out HNf.out HMf.out HBDf.out).mono ?_
  rintro e k6 ⟨rfl, hb⟩
  rw [fm_self]
  have B6 := hide (B5.out.trans (hb.mono B5.out.size))
  clear hb
  go_wp2
  refine hK.out _ _ (⟨HX.out.later B6.out, HY.out.later B6.out⟩) ?_
  clear hK K
  refine alH fun K hK => ?_
  go_wp2
  refine hK.out _ _ (⟨HX.out.later B6.out, HY.out.later B6.out⟩) ?_
  clear hK K
  refine alH fun K hK => ?_
  go_wp2
  refine hK.out _ _ (⟨HX.out.later B6.out, HY.out.later B6.out⟩) ?_
  clear hK K
  refine chainH_nil ?_
  replace HX := hide (HX.out.later B6.out)
  replace HY := hide (HY.out.later B6.out)
  replace HDF := hide (HDF.out.below B6.out)
  replace HI := hide (HI.out.below B6.out)
  replace HB := hide (HB.out.trans (B6.out.mono HB.out.size))
  clear HD8 HD9 B0 B1 B2 B3 B4 B5 B6 HE HDG
  by_cases hy : Y = 0
  · have y1 : (Y != 0) = false := by simpa using hy
    have hc := HYV.out.trans hy
    have HXB : Hid (bytesFm f = X) := by unfold Hid; rw [← HXX.out, if_pos hy]
    have HBY : Hid (Byte X) := by unfold Hid; rw [← HXB.out]; exact bytesFm_byte HOKf.out (checkFm_zero hc).2.1
    have HPE : Hid (parseFm X = (f, 0)) := by unfold Hid; rw [← HXB.out]; exact parseFm_enc HOKf.out hc
    have HIS : Hid (decide (X.head? = some 70) = true) := by unfold Hid; rw [← HXB.out]; rfl
    have hll : L ≤ 1000000 := by rw [← HL.out, ← HXB.out]; exact Nat.le_trans (checkFm_len hc) (by omega)
    have HC := hide (checkFm_zero hc).2.1
    clear hc hy
    go_wp2_with fail
    refine (frparse_any A3 L c3 X _ HI.out HL.out HZ3.out HCAP.out hll HBY.out (HS.out.below HB.out)).mono ?_
    rintro e w4 hp
    rw [HPE.out] at hp
    obtain ⟨A5, c5, rfl, hd, hb⟩ := hp
    simp only at hd
    simp only
    rw [HNf.out]
    have HF := hide hd
    clear hd
    replace HB := hide (HB.out.trans (hb.mono HB.out.size))
    replace HX := hide (HX.out.later hb)
    replace HY := hide (HY.out.later hb)
    replace HDF := hide (HDF.out.below hb)
    replace HI := hide (HI.out.below hb)
    clear hb
    obtain ⟨W5, hW5⟩ : ∃ W5, w4.alloc (.cells #[.int .u64 f.num, .int .u64 f.base, .int .u64 f.echo, .int .u64 f.stamp, .int .i64 f.d.rows, .int .i64 f.d.cols, .int .i64 f.d.row, .int .i64 f.d.col, .slice A5 n c5] 27) = W5 := ⟨_, rfl⟩
    have hb : Below w4.heap.size w4 W5 := by rw [← hW5]; exact new1W _ _
    have HQ : Hid (Whole W5 w4.heap.size 27 [.int .u64 f.num, .int .u64 f.base, .int .u64 f.echo, .int .u64 f.stamp, .int .i64 f.d.rows, .int .i64 f.d.cols, .int .i64 f.d.row, .int .i64 f.d.col, .slice A5 n c5]) := by unfold Hid; rw [← hW5]; exact Whole.new w4 27 [.int .u64 f.num, .int .u64 f.base, .int .u64 f.echo, .int .u64 f.stamp, .int .i64 f.d.rows, .int .i64 f.d.cols, .int .i64 f.d.row, .int .i64 f.d.col, .slice A5 n c5]
    have HW5 := hide hW5
    clear hW5
    replace HB := hide (HB.out.trans (hb.mono HB.out.size))
    replace HX := hide (HX.out.later hb)
    replace HY := hide (HY.out.later hb)
    replace HDF := hide (HDF.out.below hb)
    replace HI := hide (HI.out.below hb)
    replace HF := hide (HF.out.below hb)
    clear hb
    go_wp2_with fail
    rw [HW5.out]
    refine (frknown_any W5 (HS.out.below HB.out)).mono ?_
    rintro e w6 ⟨rfl, hb⟩
    replace HB := hide (HB.out.trans (hb.mono HB.out.size))
    replace HX := hide (HX.out.later hb)
    replace HY := hide (HY.out.later hb)
    replace HDF := hide (HDF.out.below hb)
    replace HI := hide (HI.out.below hb)
    replace HF := hide (HF.out.below hb)
    replace HQ := hide (HQ.out.later hb)
    clear hb
    obtain ⟨f0, f1, f2, f3, f4, f5, f6, f7, f8, lf⟩ := cells9 HX.out
    go_wp2_with fail
    refine (frof_any 0 68 105 f A1 n c1 _ HDF.out.sps (Nat.zero_le _) HNf.out HMf.out HBDf.out HLBf.out).mono ?_
    rintro e w7 ⟨A7, c7, rfl, hd7, hb⟩
    rw [HNf.out]
    have HE2 := hide hd7
    clear hd7
    clear f0 f1 f2 f3 f4 f5 f6 f7 f8 lf
    replace HB := hide (HB.out.trans (hb.mono HB.out.size))
    replace HX := hide (HX.out.later hb)
    replace HY := hide (HY.out.later hb)
    replace HDF := hide (HDF.out.below hb)
    replace HI := hide (HI.out.below hb)
    replace HF := hide (HF.out.below hb)
    replace HQ := hide (HQ.out.later hb)
    clear hb
    go_wp2_with fail
    refine (rfrbytes_any 0 73 100 f A7 n c7 _ HOKf.out HE2.out.sps (Nat.zero_le _) HNf.out (by decide) HC.out HSZf.out).mono ?_
    rintro e w8 ⟨v8, rfl, ho⟩
    rw [HXB.out] at ho
    obtain ⟨A8, c8, rfl, hi, -⟩ := ho.form2
    have hb := ho.bel
    rw [HL.out]
    have HJ := hide hi
    clear ho hi
    replace HB := hide (HB.out.trans (hb.mono HB.out.size))
    replace HX := hide (HX.out.later hb)
    replace HY := hide (HY.out.later hb)
    replace HDF := hide (HDF.out.below hb)
    replace HI := hide (HI.out.below hb)
    replace HF := hide (HF.out.below hb)
    replace HQ := hide (HQ.out.later hb)
    replace HE2 := hide (HE2.out.below hb)
    clear hb
    go_wp2_with fail
    refine (nu_same_yes A3 A8 L c3 c8 X _ HI.out HJ.out HL.out HBY.out).mono ?_
    rintro e w9 ⟨rfl, rfl⟩
    have hb := Below.refl w8.heap.size w8
    replace HB := hide (HB.out.trans (hb.mono HB.out.size))
    replace HX := hide (HX.out.later hb)
    replace HY := hide (HY.out.later hb)
    replace HDF := hide (HDF.out.below hb)
    replace HI := hide (HI.out.below hb)
    replace HF := hide (HF.out.below hb)
    replace HQ := hide (HQ.out.later hb)
    replace HE2 := hide (HE2.out.below hb)
    replace HJ := hide (HJ.out.below hb)
    clear hb
    obtain ⟨f0, f1, f2, f3, f4, f5, f6, f7, f8, lf⟩ := cells9 HX.out
    obtain ⟨g0, g1, g2, g3, g4, g5, g6, g7, g8, lg⟩ := cells9 HQ.out
    go_wp2_with fail
    refine (frsame_any 0 0 68 105 68 105 f f A5 A1 n n c5 c1 _ HF.out.sps HDF.out.sps (Nat.zero_le _) (Nat.zero_le _) HNf.out HNf.out HMf.out HBDf.out).mono ?_
    rintro e w10 ⟨rfl, hb⟩
    rw [fm_self]
    clear f0 f1 f2 f3 f4 f5 f6 f7 f8 lf
    clear g0 g1 g2 g3 g4 g5 g6 g7 g8 lg
    replace HB := hide (HB.out.trans (hb.mono HB.out.size))
    replace HX := hide (HX.out.later hb)
    replace HY := hide (HY.out.later hb)
    replace HDF := hide (HDF.out.below hb)
    replace HI := hide (HI.out.below hb)
    replace HF := hide (HF.out.below hb)
    replace HQ := hide (HQ.out.later hb)
    replace HE2 := hide (HE2.out.below hb)
    replace HJ := hide (HJ.out.below hb)
    clear hb
    go_wp2_with fail
    refine (fris_any A3 L c3 X _ HI.out HL.out).mono ?_
    rintro e w11 ⟨rfl, rfl⟩
    rw [HIS.out]
    have hb := Below.refl w10.heap.size w10
    replace HB := hide (HB.out.trans (hb.mono HB.out.size))
    replace HX := hide (HX.out.later hb)
    replace HY := hide (HY.out.later hb)
    replace HDF := hide (HDF.out.below hb)
    replace HI := hide (HI.out.below hb)
    replace HF := hide (HF.out.below hb)
    replace HQ := hide (HQ.out.later hb)
    replace HE2 := hide (HE2.out.below hb)
    replace HJ := hide (HJ.out.below hb)
    clear hb
    go_wp2
    go_ret
    exact ⟨rfl, HB.out⟩
  · have y1 : (Y != 0) = true := by simpa using hy
    have hl0 : L = 0 := by rw [← HL.out, ← HXX.out, if_neg hy]; rfl
    subst hl0
    clear hy
    go_wp2_with fail
    refine (frknown_any _ (HS.out.below HB.out)).mono ?_
    rintro e w6 ⟨rfl, hb⟩
    replace HB := hide (HB.out.trans (hb.mono HB.out.size))
    clear hb
    go_wp2
    go_ret
    exact ⟨rfl, HB.out⟩
end Go.Proofs.YtcbdokocnjoilaaGreatDoor
