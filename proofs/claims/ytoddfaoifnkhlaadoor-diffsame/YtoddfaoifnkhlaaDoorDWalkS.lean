/-
  The walk of the law DiffSame.
-/
import Derived.Test.YtoddfaoifnkhlaaDoorDWalkB
import Derived.Test.YtoddfaoifnkhlaaDoorDKnown
import Derived.Test.YtoddfaoifnkhlaaDoorDCut
import Derived.Test.YtoddfaoifnkhlaaDoorDRef2
import Derived.Test.YtoddfaoifnkhlaaDoorDSame
import Derived.Test.YtoddfaoifnkhlaaDoorDOpen
namespace Go.Proofs.YtoddfaoifnkhlaaDoor
set_option maxRecDepth 100000
open Go.ChangeShapes Go.WideShapes Go.ChangeAt Go.RowKit
set_option linter.unusedVariables false

set_option maxHeartbeats 4000000 in
theorem diffSame_walk (a : Df) (Aa : Option Addr) (ca : Nat) (b : Df) (Ab : Option Addr) (cb : Nat) (w : World) (ha : DfIn w a Aa ca) (hb : DfIn w b Ab cb) (hS : Spans w) :
    Calls Tryd.prog 3 #[.agg #[.int .i64 a.rows, .int .i64 a.cols, .int .i64 a.row, .int .i64 a.col, .slice Aa a.ss.length ca], .agg #[.int .i64 b.rows, .int .i64 b.cols, .int .i64 b.row, .int .i64 b.col, .slice Ab b.ss.length cb]] w fun e w' => e = .returned (.bool true) ∧ Below w.heap.size w w' := by
  obtain ⟨W0, hW0⟩ : ∃ W0, (w.alloc (.cells #[.int .i64 a.rows, .int .i64 a.cols, .int .i64 a.row, .int .i64 a.col, .slice Aa a.ss.length ca] 24)).alloc (.cells #[.int .i64 b.rows, .int .i64 b.cols, .int .i64 b.row, .int .i64 b.col, .slice Ab b.ss.length cb] 24) = W0 := ⟨_, rfl⟩
  have HB0 : Hid (Below w.heap.size w W0) := by unfold Hid; rw [← hW0]; exact two_new w _ _ [.int .i64 a.rows, .int .i64 a.cols, .int .i64 a.row, .int .i64 a.col, .slice Aa a.ss.length ca] [.int .i64 b.rows, .int .i64 b.cols, .int .i64 b.row, .int .i64 b.col, .slice Ab b.ss.length cb]
  have HX0 : Hid (Whole W0 w.heap.size 24 [.int .i64 a.rows, .int .i64 a.cols, .int .i64 a.row, .int .i64 a.col, .slice Aa a.ss.length ca]) := by unfold Hid; rw [← hW0]; exact (Whole.new w 24 [.int .i64 a.rows, .int .i64 a.cols, .int .i64 a.row, .int .i64 a.col, .slice Aa a.ss.length ca]).alloc _
  have HY0 : Hid (Whole W0 (w.heap.size + 1) 24 [.int .i64 b.rows, .int .i64 b.cols, .int .i64 b.row, .int .i64 b.col, .slice Ab b.ss.length cb]) := by unfold Hid; rw [← hW0]; exact whole_snd w _ 24 [.int .i64 b.rows, .int .i64 b.cols, .int .i64 b.row, .int .i64 b.col, .slice Ab b.ss.length cb]
  have HSA := hide ((ha.ok.sps.below HB0.out (Nat.le_refl _)).up HB0.out.size)
  have HSB := hide ((hb.ok.sps.below HB0.out (Nat.le_refl _)).up HB0.out.size)
  have hla := cut_LB a ha.lb
  have hlb := cut_LB b hb.lb
  have hca := cut_cells a
  have hcb := cut_cells b
  have hna : (cutD a).ss.length ≤ 10 := cutTo_len a.ss 10
  have hnb : (cutD b).ss.length ≤ 10 := cutTo_len b.ss 10
  obtain ⟨a', ha'⟩ : ∃ a', cutD a = a' := ⟨_, rfl⟩
  obtain ⟨b', hb'⟩ : ∃ b', cutD b = b' := ⟨_, rfl⟩
  rw [ha'] at hla hca hna
  rw [hb'] at hlb hcb hnb
  obtain ⟨n3, hn3⟩ : ∃ n3, a'.ss.length = n3 := ⟨_, rfl⟩
  obtain ⟨n4, hn4⟩ : ∃ n4, b'.ss.length = n4 := ⟨_, rfl⟩
  rw [hn3] at hna
  rw [hn4] at hnb
  have HDA := hide ha'
  have HDB := hide hb'
  have HN3 := hide hn3
  have HN4 := hide hn4
  have HM3 : Hid (n3 ≤ 1000000) := Nat.le_trans hna (by decide)
  have HM4 : Hid (n4 ≤ 1000000) := Nat.le_trans hnb (by decide)
  have HLBa := hide hla
  have HLBb := hide hlb
  have HBDa : Hid (∀ s ∈ a'.ss, s.cs.length ≤ 1000000) := fun s hs => Nat.le_trans (hca s hs) (by decide)
  have HBDb : Hid (∀ s ∈ b'.ss, s.cs.length ≤ 1000000) := fun s hs => Nat.le_trans (hcb s hs) (by decide)
  obtain ⟨bo, hbo⟩ : ∃ bo, decide (a' = b') = bo := ⟨_, rfl⟩
  have HBO := hide hbo
  have HS := hide hS
  have HW0 := hide hW0
  clear ha hb hla hlb hca hcb hna hnb ha' hb' hn3 hn4 hbo hS hW0
  go_enter Tryd.func3, Tryd.ntmps3
  go_wp2
  rw [HW0.out]
  refine rgL (fun w' => Below W0.heap.size W0 w') 4 [(0, 0), (0, 2), (1, 1), (1, 3), (3, 4), (3, 5)] ((Below.refl _ _).drewN 1) ?_
  refine stL (hy := fun w hS => by obtain ⟨f0, f1, f2, f3, f4, -⟩ := cells5 (HX0.out.later hS); go_simp <;> with_reducible rfl) (h := ?_)
  refine stL (hy := fun w hS => by obtain ⟨f0, f1, f2, f3, f4, -⟩ := cells5 (HY0.out.later hS); go_simp <;> with_reducible rfl) (h := ?_)
  refine alL fun K hK => ?_
  go_wp2_with fail
  refine (dcut_any W0.heap.size 36 48 a Aa a.ss.length ca W0.drew (HSA.out.below ((Below.refl _ _).drewN 1) (Nat.le_refl _)) rfl).mono ?_
  rintro e k1 h1
  rw [HDA.out] at h1
  obtain ⟨A3, c3, rfl, hd1, hb1⟩ := h1
  rw [HN3.out]
  have B1 : Below W0.heap.size W0 k1 := ((Below.refl W0.heap.size W0).drewN 1).trans hb1
  have HD1 := hide hd1
  clear hd1 hb1
  go_wp2
  refine hK.out _ _ (B1) ?_
  clear hK K
  refine alL fun K hK => ?_
  go_wp2_with fail
  refine (dcut_any W0.heap.size 36 48 b Ab b.ss.length cb k1 (HSB.out.below B1 (Nat.le_refl _)) rfl).mono ?_
  rintro e k2 h2
  rw [HDB.out] at h2
  obtain ⟨A4, c4, rfl, hd2, hb2⟩ := h2
  rw [HN4.out]
  have B2 : Below W0.heap.size W0 k2 := B1.trans (hb2.mono B1.size)
  have HD2 := hide hd2
  have HD1b := hide (HD1.out.below hb2)
  clear hd2 hb2
  go_wp2
  refine hK.out _ _ (B2) ?_
  clear hK K
  have hx2 := HX0.out.later B2
  have hy2 := HY0.out.later B2
  obtain ⟨f0, f1, f2, f3, f4, lf⟩ := cells5 hx2
  have ff := hx2.frozen
  refine laL fun K hK => ?_
  go_wp2
  refine hK.out _ _ ?_
  clear hK K
  have HX3 := hide (put5 hx2 (.int .i64 a'.rows) (.int .i64 a'.cols) (.int .i64 a'.row) (.int .i64 a'.col) (.slice A3 n3 c3))
  have HY3 := hide (hy2.same (heap_put5 k2 w.heap.size (.int .i64 a'.rows) (.int .i64 a'.cols) (.int .i64 a'.row) (.int .i64 a'.col) (.slice A3 n3 c3) (w.heap.size + 1) (by simp)))
  have HD13 := hide ((dfOk_put5 HD1b.out hx2 (.int .i64 a'.rows) (.int .i64 a'.cols) (.int .i64 a'.row) (.int .i64 a'.col) (.slice A3 n3 c3)))
  have HD23 := hide ((dfOk_put5 HD2.out hx2 (.int .i64 a'.rows) (.int .i64 a'.cols) (.int .i64 a'.row) (.int .i64 a'.col) (.slice A3 n3 c3)))
  have HB3 := hide (below_put5 (HB0.out.trans (B2.mono HB0.out.size)) (Nat.le_refl _) (.int .i64 a'.rows) (.int .i64 a'.cols) (.int .i64 a'.row) (.int .i64 a'.col) (.slice A3 n3 c3))
  obtain ⟨W3, hW3⟩ : ∃ W3, (((((k2.setCell ⟨w.heap.size, 0, none⟩ (.int .i64 a'.rows)).setCell ⟨w.heap.size, 1, none⟩ (.int .i64 a'.cols)).setCell ⟨w.heap.size, 2, none⟩ (.int .i64 a'.row)).setCell ⟨w.heap.size, 3, none⟩ (.int .i64 a'.col)).setCell ⟨w.heap.size, 4, none⟩ (.slice A3 n3 c3)) = W3 := ⟨_, rfl⟩
  rw [hW3] at HX3 HY3 HD13 HD23 HB3 ⊢
  clear hW3 hx2 hy2 f0 f1 f2 f3 f4 lf ff B1 B2 HD1 HD2 HD1b
  obtain ⟨f0, f1, f2, f3, f4, lf⟩ := cells5 HY3.out
  have ff := HY3.out.frozen
  refine laL fun K hK => ?_
  go_wp2
  refine hK.out _ _ ?_
  clear hK K
  have HX4 := hide (HX3.out.same (heap_put5 W3 (w.heap.size + 1) (.int .i64 b'.rows) (.int .i64 b'.cols) (.int .i64 b'.row) (.int .i64 b'.col) (.slice A4 n4 c4) w.heap.size (by simp)))
  have HY4 := hide (put5 HY3.out (.int .i64 b'.rows) (.int .i64 b'.cols) (.int .i64 b'.row) (.int .i64 b'.col) (.slice A4 n4 c4))
  have HDa := hide ((dfOk_put5 HD13.out HY3.out (.int .i64 b'.rows) (.int .i64 b'.cols) (.int .i64 b'.row) (.int .i64 b'.col) (.slice A4 n4 c4)))
  have HDb := hide ((dfOk_put5 HD23.out HY3.out (.int .i64 b'.rows) (.int .i64 b'.cols) (.int .i64 b'.row) (.int .i64 b'.col) (.slice A4 n4 c4)))
  have HB4 := hide (below_put5 HB3.out (Nat.le_succ _) (.int .i64 b'.rows) (.int .i64 b'.cols) (.int .i64 b'.row) (.int .i64 b'.col) (.slice A4 n4 c4))
  obtain ⟨W4, hW4⟩ : ∃ W4, (((((W3.setCell ⟨w.heap.size + 1, 0, none⟩ (.int .i64 b'.rows)).setCell ⟨w.heap.size + 1, 1, none⟩ (.int .i64 b'.cols)).setCell ⟨w.heap.size + 1, 2, none⟩ (.int .i64 b'.row)).setCell ⟨w.heap.size + 1, 3, none⟩ (.int .i64 b'.col)).setCell ⟨w.heap.size + 1, 4, none⟩ (.slice A4 n4 c4)) = W4 := ⟨_, rfl⟩
  rw [hW4] at HX4 HY4 HDa HDb HB4 ⊢
  clear hW4 f0 f1 f2 f3 f4 lf ff HX3 HY3 HD13 HD23 HB3
  refine chainL_nil ?_
  cases bo
  all_goals go_wp2
  ·
    refine rgH (fun w' => Below W4.heap.size W4 w') [(false, 0), (false, 1), (true, 2), (true, 3), (true, 5), (true, 7), (false, 4), (false, 6), (false, 8), (false, 9), (false, 10), (false, 11), (false, 12), (true, 13), (false, 14), (false, 15), (false, 16), (false, 17)] ((Below.refl _ _).drewN 1) ?_
    refine alH fun K hK => ?_
    go_wp2_with fail
    refine (dknown_any W4.drew (HS.out.below (HB4.out.drewN 1))).mono ?_
    rintro e k1 ⟨rfl, hb⟩
    have B1 : Below W4.heap.size W4 k1 := ((Below.refl W4.heap.size W4).drewN 1).trans hb
    clear hb
    go_wp2
    refine hK.out _ _ (B1) ?_
    clear hK K
    refine alH fun K hK => ?_
    go_wp2
    refine hK.out _ _ (B1) ?_
    clear hK K
    refine stH (hy := fun w hS => by obtain ⟨f0, f1, f2, f3, f4, -⟩ := cells5 (HX4.out.later hS); go_simp <;> with_reducible rfl) (h := ?_)
    refine stH (hy := fun w hS => by obtain ⟨f0, f1, f2, f3, f4, -⟩ := cells5 (HY4.out.later hS); go_simp <;> with_reducible rfl) (h := ?_)
    refine stH (hy := fun w hS => by obtain ⟨f0, f1, f2, f3, f4, -⟩ := cells5 (HX4.out.later hS); go_simp <;> with_reducible rfl) (h := ?_)
    refine stH (hy := fun w hS => by obtain ⟨f0, f1, f2, f3, f4, -⟩ := cells5 (HY4.out.later hS); go_simp <;> with_reducible rfl) (h := ?_)
    refine alH fun K hK => ?_
    go_wp2_with fail
    refine (dfsame_any 0 0 36 48 36 48 a' b' A3 A4 n3 n4 c3 c4 k1 (HDa.out.below B1).sps (HDb.out.below B1).sps (Nat.zero_le _) (Nat.zero_le _) HN3.out HN4.out HM3.out HBDa.out).mono ?_
    rintro e k2 ⟨rfl, hb⟩
    rw [HBO.out]
    have B2 : Below W4.heap.size W4 k2 := B1.trans (hb.mono B1.size)
    clear hb
    go_wp2
    refine hK.out _ _ (B2) ?_
    clear hK K
    refine alH fun K hK => ?_
    go_wp2_with fail
    refine (ldof_any 0 36 48 a' A3 n3 c3 k2 (HDa.out.below B2).sps HN3.out HM3.out HBDa.out HLBa.out).mono ?_
    rintro e k3 ⟨A5, c5, rfl, hd5, hb⟩
    have B3 : Below W4.heap.size W4 k3 := B2.trans (hb.mono B2.size)
    have HD5 := hide hd5
    rw [HN3.out]
    clear hb hd5
    go_wp2
    refine hK.out _ _ (B3) ?_
    clear hK K
    refine alH fun K hK => ?_
    go_wp2_with fail
    refine (ldof_any 0 36 48 b' A4 n4 c4 k3 (HDb.out.below B3).sps HN4.out HM4.out HBDb.out HLBb.out).mono ?_
    rintro e k4 ⟨A6, c6, rfl, hd6, hb⟩
    have B4 : Below W4.heap.size W4 k4 := B3.trans (hb.mono B3.size)
    have HD6 := hide hd6
    have HD5b := hide (HD5.out.below hb)
    rw [HN4.out]
    clear hb hd6
    go_wp2
    refine hK.out _ _ (B4) ?_
    clear hK K
    refine alH fun K hK => ?_
    go_wp2_with fail
    refine (rdsame_any _ _ _ _ _ _ a' b' A5 A6 n3 n4 c5 c6 k4 HD5b.out.sps HD6.out.sps HD5b.out.cle HD6.out.cle HN3.out HN4.out HM3.out HBDa.out).mono ?_
    rintro e k5 ⟨rfl, hb⟩
    rw [HBO.out]
    have B5 : Below W4.heap.size W4 k5 := B4.trans (hb.mono B4.size)
    clear hb
    go_wp2
    refine hK.out _ _ (B5) ?_
    clear hK K
    refine alH fun K hK => ?_
    go_wp2
    refine hK.out _ _ (B5) ?_
    clear hK K
    refine alH fun K hK => ?_
    go_wp2
    refine hK.out _ _ (B5) ?_
    clear hK K
    refine alH fun K hK => ?_
    go_wp2
    refine hK.out _ _ (B5) ?_
    clear hK K
    refine stH (hy := fun w hS => by obtain ⟨f0, f1, f2, f3, f4, -⟩ := cells5 (HX4.out.later hS); go_simp <;> with_reducible rfl) (h := ?_)
    obtain ⟨f0, f1, f2, f3, f4, lf⟩ := cells5 (HX4.out.later B5)
    refine alH fun K hK => ?_
    go_wp2
    refine hK.out _ _ (B5) ?_
    clear hK K
    clear f0 f1 f2 f3 f4 lf
    refine alH fun K hK => ?_
    go_wp2_with fail
    refine (dfsame_any 0 0 36 48 36 48 a' a' A3 A3 n3 n3 c3 c3 k5 (HDa.out.below B5).sps (HDa.out.below B5).sps (Nat.zero_le _) (Nat.zero_le _) HN3.out HN3.out HM3.out HBDa.out).mono ?_
    rintro e k6 ⟨rfl, hb⟩
    rw [dec_self a']
    have B6 : Below W4.heap.size W4 k6 := B5.trans (hb.mono B5.size)
    clear hb
    go_wp2
    refine hK.out _ _ (B6) ?_
    clear hK K
    refine alH fun K hK => ?_
    go_wp2
    refine hK.out _ _ (B6) ?_
    clear hK K
    refine alH fun K hK => ?_
    go_wp2
    refine hK.out _ _ (B6) ?_
    clear hK K
    refine chainH_nil ?_
    have HBF := hide (HB4.out.trans (B6.mono HB4.out.size))
    clear B1 B2 B3 B4 B5 B6
    go_wp2
    go_ret
    exact ⟨rfl, HBF.out⟩
  ·
    refine rgH (fun w' => Below W4.heap.size W4 w') [(false, 0), (false, 1), (true, 2), (true, 3), (true, 5), (true, 7), (false, 4), (false, 6), (false, 8), (false, 9), (false, 10), (false, 11), (false, 12), (true, 13), (false, 14), (false, 15), (false, 16), (false, 17)] ((Below.refl _ _).drewN 1) ?_
    refine alH fun K hK => ?_
    go_wp2_with fail
    refine (dknown_any W4.drew (HS.out.below (HB4.out.drewN 1))).mono ?_
    rintro e k1 ⟨rfl, hb⟩
    have B1 : Below W4.heap.size W4 k1 := ((Below.refl W4.heap.size W4).drewN 1).trans hb
    clear hb
    go_wp2
    refine hK.out _ _ (B1) ?_
    clear hK K
    refine alH fun K hK => ?_
    go_wp2
    refine hK.out _ _ (B1) ?_
    clear hK K
    refine stH (hy := fun w hS => by obtain ⟨f0, f1, f2, f3, f4, -⟩ := cells5 (HX4.out.later hS); go_simp <;> with_reducible rfl) (h := ?_)
    refine stH (hy := fun w hS => by obtain ⟨f0, f1, f2, f3, f4, -⟩ := cells5 (HY4.out.later hS); go_simp <;> with_reducible rfl) (h := ?_)
    refine stH (hy := fun w hS => by obtain ⟨f0, f1, f2, f3, f4, -⟩ := cells5 (HX4.out.later hS); go_simp <;> with_reducible rfl) (h := ?_)
    refine stH (hy := fun w hS => by obtain ⟨f0, f1, f2, f3, f4, -⟩ := cells5 (HY4.out.later hS); go_simp <;> with_reducible rfl) (h := ?_)
    refine alH fun K hK => ?_
    go_wp2_with fail
    refine (dfsame_any 0 0 36 48 36 48 a' b' A3 A4 n3 n4 c3 c4 k1 (HDa.out.below B1).sps (HDb.out.below B1).sps (Nat.zero_le _) (Nat.zero_le _) HN3.out HN4.out HM3.out HBDa.out).mono ?_
    rintro e k2 ⟨rfl, hb⟩
    rw [HBO.out]
    have B2 : Below W4.heap.size W4 k2 := B1.trans (hb.mono B1.size)
    clear hb
    go_wp2
    refine hK.out _ _ (B2) ?_
    clear hK K
    refine alH fun K hK => ?_
    go_wp2_with fail
    refine (ldof_any 0 36 48 a' A3 n3 c3 k2 (HDa.out.below B2).sps HN3.out HM3.out HBDa.out HLBa.out).mono ?_
    rintro e k3 ⟨A5, c5, rfl, hd5, hb⟩
    have B3 : Below W4.heap.size W4 k3 := B2.trans (hb.mono B2.size)
    have HD5 := hide hd5
    rw [HN3.out]
    clear hb hd5
    go_wp2
    refine hK.out _ _ (B3) ?_
    clear hK K
    refine alH fun K hK => ?_
    go_wp2_with fail
    refine (ldof_any 0 36 48 b' A4 n4 c4 k3 (HDb.out.below B3).sps HN4.out HM4.out HBDb.out HLBb.out).mono ?_
    rintro e k4 ⟨A6, c6, rfl, hd6, hb⟩
    have B4 : Below W4.heap.size W4 k4 := B3.trans (hb.mono B3.size)
    have HD6 := hide hd6
    have HD5b := hide (HD5.out.below hb)
    rw [HN4.out]
    clear hb hd6
    go_wp2
    refine hK.out _ _ (B4) ?_
    clear hK K
    refine alH fun K hK => ?_
    go_wp2_with fail
    refine (rdsame_any _ _ _ _ _ _ a' b' A5 A6 n3 n4 c5 c6 k4 HD5b.out.sps HD6.out.sps HD5b.out.cle HD6.out.cle HN3.out HN4.out HM3.out HBDa.out).mono ?_
    rintro e k5 ⟨rfl, hb⟩
    rw [HBO.out]
    have B5 : Below W4.heap.size W4 k5 := B4.trans (hb.mono B4.size)
    clear hb
    go_wp2
    refine hK.out _ _ (B5) ?_
    clear hK K
    refine alH fun K hK => ?_
    go_wp2
    refine hK.out _ _ (B5) ?_
    clear hK K
    refine alH fun K hK => ?_
    go_wp2
    refine hK.out _ _ (B5) ?_
    clear hK K
    refine alH fun K hK => ?_
    go_wp2
    refine hK.out _ _ (B5) ?_
    clear hK K
    refine stH (hy := fun w hS => by obtain ⟨f0, f1, f2, f3, f4, -⟩ := cells5 (HX4.out.later hS); go_simp <;> with_reducible rfl) (h := ?_)
    obtain ⟨f0, f1, f2, f3, f4, lf⟩ := cells5 (HX4.out.later B5)
    refine alH fun K hK => ?_
    go_wp2
    refine hK.out _ _ (B5) ?_
    clear hK K
    clear f0 f1 f2 f3 f4 lf
    refine alH fun K hK => ?_
    go_wp2_with fail
    refine (dfsame_any 0 0 36 48 36 48 a' a' A3 A3 n3 n3 c3 c3 k5 (HDa.out.below B5).sps (HDa.out.below B5).sps (Nat.zero_le _) (Nat.zero_le _) HN3.out HN3.out HM3.out HBDa.out).mono ?_
    rintro e k6 ⟨rfl, hb⟩
    rw [dec_self a']
    have B6 : Below W4.heap.size W4 k6 := B5.trans (hb.mono B5.size)
    clear hb
    go_wp2
    refine hK.out _ _ (B6) ?_
    clear hK K
    refine alH fun K hK => ?_
    go_wp2
    refine hK.out _ _ (B6) ?_
    clear hK K
    refine alH fun K hK => ?_
    go_wp2
    refine hK.out _ _ (B6) ?_
    clear hK K
    refine chainH_nil ?_
    have HBF := hide (HB4.out.trans (B6.mono HB4.out.size))
    clear B1 B2 B3 B4 B5 B6
    go_wp2
    go_ret
    exact ⟨rfl, HBF.out⟩
end Go.Proofs.YtoddfaoifnkhlaaDoor
