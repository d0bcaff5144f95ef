/-
  The walk of the law DeltaTells.
-/
import Derived.Test.YthogcfjlipaekaaDoorDeWalkB
namespace Go.Proofs.YthogcfjlipaekaaDoor
set_option maxRecDepth 100000
open Go.ChangeShapes Go.WideShapes Go.ChangeAt Go.RowKit
set_option linter.unusedVariables false

set_option maxHeartbeats 4000000 in
theorem deltaTells_walk (a : Df) (Aa : Option Addr) (ca : Nat) (w : World) (ha : DfIn w a Aa ca) (hS : Spans w) :
    Calls Tryd.prog 3 #[.agg #[.int .i64 a.rows, .int .i64 a.cols, .int .i64 a.row, .int .i64 a.col, .slice Aa a.ss.length ca]] w fun e w' => e = .returned (.bool true) ∧ Below w.heap.size w w' := by
  obtain ⟨W0, hW0⟩ : ∃ W0, w.alloc (.cells #[.int .i64 a.rows, .int .i64 a.cols, .int .i64 a.row, .int .i64 a.col, .slice Aa a.ss.length ca] 24) = W0 := ⟨_, rfl⟩
  have HB : Hid (Below w.heap.size w W0) := by unfold Hid; rw [← hW0]; exact new1W _ _
  have HX0 : Hid (Whole W0 w.heap.size 24 [.int .i64 a.rows, .int .i64 a.cols, .int .i64 a.row, .int .i64 a.col, .slice Aa a.ss.length ca]) := by unfold Hid; rw [← hW0]; exact Whole.new w 24 [.int .i64 a.rows, .int .i64 a.cols, .int .i64 a.row, .int .i64 a.col, .slice Aa a.ss.length ca]
  have CUT := hide (dcut_any W0.heap.size 63 79 a Aa a.ss.length ca W0 ((ha.ok.sps.below HB.out (Nat.le_refl _)).up HB.out.size) rfl)
  have hla := cut_LB a ha.lb
  have hca := cut_cells a
  have hna : (cutD a).ss.length ≤ 10 := cutTo_len a.ss 10
  have hsz := cut_small a
  obtain ⟨d, hd⟩ : ∃ d, cutD a = d := ⟨_, rfl⟩
  rw [hd] at hla hca hna hsz CUT
  obtain ⟨n, hn⟩ : ∃ n, d.ss.length = n := ⟨_, rfl⟩
  rw [hn] at hna
  have HS := hide hS
  have HLB := hide hla
  have HBD : Hid (∀ s ∈ d.ss, s.cs.length ≤ 1000000) := fun s hs => Nat.le_trans (hca s hs) (by omega)
  have HSZ : Hid ((bytesSs d.ss).length ≤ 300000) := Nat.le_trans hsz (by omega)
  have HN := hide hn
  have HM : Hid (n ≤ 1000000) := Nat.le_trans hna (by decide)
  have hdl : (bytesDe d).length ≤ 300050 := by have := headB_len d; rw [bytesDe_head, List.length_append]; omega
  have HDL := hide hdl
  have HW0 := hide hW0
  clear hS hla hca hna hsz hn hd hW0 hdl ha
  obtain ⟨f0, f1, f2, f3, f4, lf⟩ := cells5 HX0.out
  go_enter Tryd.func3, Tryd.ntmps3
  go_wp2_with fail
  rw [HW0.out]
  refine CUT.out.mono ?_
  rintro e k1 ⟨A1, c1, rfl, hd1, hb⟩
  rw [HN.out]
  replace HX0 := hide (HX0.out.later hb)
  replace HB := hide (HB.out.trans (hb.mono HB.out.size))
  clear f0 f1 f2 f3 f4 lf hb
  have HD0 := hide hd1
  clear hd1
  obtain ⟨f0, f1, f2, f3, f4, lf⟩ := cells5 HX0.out
  have fz := HX0.out.frozen
  have HX := hide (put5 HX0.out (.int .i64 d.rows) (.int .i64 d.cols) (.int .i64 d.row) (.int .i64 d.col) (.slice A1 n c1))
  have HD := hide (dfok_put HD0.out HX0.out (by decide) (by decide) (.int .i64 d.rows) (.int .i64 d.cols) (.int .i64 d.row) (.int .i64 d.col) (.slice A1 n c1))
  replace HB := hide (below_put5 HB.out (Nat.le_refl _) (.int .i64 d.rows) (.int .i64 d.cols) (.int .i64 d.row) (.int .i64 d.col) (.slice A1 n c1))
  obtain ⟨W, hW⟩ : ∃ W, ((((k1.setCell ⟨w.heap.size, 0, none⟩ (.int .i64 d.rows)).setCell ⟨w.heap.size, 1, none⟩ (.int .i64 d.cols)).setCell ⟨w.heap.size, 2, none⟩ (.int .i64 d.row)).setCell ⟨w.heap.size, 3, none⟩ (.int .i64 d.col)).setCell ⟨w.heap.size, 4, none⟩ (.slice A1 n c1) = W := ⟨_, rfl⟩
  rw [hW] at HX HD HB
  have HW := hide hW
  clear hW
  go_upto_region 2 with fail
  rw [HW.out]
  clear f0 f1 f2 f3 f4 lf fz HX0 HD0 HW
  obtain ⟨Y, hY⟩ : ∃ Y, checkDe d = Y := ⟨_, rfl⟩
  have HY := hide hY
  clear hY
  obtain ⟨f0, f1, f2, f3, f4, lf⟩ := cells5 HX.out
  go_wp2_with fail
  refine (ldof_any 0 63 79 d A1 n c1 _ HD.out.sps HN.out HM.out HBD.out HLB.out).mono ?_
  rintro e w1 ⟨A2, c2, rfl, hd2, hb⟩
  rw [HN.out]
  have HE := hide hd2
  clear hd2
  clear f0 f1 f2 f3 f4 lf
  replace HB := hide (HB.out.trans (hb.mono HB.out.size))
  replace HX := hide (HX.out.later hb)
  replace HD := hide (HD.out.below hb)
  clear hb
  go_wp2_with fail
  refine (rdecheck_any _ _ _ d A2 n c2 _ HE.out.sps HE.out.cle HN.out HM.out HLB.out HBD.out).mono ?_
  rintro e w2 ⟨rfl, hb⟩
  rw [HY.out]
  replace HB := hide (HB.out.trans (hb.mono HB.out.size))
  replace HX := hide (HX.out.later hb)
  replace HD := hide (HD.out.below hb)
  replace HE := hide (HE.out.below hb)
  clear hb
  obtain ⟨f0, f1, f2, f3, f4, lf⟩ := cells5 HX.out
  go_wp2_with fail
  refine (debytes_any 0 63 79 d A1 n c1 _ HD.out.sps (Nat.zero_le _) HN.out HM.out HLB.out HSZ.out (HS.out.below HB.out)).mono ?_
  rintro e w3 ⟨v, he, ho⟩
  rw [HY.out] at he ho
  subst he
  clear f0 f1 f2 f3 f4 lf
  obtain ⟨A3, c3, rfl, hi, -, hz3, -⟩ := ho.form2
  have hb := ho.bel
  clear ho
  obtain ⟨X, hX⟩ : ∃ X, (if Y = 0 then bytesDe d else []) = X := ⟨_, rfl⟩
  rw [hX] at hi ⊢
  obtain ⟨L, hL⟩ : ∃ L, X.length = L := ⟨_, rfl⟩
  rw [hL]
  have HI := hide hi
  have HXX := hide hX
  have HL := hide hL
  have HZ3 := hide hz3
  clear hi hX hL hz3
  replace HB := hide (HB.out.trans (hb.mono HB.out.size))
  replace HX := hide (HX.out.later hb)
  replace HD := hide (HD.out.below hb)
  replace HE := hide (HE.out.below hb)
  clear hb
  have y0 : (Y != Y) = false := by simp
  by_cases hy : Y = 0
  · have y1 : (Y != 0) = false := by simpa using hy
    have hc := HY.out.trans hy
    have HXB : Hid (bytesDe d = X) := by unfold Hid; rw [← HXX.out, if_pos hy]
    have HBY : Hid (Byte X) := by unfold Hid; rw [← HXB.out]; exact bytesDe_byte hc
    have HPE : Hid (parseDe X = (d, 0)) := by unfold Hid; rw [← HXB.out]; exact parseDe_enc hc
    have hll : L ≤ 1000000 := by rw [← HL.out, ← HXB.out]; exact Nat.le_trans HDL.out (by omega)
    have HC := hide hc
    clear hc
    go_wp2_with fail
    refine (deparse_s A3 L c3 X _ HI.out HL.out HZ3.out hll HBY.out (HS.out.below HB.out)).mono ?_
    rintro e w4 hp
    rw [HPE.out] at hp
    obtain ⟨A4, c4, rfl, hd4, hb⟩ := hp
    simp only at hd4
    simp only
    rw [HN.out]
    have HF := hide hd4
    clear hd4
    replace HB := hide (HB.out.trans (hb.mono HB.out.size))
    replace HX := hide (HX.out.later hb)
    replace HD := hide (HD.out.below hb)
    replace HI := hide (HI.out.below hb)
    clear hb
    obtain ⟨W5, hW5⟩ : ∃ W5, w4.alloc (.cells #[.int .i64 d.rows, .int .i64 d.cols, .int .i64 d.row, .int .i64 d.col, .slice A4 n c4] 24) = W5 := ⟨_, rfl⟩
    have hb : Below w4.heap.size w4 W5 := by rw [← hW5]; exact new1W _ _
    have HQ : Hid (Whole W5 w4.heap.size 24 [.int .i64 d.rows, .int .i64 d.cols, .int .i64 d.row, .int .i64 d.col, .slice A4 n c4]) := by unfold Hid; rw [← hW5]; exact Whole.new w4 24 [.int .i64 d.rows, .int .i64 d.cols, .int .i64 d.row, .int .i64 d.col, .slice A4 n c4]
    have HW5 := hide hW5
    clear hW5
    replace HB := hide (HB.out.trans (hb.mono HB.out.size))
    replace HX := hide (HX.out.later hb)
    replace HD := hide (HD.out.below hb)
    replace HI := hide (HI.out.below hb)
    replace HF := hide (HF.out.below hb)
    clear hb
    go_wp2_with fail
    rw [HW5.out]
    refine (deknown_any W5 (HS.out.below HB.out)).mono ?_
    rintro e w6 ⟨rfl, hb⟩
    replace HB := hide (HB.out.trans (hb.mono HB.out.size))
    replace HX := hide (HX.out.later hb)
    replace HD := hide (HD.out.below hb)
    replace HI := hide (HI.out.below hb)
    replace HF := hide (HF.out.below hb)
    replace HQ := hide (HQ.out.later hb)
    clear hb
    obtain ⟨f0, f1, f2, f3, f4, lf⟩ := cells5 HX.out
    go_wp2_with fail
    refine (ldof_any 0 63 79 d A1 n c1 _ HD.out.sps HN.out HM.out HBD.out HLB.out).mono ?_
    rintro e w7 ⟨A7, c7, rfl, hd7, hb⟩
    rw [HN.out]
    have HE := hide hd7
    clear hd7
    clear f0 f1 f2 f3 f4 lf
    replace HB := hide (HB.out.trans (hb.mono HB.out.size))
    replace HX := hide (HX.out.later hb)
    replace HD := hide (HD.out.below hb)
    replace HI := hide (HI.out.below hb)
    replace HF := hide (HF.out.below hb)
    replace HQ := hide (HQ.out.later hb)
    clear hb
    go_wp2_with fail
    refine (rdebytes_any _ _ _ d A7 n c7 _ HE.out.sps HE.out.cle HN.out (by decide) HC.out HSZ.out).mono ?_
    rintro e w8 ⟨v8, rfl, ho⟩
    rw [HXB.out] at ho
    obtain ⟨A8, c8, rfl, hi, -⟩ := ho.form2
    have hb := ho.bel
    rw [HL.out]
    have HJ := hide hi
    clear ho hi
    replace HB := hide (HB.out.trans (hb.mono HB.out.size))
    replace HX := hide (HX.out.later hb)
    replace HD := hide (HD.out.below hb)
    replace HI := hide (HI.out.below hb)
    replace HF := hide (HF.out.below hb)
    replace HQ := hide (HQ.out.later hb)
    replace HE := hide (HE.out.below hb)
    clear hb
    go_wp2_with fail
    refine (nu_same_yes A3 A8 L c3 c8 X _ HI.out HJ.out HL.out HBY.out).mono ?_
    rintro e w9 ⟨rfl, rfl⟩
    have hb := Below.refl w8.heap.size w8
    replace HB := hide (HB.out.trans (hb.mono HB.out.size))
    replace HX := hide (HX.out.later hb)
    replace HD := hide (HD.out.below hb)
    replace HI := hide (HI.out.below hb)
    replace HF := hide (HF.out.below hb)
    replace HQ := hide (HQ.out.later hb)
    replace HE := hide (HE.out.below hb)
    replace HJ := hide (HJ.out.below hb)
    clear hb
    obtain ⟨f0, f1, f2, f3, f4, lf⟩ := cells5 HX.out
    obtain ⟨g0, g1, g2, g3, g4, lg⟩ := cells5 HQ.out
    go_wp2_with fail
    refine (dfsame_any 0 0 63 79 63 79 d d A4 A1 n n c4 c1 _ HF.out.sps HD.out.sps (Nat.zero_le _) (Nat.zero_le _) HN.out HN.out HM.out HBD.out).mono ?_
    rintro e w10 ⟨rfl, hb⟩
    rw [dec_self d]
    clear f0 f1 f2 f3 f4 lf
    clear g0 g1 g2 g3 g4 lg
    replace HB := hide (HB.out.trans (hb.mono HB.out.size))
    replace HX := hide (HX.out.later hb)
    replace HD := hide (HD.out.below hb)
    replace HI := hide (HI.out.below hb)
    replace HF := hide (HF.out.below hb)
    replace HQ := hide (HQ.out.later hb)
    replace HE := hide (HE.out.below hb)
    replace HJ := hide (HJ.out.below hb)
    clear hb
    go_wp2
    go_ret
    exact ⟨rfl, HB.out⟩
  · have y1 : (Y != 0) = true := by simpa using hy
    have hl0 : L = 0 := by rw [← HL.out, ← HXX.out, if_neg hy]; rfl
    subst hl0
    clear hy
    go_wp2_with fail
    refine (deknown_any _ (HS.out.below HB.out)).mono ?_
    rintro e w6 ⟨rfl, hb⟩
    replace HB := hide (HB.out.trans (hb.mono HB.out.size))
    clear hb
    go_wp2
    go_ret
    exact ⟨rfl, HB.out⟩
end Go.Proofs.YthogcfjlipaekaaDoor
