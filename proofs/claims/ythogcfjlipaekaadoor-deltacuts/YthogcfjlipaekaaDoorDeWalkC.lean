/-
  The walk of the law DeltaCuts.
-/
import Derived.Test.YthogcfjlipaekaaDoorDeWalkB
namespace Go.Proofs.YthogcfjlipaekaaDoor
set_option maxRecDepth 100000
open Go.ChangeShapes Go.WideShapes Go.ChangeAt Go.RowKit
set_option linter.unusedVariables false

theorem zsame_any (A : Option Addr) (c : Nat) (w : World) : Calls Tryd.prog 14 #[.agg #[.int .i64 0, .int .i64 0, .int .i64 0, .int .i64 0, .slice A 0 c], .agg #[.int .i64 0, .int .i64 0, .int .i64 0, .int .i64 0, .slice none 0 0]] w (Said true w) := by
  have h := dfsame_any 0 0 63 79 63 79 ⟨0, 0, 0, 0, []⟩ ⟨0, 0, 0, 0, []⟩ A none 0 0 c 0 w .nil .nil (Nat.zero_le _) (Nat.zero_le _) rfl rfl (by omega) (fun s hs => by cases hs)
  rw [dec_self] at h
  exact h
theorem parse_zero {w w' : World} {e : Ending} {v : Int} (h : ParseDS w (zeroD, v) e w') : ∃ A c, e = .returned (.tuple #[.agg #[.int .i64 0, .int .i64 0, .int .i64 0, .int .i64 0, .slice A 0 c], .int .i64 v]) ∧ Below w.heap.size w w' := by
  obtain ⟨A, c, he, -, hb⟩ := h
  exact ⟨A, c, he, hb⟩
set_option maxHeartbeats 4000000 in
theorem deltaCuts_walk (a : Df) (Aa : Option Addr) (ca : Nat) (at_ : Int) (w : World) (ha : DfIn w a Aa ca) (hat : (Lit.int .i64 at_).wf = true) (hS : Spans w) :
    Calls Tryd.prog 5 #[.agg #[.int .i64 a.rows, .int .i64 a.cols, .int .i64 a.row, .int .i64 a.col, .slice Aa a.ss.length ca], .int .i64 at_] w fun e w' => e = .returned (.bool true) ∧ Below w.heap.size w w' := by
  obtain ⟨W0, hW0⟩ : ∃ W0, w.alloc (.cells #[.int .i64 a.rows, .int .i64 a.cols, .int .i64 a.row, .int .i64 a.col, .slice Aa a.ss.length ca] 24) = W0 := ⟨_, rfl⟩
  have HB : Hid (Below w.heap.size w W0) := by unfold Hid; rw [← hW0]; exact new1W _ _
  have HX0 : Hid (Whole W0 w.heap.size 24 [.int .i64 a.rows, .int .i64 a.cols, .int .i64 a.row, .int .i64 a.col, .slice Aa a.ss.length ca]) := by unfold Hid; rw [← hW0]; exact Whole.new w 24 [.int .i64 a.rows, .int .i64 a.cols, .int .i64 a.row, .int .i64 a.col, .slice Aa a.ss.length ca]
  have CUT := hide (dcut_any W0.heap.size 63 79 a Aa a.ss.length ca W0 ((ha.ok.sps.below HB.out (Nat.le_refl _)).up HB.out.size) rfl)
  have hla := cut_LB a ha.lb
  have hca := cut_cells a
  have hna : (cutD a).ss.length ≤ 10 := cutTo_len a.ss 10
  have hsz := cut_small a
  obtain ⟨d, hd⟩ : ∃ d, cutD a = d := ⟨_, rfl⟩
  rw [hd] at hla hca hna hsz CUT
  obtain ⟨n, hn⟩ : ∃ n, d.ss.length = n := ⟨_, rfl⟩
  rw [hn] at hna
  have HS := hide hS
  have HLB := hide hla
  have HBD : Hid (∀ s ∈ d.ss, s.cs.length ≤ 1000000) := fun s hs => Nat.le_trans (hca s hs) (by omega)
  have HSZ : Hid ((bytesSs d.ss).length ≤ 300000) := Nat.le_trans hsz (by omega)
  have HN := hide hn
  have HM : Hid (n ≤ 1000000) := Nat.le_trans hna (by decide)
  have hdl : (bytesDe d).length ≤ 300050 := by have := headB_len d; rw [bytesDe_head, List.length_append]; omega
  have HDL := hide hdl
  have HW0 := hide hW0
  clear hS hla hca hna hsz hn hd hW0 hdl ha
  obtain ⟨f0, f1, f2, f3, f4, lf⟩ := cells5 HX0.out
  go_enter Tryd.func5, Tryd.ntmps5
  go_wp2_with fail
  rw [HW0.out]
  refine CUT.out.mono ?_
  rintro e k1 ⟨A1, c1, rfl, hd1, hb⟩
  rw [HN.out]
  replace HX0 := hide (HX0.out.later hb)
  replace HB := hide (HB.out.trans (hb.mono HB.out.size))
  clear f0 f1 f2 f3 f4 lf hb
  have HD0 := hide hd1
  clear hd1
  obtain ⟨f0, f1, f2, f3, f4, lf⟩ := cells5 HX0.out
  have fz := HX0.out.frozen
  have HX := hide (put5 HX0.out (.int .i64 d.rows) (.int .i64 d.cols) (.int .i64 d.row) (.int .i64 d.col) (.slice A1 n c1))
  have HD := hide (dfok_put HD0.out HX0.out (by decide) (by decide) (.int .i64 d.rows) (.int .i64 d.cols) (.int .i64 d.row) (.int .i64 d.col) (.slice A1 n c1))
  replace HB := hide (below_put5 HB.out (Nat.le_refl _) (.int .i64 d.rows) (.int .i64 d.cols) (.int .i64 d.row) (.int .i64 d.col) (.slice A1 n c1))
  obtain ⟨W, hW⟩ : ∃ W, ((((k1.setCell ⟨w.heap.size, 0, none⟩ (.int .i64 d.rows)).setCell ⟨w.heap.size, 1, none⟩ (.int .i64 d.cols)).setCell ⟨w.heap.size, 2, none⟩ (.int .i64 d.row)).setCell ⟨w.heap.size, 3, none⟩ (.int .i64 d.col)).setCell ⟨w.heap.size, 4, none⟩ (.slice A1 n c1) = W := ⟨_, rfl⟩
  rw [hW] at HX HD HB
  have HW := hide hW
  clear hW
  go_upto_region 2 with fail
  rw [HW.out]
  clear f0 f1 f2 f3 f4 lf fz HX0 HD0 HW
  obtain ⟨Y, hY⟩ : ∃ Y, checkDe d = Y := ⟨_, rfl⟩
  have HY := hide hY
  clear hY
  obtain ⟨f0, f1, f2, f3, f4, lf⟩ := cells5 HX.out
  go_wp2_with fail
  refine (debytes_any 0 63 79 d A1 n c1 _ HD.out.sps (Nat.zero_le _) HN.out HM.out HLB.out HSZ.out (HS.out.below HB.out)).mono ?_
  rintro e w3 ⟨v, he, ho⟩
  rw [HY.out] at he ho
  subst he
  clear f0 f1 f2 f3 f4 lf
  obtain ⟨A3, c3, rfl, hi, hcap, hz3, -⟩ := ho.form2
  have hb := ho.bel
  clear ho
  obtain ⟨X, hX⟩ : ∃ X, (if Y = 0 then bytesDe d else []) = X := ⟨_, rfl⟩
  rw [hX] at hi hcap ⊢
  obtain ⟨L, hL⟩ : ∃ L, X.length = L := ⟨_, rfl⟩
  rw [hL] at hcap ⊢
  have HI := hide hi
  have HXX := hide hX
  have HL := hide hL
  have HZ3 := hide hz3
  clear hi hX hL hz3
  replace HB := hide (HB.out.trans (hb.mono HB.out.size))
  replace HX := hide (HX.out.later hb)
  replace HD := hide (HD.out.below hb)
  clear hb
  by_cases hy : Y = 0
  · have y1 : (Y != 0) = false := by simpa using hy
    have hc := HY.out.trans hy
    have hxb : bytesDe d = X := by rw [← HXX.out, if_pos hy]
    have hll : L ≤ 1000000 := by rw [← HL.out, ← hxb]; exact Nat.le_trans HDL.out (by omega)
    have hlp : 1 ≤ L := by rw [← HL.out, ← hxb]; exact bytesDe_pos d
    have l0 : ((L : Int) == 0) = false := by simp; omega
    have hbat := i64_bd hat
    obtain ⟨C1, hC1⟩ : ∃ C1, IntKind.u64.wrap at_ = C1 := ⟨_, rfl⟩
    have p1 : 0 ≤ C1 := by rw [← hC1, IntKind.wrap_u64]; omega
    have hwl : IntKind.u64.wrap (L : Int) = (L : Int) := u64_same _ (by omega) (by omega)
    obtain ⟨Rr, hR, hRL⟩ : ∃ Rr : Nat, C1.tmod ((L : Nat) : Int) = (Rr : Int) ∧ Rr < L := by
      refine ⟨(C1.tmod ((L : Nat) : Int)).toNat, ?_, ?_⟩
      · have := Int.tmod_nonneg ((L : Nat) : Int) p1; omega
      · have h1 := Int.tmod_lt_of_pos C1 (show (0 : Int) < ((L : Nat) : Int) by omega); have := Int.tmod_nonneg ((L : Nat) : Int) p1; omega
    have HR0 := hide hR
    have HPE : Hid (parseDe (X.take Rr) = (zeroD, 4)) := by unfold Hid; rw [← hxb]; exact parseDe_cut hc (by rw [hxb, HL.out]; exact hRL)
    have HBY : Hid (Byte (X.take Rr)) := by
      have := bytesDe_byte hc
      rw [hxb] at this
      exact fun x hx => this x (List.mem_of_mem_take hx)
    have HIT := hide (HI.out.take Rr)
    have HLT : Hid ((X.take Rr).length = Rr) := by unfold Hid; rw [List.length_take, HL.out]; omega
    clear hc hxb hR hat hy
    obtain ⟨hb1, hb2⟩ := hbat
    go_wp2_with (with_reducible refine wpList_val (o := ⟨some 28, _, _, _, _, _⟩) rfl (v := .int .u64 (Rr : Int)) ?_ ?_)
    · exact exec_binop (v2 := .int .u64 ((L : Nat) : Int)) rfl rfl rfl rfl (run_rem_nat (P := Tryd.prog) w3 45 .u64 C1 L Rr (by omega) HR0.out)
    clear hC1 p1 hwl
    go_wp2_with fail
    refine (deparse_s A3 Rr c3 (X.take Rr) _ HIT.out HLT.out HZ3.out (by omega) HBY.out (HS.out.below HB.out)).mono ?_
    rintro e w4 hp
    rw [HPE.out] at hp
    obtain ⟨A4, c4, rfl, hb⟩ := parse_zero hp
    clear hp
    replace HB := hide (HB.out.trans (hb.mono HB.out.size))
    clear hb
    obtain ⟨W5, hW5⟩ : ∃ W5, w4.alloc (.cells #[.int .i64 0, .int .i64 0, .int .i64 0, .int .i64 0, .slice A4 0 c4] 24) = W5 := ⟨_, rfl⟩
    have hb : Below w4.heap.size w4 W5 := by rw [← hW5]; exact new1W _ _
    have HQ : Hid (Whole W5 w4.heap.size 24 [.int .i64 0, .int .i64 0, .int .i64 0, .int .i64 0, .slice A4 0 c4]) := by unfold Hid; rw [← hW5]; exact Whole.new w4 24 [.int .i64 0, .int .i64 0, .int .i64 0, .int .i64 0, .slice A4 0 c4]
    have HW5 := hide hW5
    clear hW5
    replace HB := hide (HB.out.trans (hb.mono HB.out.size))
    clear hb
    go_wp2_with fail
    rw [HW5.out]
    refine (deknown_any W5 (HS.out.below HB.out)).mono ?_
    rintro e w6 ⟨rfl, hb⟩
    replace HB := hide (HB.out.trans (hb.mono HB.out.size))
    replace HQ := hide (HQ.out.later hb)
    clear hb
    obtain ⟨g0, g1, g2, g3, g4, lg⟩ := cells5 HQ.out
    go_wp2_with fail
    refine (zsame_any A4 c4 _).mono ?_
    rintro e w7 ⟨rfl, hb⟩
    clear g0 g1 g2 g3 g4 lg
    replace HB := hide (HB.out.trans (hb.mono HB.out.size))
    replace HQ := hide (HQ.out.later hb)
    clear hb
    go_wp2
    go_ret
    exact ⟨rfl, HB.out⟩
  · have y1 : (Y != 0) = true := by simpa using hy
    clear hy
    go_wp2_with fail
    refine (deknown_any _ (HS.out.below HB.out)).mono ?_
    rintro e w6 ⟨rfl, hb⟩
    replace HB := hide (HB.out.trans (hb.mono HB.out.size))
    clear hb
    go_wp2
    go_ret
    exact ⟨rfl, HB.out⟩
end Go.Proofs.YthogcfjlipaekaaDoor
