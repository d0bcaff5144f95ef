/-
  The walk of the law FrameCuts.
-/
import Derived.Test.YtcbdokocnjoilaaDoorFrWalkB
import Derived.Test.YtcbdokocnjoilaaDoorB14
namespace Go.Proofs.YtcbdokocnjoilaaDoor
set_option maxRecDepth 100000
open Go.ChangeShapes Go.WideShapes Go.ChangeAt Go.RowKit
set_option linter.unusedVariables false

set_option maxHeartbeats 4000000 in
theorem frameCuts_walk (a : Fm) (Aa : Option Addr) (ca : Nat) (at_ : Int) (mo : Nat) (hmo : mo < 256) (w : World) (ha : FmIn w a Aa ca) (hat : (Lit.int .i64 at_).wf = true) (hS : Spans w) :
    Calls Tryd.prog 5 #[.agg #[.int .u64 a.num, .int .u64 a.base, .int .u64 a.echo, .int .u64 a.stamp, .int .i64 a.d.rows, .int .i64 a.d.cols, .int .i64 a.d.row, .int .i64 a.d.col, .slice Aa a.d.ss.length ca], .int .i64 at_, .int .u8 (mo : Int)] w fun e w' => e = .returned (.bool true) ∧ Below w.heap.size w w' := by
  obtain ⟨W0, hW0⟩ : ∃ W0, w.alloc (.cells #[.int .u64 a.num, .int .u64 a.base, .int .u64 a.echo, .int .u64 a.stamp, .int .i64 a.d.rows, .int .i64 a.d.cols, .int .i64 a.d.row, .int .i64 a.d.col, .slice Aa a.d.ss.length ca] 28) = W0 := ⟨_, rfl⟩
  have HB : Hid (Below w.heap.size w W0) := by unfold Hid; rw [← hW0]; exact new1W _ _
  have HX0 : Hid (Whole W0 w.heap.size 28 [.int .u64 a.num, .int .u64 a.base, .int .u64 a.echo, .int .u64 a.stamp, .int .i64 a.d.rows, .int .i64 a.d.cols, .int .i64 a.d.row, .int .i64 a.d.col, .slice Aa a.d.ss.length ca]) := by unfold Hid; rw [← hW0]; exact Whole.new w 28 [.int .u64 a.num, .int .u64 a.base, .int .u64 a.echo, .int .u64 a.stamp, .int .i64 a.d.rows, .int .i64 a.d.cols, .int .i64 a.d.row, .int .i64 a.d.col, .slice Aa a.d.ss.length ca]
  have CUT := hide (frcut_any W0.heap.size 88 127 a Aa a.d.ss.length ca W0 ((ha.df.ok.sps.below HB.out (Nat.le_refl _)).up HB.out.size) (Nat.le_refl _) rfl)
  have hok := cutFm_ok ha.ok
  have hla : ∀ s ∈ (cutFm a).d.ss, LB s.cs := cut_LB a.d ha.df.lb
  have hca : ∀ s ∈ (cutFm a).d.ss, s.cs.length ≤ 30 := cut_cells a.d
  have hna : (cutFm a).d.ss.length ≤ 10 := cutTo_len a.d.ss 10
  have hsz : (bytesSs (cutFm a).d.ss).length ≤ 30000 := cut_small a.d
  obtain ⟨f, hf⟩ : ∃ f, cutFm a = f := ⟨_, rfl⟩
  rw [hf] at hok hla hca hna hsz CUT
  obtain ⟨n, hn⟩ : ∃ n, f.d.ss.length = n := ⟨_, rfl⟩
  rw [hn] at hna
  have hfl := bytesFm_len hsz
  have hfp := bytesFm_pos f
  have HFL := hide hfl
  have HFP := hide hfp
  have HS := hide hS
  have HOK := hide hok
  have HLB := hide hla
  have HBD : Hid (∀ s ∈ f.d.ss, s.cs.length ≤ 1000000) := fun s hs => Nat.le_trans (hca s hs) (by omega)
  have HSZ : Hid ((bytesSs f.d.ss).length ≤ 300000) := Nat.le_trans hsz (by omega)
  have HN := hide hn
  have HM : Hid (n ≤ 1000000) := Nat.le_trans hna (by decide)
  have HW0 := hide hW0
  clear hS hok hla hca hna hsz hn hf hW0 ha hfl hfp
  obtain ⟨f0, f1, f2, f3, f4, f5, f6, f7, f8, lf⟩ := cells9 HX0.out
  go_enter Tryd.func5, Tryd.ntmps5
  go_wp2_with fail
  rw [HW0.out]
  refine CUT.out.mono ?_
  rintro e k1 ⟨A1, c1, rfl, hd1, hb⟩
  rw [HN.out]
  replace HX0 := hide (HX0.out.later hb)
  replace HB := hide (HB.out.trans (hb.mono HB.out.size))
  clear f0 f1 f2 f3 f4 f5 f6 f7 f8 lf
  clear hb
  have HD0 := hide hd1
  clear hd1
  obtain ⟨f0, f1, f2, f3, f4, f5, f6, f7, f8, lf⟩ := cells9 HX0.out
  have fz := HX0.out.frozen
  have HX := hide (put9 HX0.out (.int .u64 f.num) (.int .u64 f.base) (.int .u64 f.echo) (.int .u64 f.stamp) (.int .i64 f.d.rows) (.int .i64 f.d.cols) (.int .i64 f.d.row) (.int .i64 f.d.col) (.slice A1 n c1))
  have HD := hide (dfok_put9 HD0.out HX0.out (by decide) (by decide) (.int .u64 f.num) (.int .u64 f.base) (.int .u64 f.echo) (.int .u64 f.stamp) (.int .i64 f.d.rows) (.int .i64 f.d.cols) (.int .i64 f.d.row) (.int .i64 f.d.col) (.slice A1 n c1))
  replace HB := hide (below_put9 HB.out (Nat.le_refl _) (.int .u64 f.num) (.int .u64 f.base) (.int .u64 f.echo) (.int .u64 f.stamp) (.int .i64 f.d.rows) (.int .i64 f.d.cols) (.int .i64 f.d.row) (.int .i64 f.d.col) (.slice A1 n c1))
  obtain ⟨W, hW⟩ : ∃ W, set9 k1 w.heap.size (.int .u64 f.num) (.int .u64 f.base) (.int .u64 f.echo) (.int .u64 f.stamp) (.int .i64 f.d.rows) (.int .i64 f.d.cols) (.int .i64 f.d.row) (.int .i64 f.d.col) (.slice A1 n c1) = W := ⟨_, rfl⟩
  rw [hW] at HX HD HB
  unfold set9 at hW
  have HW := hide hW
  clear hW
  go_upto_region 2 with fail
  rw [HW.out]
  clear f0 f1 f2 f3 f4 f5 f6 f7 f8 lf
  clear fz HX0 HD0 HW
  obtain ⟨Y, hY⟩ : ∃ Y, checkFm f = Y := ⟨_, rfl⟩
  have HY := hide hY
  clear hY
  obtain ⟨f0, f1, f2, f3, f4, f5, f6, f7, f8, lf⟩ := cells9 HX.out
  go_wp2_with fail
  refine (frbytes_any 0 88 127 f A1 n c1 _ HOK.out HD.out.sps (Nat.zero_le _) HN.out HM.out HLB.out HSZ.out (HS.out.below HB.out)).mono ?_
  rintro e w3 ⟨v, he, ho⟩
  rw [HY.out] at he ho
  subst he
  clear f0 f1 f2 f3 f4 f5 f6 f7 f8 lf
  obtain ⟨A3, c3, rfl, hi, hcap, hz3, -⟩ := ho.form2
  have hb := ho.bel
  clear ho
  obtain ⟨X, hX⟩ : ∃ X, (if Y = 0 then bytesFm f else []) = X := ⟨_, rfl⟩
  rw [hX] at hi hcap ⊢
  obtain ⟨L, hL⟩ : ∃ L, X.length = L := ⟨_, rfl⟩
  rw [hL] at hcap ⊢
  have HI := hide hi
  have HXX := hide hX
  have HL := hide hL
  have HZ3 := hide hz3
  clear hi hX hL hz3
  replace HB := hide (HB.out.trans (hb.mono HB.out.size))
  replace HX := hide (HX.out.later hb)
  replace HD := hide (HD.out.below hb)
  clear hb
  by_cases hy : Y = 0
  · have y1 : (Y != 0) = false := by simpa using hy
    have hc := HY.out.trans hy
    have hxb : bytesFm f = X := by rw [← HXX.out, if_pos hy]
    have hll : L ≤ 31000 := by rw [← HL.out, ← hxb]; exact HFL.out
    have hlp : 1 ≤ L := by rw [← HL.out, ← hxb]; exact HFP.out
    have l0 : ((L : Int) == 0) = false := by simp; omega
    have hbat := i64_bd hat
    obtain ⟨C1, hC1⟩ : ∃ C1, IntKind.u64.wrap at_ = C1 := ⟨_, rfl⟩
    have p1 : 0 ≤ C1 := by rw [← hC1, IntKind.wrap_u64]; omega
    have hwl : IntKind.u64.wrap (L : Int) = (L : Int) := u64_same _ (by omega) (by omega)
    obtain ⟨Rr, hR, hRL⟩ : ∃ Rr : Nat, C1.tmod ((L : Nat) : Int) = (Rr : Int) ∧ Rr < L := by
      refine ⟨(C1.tmod ((L : Nat) : Int)).toNat, ?_, ?_⟩
      · have := Int.tmod_nonneg ((L : Nat) : Int) p1; omega
      · have h1 := Int.tmod_lt_of_pos C1 (show (0 : Int) < ((L : Nat) : Int) by omega); have := Int.tmod_nonneg ((L : Nat) : Int) p1; omega
    have HR0 := hide hR
    have hby := bytesFm_byte HOK.out (checkFm_zero hc).2.1
    have HPE : Hid (parseFm (X.take Rr) = (zeroFm, if Rr = 0 then 12 else 4)) := by unfold Hid; rw [← hxb]; exact parseFm_cut HOK.out hc hby (by rw [hxb, HL.out]; exact hRL)
    have HPM : Hid (parseFm (X ++ [(mo : Int)]) = (zeroFm, 3)) := by unfold Hid; rw [← hxb]; exact parseFm_more HOK.out hc (mo : Int) (by rw [hxb, HL.out]; omega)
    rw [hxb] at hby
    have HBY : Hid (Byte (X.take Rr)) := fun x hx => hby x (List.mem_of_mem_take hx)
    have HBM : Hid (Byte (X ++ [(mo : Int)])) := bytes_app hby (fun x hx => by simp only [List.mem_cons, List.not_mem_nil, or_false] at hx; omega)
    have HIT := hide (HI.out.take Rr)
    have HLT : Hid ((X.take Rr).length = Rr) := by unfold Hid; rw [List.length_take, HL.out]; omega
    have HLM : Hid ((X ++ [(mo : Int)]).length = L + 1) := by unfold Hid; rw [List.length_append, HL.out]; rfl
    have HCAP := hide hcap
    have HRL := hide hRL
    have HLL := hide hll
    have p5 : (Rr : Int) ≤ (c3 : Int) := by omega
    have p6 : (0 : Int) ≤ (Rr : Int) := by omega
    clear hc hxb hR hat hy hby hcap hmo
    obtain ⟨hb1, hb2⟩ := hbat
    go_wp2_with (with_reducible refine wpList_val (o := ⟨some 33, _, _, _, _, _⟩) rfl (v := .int .u64 (Rr : Int)) ?_ ?_)
    · exact exec_binop (v2 := .int .u64 ((L : Nat) : Int)) rfl rfl rfl rfl (run_rem_nat (P := Tryd.prog) w3 23 .u64 C1 L Rr (by omega) HR0.out)
    clear hC1 p1 hwl hb1 hb2
    by_cases hr : Rr = 0
    · have r0 : ((Rr : Int) == 0) = true := by simp; omega
      rw [if_pos hr] at HPE
      clear hr
      go_wp2_with fail
      refine (frparse_any A3 Rr c3 (X.take Rr) _ HIT.out HLT.out HZ3.out (by have := HCAP.out; have := HRL.out; omega) (by have := HRL.out; have := HLL.out; omega) HBY.out (HS.out.below HB.out)).mono ?_
      rintro e w4 hp
      rw [HPE.out] at hp
      obtain ⟨A4, c4, rfl, hb⟩ := parsefs_zero hp
      clear hp
      replace HB := hide (HB.out.trans (hb.mono HB.out.size))
      replace HI := hide (HI.out.below hb)
      clear hb
      obtain ⟨W5, hW5⟩ : ∃ W5, w4.alloc (.cells #[.int .u64 0, .int .u64 0, .int .u64 0, .int .u64 0, .int .i64 0, .int .i64 0, .int .i64 0, .int .i64 0, .slice A4 0 c4] 28) = W5 := ⟨_, rfl⟩
      have hb : Below w4.heap.size w4 W5 := by rw [← hW5]; exact new1W _ _
      have HQ : Hid (Whole W5 w4.heap.size 28 [.int .u64 0, .int .u64 0, .int .u64 0, .int .u64 0, .int .i64 0, .int .i64 0, .int .i64 0, .int .i64 0, .slice A4 0 c4]) := by unfold Hid; rw [← hW5]; exact Whole.new w4 28 [.int .u64 0, .int .u64 0, .int .u64 0, .int .u64 0, .int .i64 0, .int .i64 0, .int .i64 0, .int .i64 0, .slice A4 0 c4]
      have HW5 := hide hW5
      clear hW5
      replace HB := hide (HB.out.trans (hb.mono HB.out.size))
      replace HI := hide (HI.out.below hb)
      clear hb
      obtain ⟨W6, hW6⟩ : ∃ W6, W5.alloc (.cells #[] 5) = W6 := ⟨_, rfl⟩
      have hb : Below W5.heap.size W5 W6 := by rw [← hW6]; exact new1W _ _
      have HO : Hid (Own 5 .u8 W5.heap.size W6 W6 (.slice (some ⟨W5.heap.size, 0, none⟩) 0 0) []) := by unfold Hid; rw [← hW6]; exact (Own.lit W5 5 .u8 [] 0 rfl (by omega)).now
      have HBW := hide HB.out
      have HQL : Hid (w4.heap.size < W5.heap.size) := HQ.out.lt
      have HW6 := hide hW6
      clear hW6
      replace HB := hide (HB.out.trans (hb.mono HB.out.size))
      replace HI := hide (HI.out.below hb)
      replace HQ := hide (HQ.out.later hb)
      clear hb
      go_upto_region 9 with fail
      rw [HW5.out]
      go_wp2_with (at_builtin; refine stopw ?_)
      rw [HW6.out]
      unfold Hid
      refine wpList_catG elemBytes rfl _ _ rfl rfl rfl HO.out HI.out HL.out HZ3.out (by have := HLL.out; simp only [List.length_nil]; omega) (by omega) ?_
      intro v7 w7 hown hgr
      simp only [List.nil_append] at hown
      have HB7 := hide (HB.out.trans (hown.bel.mono HBW.out.size))
      have HQ7 := hide (HQ.out.same (hown.bel.block _ HQL.out))
      have HO7 := hide hown.now
      obtain ⟨A7, c7, rfl, -⟩ := hown.form2
      rw [HL.out] at HO7 ⊢
      obtain ⟨W8, hW8⟩ : ∃ W8, w7.alloc (.cells #[.int .u8 (mo : Int)] 5) = W8 := ⟨_, rfl⟩
      have hb : Below w7.heap.size w7 W8 := by rw [← hW8]; exact new1W _ _
      have HI8 : Hid (Ints .u8 W8 (some ⟨w7.heap.size, 0, none⟩) [(mo : Int)]) := by unfold Hid; rw [← hW8]; exact Ints.new .u8 w7 5 [(mo : Int)]
      have HO8 := hide (HO7.out.later hb)
      have HW8 := hide hW8
      clear hW8 hb hown hgr HB HQ HO HW6 HW5
      go_wp2_with (at_builtin; refine stopw ?_)
      rw [HW8.out]
      unfold Hid
      refine wpList_catG elemBytes rfl _ _ rfl rfl rfl HO8.out HI8.out rfl (fun z => by cases z) (by have := HLL.out; have := HL.out; omega) (by omega) ?_
      intro v9 w9 hown hgr
      have HB := hide (HB7.out.trans (hown.bel.mono HBW.out.size))
      have HQ := hide (HQ7.out.same (hown.bel.block _ HQL.out))
      obtain ⟨A9, c9, rfl, hi, hcap, hz9, -⟩ := hown.form2
      rw [HLM.out] at hcap ⊢
      have HI9 := hide hi
      have HC9 := hide hcap
      have HZ9 := hide hz9
      clear hown hgr hi hcap hz9 HO7 HO8 HI8 HW8 HB7 HQ7
      go_wp2_with fail
      refine (frparse_any A9 (L + 1) c9 (X ++ [(mo : Int)]) _ HI9.out HLM.out HZ9.out HC9.out (by have := HLL.out; omega) HBM.out (HS.out.below HB.out)).mono ?_
      rintro e w10 hp
      rw [HPM.out] at hp
      obtain ⟨A10, c10, rfl, hb⟩ := parsefs_zero hp
      clear hp
      replace HB := hide (HB.out.trans (hb.mono HB.out.size))
      replace HQ := hide (HQ.out.later hb)
      clear hb
      obtain ⟨W11, hW11⟩ : ∃ W11, w10.alloc (.cells #[.int .u64 0, .int .u64 0, .int .u64 0, .int .u64 0, .int .i64 0, .int .i64 0, .int .i64 0, .int .i64 0, .slice A10 0 c10] 28) = W11 := ⟨_, rfl⟩
      have hb : Below w10.heap.size w10 W11 := by rw [← hW11]; exact new1W _ _
      have HR : Hid (Whole W11 w10.heap.size 28 [.int .u64 0, .int .u64 0, .int .u64 0, .int .u64 0, .int .i64 0, .int .i64 0, .int .i64 0, .int .i64 0, .slice A10 0 c10]) := by unfold Hid; rw [← hW11]; exact Whole.new w10 28 [.int .u64 0, .int .u64 0, .int .u64 0, .int .u64 0, .int .i64 0, .int .i64 0, .int .i64 0, .int .i64 0, .slice A10 0 c10]
      have HW11 := hide hW11
      clear hW11
      replace HB := hide (HB.out.trans (hb.mono HB.out.size))
      replace HQ := hide (HQ.out.later hb)
      clear hb
      go_wp2_with fail
      rw [HW11.out]
      refine (frknown_any W11 (HS.out.below HB.out)).mono ?_
      rintro e w12 ⟨rfl, hb⟩
      replace HB := hide (HB.out.trans (hb.mono HB.out.size))
      replace HQ := hide (HQ.out.later hb)
      replace HR := hide (HR.out.later hb)
      clear hb
      obtain ⟨g0, g1, g2, g3, g4, g5, g6, g7, g8, lg⟩ := cells9 HQ.out
      go_wp2_with fail
      refine (zfsame_any A4 c4 _).mono ?_
      rintro e w13 ⟨rfl, hb⟩
      clear g0 g1 g2 g3 g4 g5 g6 g7 g8 lg
      replace HB := hide (HB.out.trans (hb.mono HB.out.size))
      replace HQ := hide (HQ.out.later hb)
      replace HR := hide (HR.out.later hb)
      clear hb
      obtain ⟨g0, g1, g2, g3, g4, g5, g6, g7, g8, lg⟩ := cells9 HR.out
      go_wp2_with fail
      refine (zfsame_any A10 c10 _).mono ?_
      rintro e w14 ⟨rfl, hb⟩
      clear g0 g1 g2 g3 g4 g5 g6 g7 g8 lg
      replace HB := hide (HB.out.trans (hb.mono HB.out.size))
      replace HQ := hide (HQ.out.later hb)
      replace HR := hide (HR.out.later hb)
      clear hb
      go_wp2
      go_ret
      exact ⟨rfl, HB.out⟩
    · have r0 : ((Rr : Int) == 0) = false := by simp; omega
      rw [if_neg hr] at HPE
      clear hr
      go_wp2_with fail
      refine (frparse_any A3 Rr c3 (X.take Rr) _ HIT.out HLT.out HZ3.out (by have := HCAP.out; have := HRL.out; omega) (by have := HRL.out; have := HLL.out; omega) HBY.out (HS.out.below HB.out)).mono ?_
      rintro e w4 hp
      rw [HPE.out] at hp
      obtain ⟨A4, c4, rfl, hb⟩ := parsefs_zero hp
      clear hp
      replace HB := hide (HB.out.trans (hb.mono HB.out.size))
      replace HI := hide (HI.out.below hb)
      clear hb
      obtain ⟨W5, hW5⟩ : ∃ W5, w4.alloc (.cells #[.int .u64 0, .int .u64 0, .int .u64 0, .int .u64 0, .int .i64 0, .int .i64 0, .int .i64 0, .int .i64 0, .slice A4 0 c4] 28) = W5 := ⟨_, rfl⟩
      have hb : Below w4.heap.size w4 W5 := by rw [← hW5]; exact new1W _ _
      have HQ : Hid (Whole W5 w4.heap.size 28 [.int .u64 0, .int .u64 0, .int .u64 0, .int .u64 0, .int .i64 0, .int .i64 0, .int .i64 0, .int .i64 0, .slice A4 0 c4]) := by unfold Hid; rw [← hW5]; exact Whole.new w4 28 [.int .u64 0, .int .u64 0, .int .u64 0, .int .u64 0, .int .i64 0, .int .i64 0, .int .i64 0, .int .i64 0, .slice A4 0 c4]
      have HW5 := hide hW5
      clear hW5
      replace HB := hide (HB.out.trans (hb.mono HB.out.size))
      replace HI := hide (HI.out.below hb)
      clear hb
      obtain ⟨W6, hW6⟩ : ∃ W6, W5.alloc (.cells #[] 5) = W6 := ⟨_, rfl⟩
      have hb : Below W5.heap.size W5 W6 := by rw [← hW6]; exact new1W _ _
      have HO : Hid (Own 5 .u8 W5.heap.size W6 W6 (.slice (some ⟨W5.heap.size, 0, none⟩) 0 0) []) := by unfold Hid; rw [← hW6]; exact (Own.lit W5 5 .u8 [] 0 rfl (by omega)).now
      have HBW := hide HB.out
      have HQL : Hid (w4.heap.size < W5.heap.size) := HQ.out.lt
      have HW6 := hide hW6
      clear hW6
      replace HB := hide (HB.out.trans (hb.mono HB.out.size))
      replace HI := hide (HI.out.below hb)
      replace HQ := hide (HQ.out.later hb)
      clear hb
      go_upto_region 9 with fail
      rw [HW5.out]
      go_wp2_with (at_builtin; refine stopw ?_)
      rw [HW6.out]
      unfold Hid
      refine wpList_catG elemBytes rfl _ _ rfl rfl rfl HO.out HI.out HL.out HZ3.out (by have := HLL.out; simp only [List.length_nil]; omega) (by omega) ?_
      intro v7 w7 hown hgr
      simp only [List.nil_append] at hown
      have HB7 := hide (HB.out.trans (hown.bel.mono HBW.out.size))
      have HQ7 := hide (HQ.out.same (hown.bel.block _ HQL.out))
      have HO7 := hide hown.now
      obtain ⟨A7, c7, rfl, -⟩ := hown.form2
      rw [HL.out] at HO7 ⊢
      obtain ⟨W8, hW8⟩ : ∃ W8, w7.alloc (.cells #[.int .u8 (mo : Int)] 5) = W8 := ⟨_, rfl⟩
      have hb : Below w7.heap.size w7 W8 := by rw [← hW8]; exact new1W _ _
      have HI8 : Hid (Ints .u8 W8 (some ⟨w7.heap.size, 0, none⟩) [(mo : Int)]) := by unfold Hid; rw [← hW8]; exact Ints.new .u8 w7 5 [(mo : Int)]
      have HO8 := hide (HO7.out.later hb)
      have HW8 := hide hW8
      clear hW8 hb hown hgr HB HQ HO HW6 HW5
      go_wp2_with (at_builtin; refine stopw ?_)
      rw [HW8.out]
      unfold Hid
      refine wpList_catG elemBytes rfl _ _ rfl rfl rfl HO8.out HI8.out rfl (fun z => by cases z) (by have := HLL.out; have := HL.out; omega) (by omega) ?_
      intro v9 w9 hown hgr
      have HB := hide (HB7.out.trans (hown.bel.mono HBW.out.size))
      have HQ := hide (HQ7.out.same (hown.bel.block _ HQL.out))
      obtain ⟨A9, c9, rfl, hi, hcap, hz9, -⟩ := hown.form2
      rw [HLM.out] at hcap ⊢
      have HI9 := hide hi
      have HC9 := hide hcap
      have HZ9 := hide hz9
      clear hown hgr hi hcap hz9 HO7 HO8 HI8 HW8 HB7 HQ7
      go_wp2_with fail
      refine (frparse_any A9 (L + 1) c9 (X ++ [(mo : Int)]) _ HI9.out HLM.out HZ9.out HC9.out (by have := HLL.out; omega) HBM.out (HS.out.below HB.out)).mono ?_
      rintro e w10 hp
      rw [HPM.out] at hp
      obtain ⟨A10, c10, rfl, hb⟩ := parsefs_zero hp
      clear hp
      replace HB := hide (HB.out.trans (hb.mono HB.out.size))
      replace HQ := hide (HQ.out.later hb)
      clear hb
      obtain ⟨W11, hW11⟩ : ∃ W11, w10.alloc (.cells #[.int .u64 0, .int .u64 0, .int .u64 0, .int .u64 0, .int .i64 0, .int .i64 0, .int .i64 0, .int .i64 0, .slice A10 0 c10] 28) = W11 := ⟨_, rfl⟩
      have hb : Below w10.heap.size w10 W11 := by rw [← hW11]; exact new1W _ _
      have HR : Hid (Whole W11 w10.heap.size 28 [.int .u64 0, .int .u64 0, .int .u64 0, .int .u64 0, .int .i64 0, .int .i64 0, .int .i64 0, .int .i64 0, .slice A10 0 c10]) := by unfold Hid; rw [← hW11]; exact Whole.new w10 28 [.int .u64 0, .int .u64 0, .int .u64 0, .int .u64 0, .int .i64 0, .int .i64 0, .int .i64 0, .int .i64 0, .slice A10 0 c10]
      have HW11 := hide hW11
      clear hW11
      replace HB := hide (HB.out.trans (hb.mono HB.out.size))
      replace HQ := hide (HQ.out.later hb)
      clear hb
      go_wp2_with fail
      rw [HW11.out]
      refine (frknown_any W11 (HS.out.below HB.out)).mono ?_
      rintro e w12 ⟨rfl, hb⟩
      replace HB := hide (HB.out.trans (hb.mono HB.out.size))
      replace HQ := hide (HQ.out.later hb)
      replace HR := hide (HR.out.later hb)
      clear hb
      obtain ⟨g0, g1, g2, g3, g4, g5, g6, g7, g8, lg⟩ := cells9 HQ.out
      go_wp2_with fail
      refine (zfsame_any A4 c4 _).mono ?_
      rintro e w13 ⟨rfl, hb⟩
      clear g0 g1 g2 g3 g4 g5 g6 g7 g8 lg
      replace HB := hide (HB.out.trans (hb.mono HB.out.size))
      replace HQ := hide (HQ.out.later hb)
      replace HR := hide (HR.out.later hb)
      clear hb
      obtain ⟨g0, g1, g2, g3, g4, g5, g6, g7, g8, lg⟩ := cells9 HR.out
      go_wp2_with fail
      refine (zfsame_any A10 c10 _).mono ?_
      rintro e w14 ⟨rfl, hb⟩
      clear g0 g1 g2 g3 g4 g5 g6 g7 g8 lg
      replace HB := hide (HB.out.trans (hb.mono HB.out.size))
      replace HQ := hide (HQ.out.later hb)
      replace HR := hide (HR.out.later hb)
      clear hb
      go_wp2
      go_ret
      exact ⟨rfl, HB.out⟩
  · have y1 : (Y != 0) = true := by simpa using hy
    clear hy
    go_wp2_with fail
    refine (frknown_any _ (HS.out.below HB.out)).mono ?_
    rintro e w6 ⟨rfl, hb⟩
    replace HB := hide (HB.out.trans (hb.mono HB.out.size))
    clear hb
    go_wp2
    go_ret
    exact ⟨rfl, HB.out⟩
end Go.Proofs.YtcbdokocnjoilaaDoor
