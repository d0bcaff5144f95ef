/-
  The walk of the law FrameParses.
-/
import Derived.Test.YtcbdokocnjoilaaDoorFrWalkB
import Derived.Test.YtcbdokocnjoilaaDoorFrRef
import Derived.Test.YtcbdokocnjoilaaDoorB14
import Derived.Test.YtcbdokocnjoilaaDoorB2
namespace Go.Proofs.YtcbdokocnjoilaaDoor
set_option maxRecDepth 100000
open Go.ChangeShapes Go.WideShapes Go.ChangeAt Go.RowKit
set_option linter.unusedVariables false

/-- What is known of a difference that was read. -/
structure DfGood (d : Df) : Prop where
  many : d.ss.length ≤ 512
  each : ∀ s ∈ d.ss, s.cs.length ≤ 1000000
  lb : ∀ s ∈ d.ss, LB s.cs
theorem good_fine {d : Df} (h : checkDe d = 0) : DfGood d := by
  have hf := (fine_of h).2
  exact ⟨hf.many, fun s hs => Nat.le_trans (hf.each s hs).len (by omega), fun s hs => all_LB (hf.each s hs).right⟩
theorem good_zero : DfGood zeroD := ⟨Nat.zero_le _, (fun s hs => by cases hs), (fun s hs => by cases hs)⟩
theorem good_take {xs : List Int} {s : Nat × Int} (hb : Byte xs) : DfGood (takeDe xs s).2 := by
  by_cases q : (takeDe xs s).1.2 = 0
  · exact good_fine (takeDe_back hb q).2.1
  · have : (takeDe xs s).2 = zeroD := by
      unfold takeDe at q ⊢
      simp only at q ⊢
      rw [if_neg q]
    rw [this]
    exact good_zero
theorem good_frame {xs : List Int} (hb : Byte xs) : DfGood (parseFm xs).1.d := by
  unfold parseFm
  split
  · exact good_zero
  · split
    · split
      · exact good_take hb
      · exact good_zero
    · exact good_zero
set_option maxHeartbeats 8000000 in
theorem frameParses_walk (A : Option Addr) (len cap : Nat) (zs : List Int) (w : World) (hrow : IsRow .u8 w A len cap zs) (hS : Spans w) :
    Calls Tryd.prog 3 #[.slice A len cap] w fun e w' => e = .returned (.bool true) ∧ Below w.heap.size w w' := by
  obtain ⟨hz, hl, hn0, hmaxl⟩ := hrow.len
  have hmax := hmaxl
  unfold maxLen at hmax
  obtain ⟨M, hM⟩ : ∃ M, min len 300 = M := ⟨_, rfl⟩
  have em : min (len : Int) 300 = (M : Int) := by omega
  have hM1 : M ≤ len := by omega
  have hM2 : M ≤ 300 := by omega
  have hM3 : M ≤ cap := by omega
  obtain ⟨xs, hxs⟩ : ∃ xs, zs.take M = xs := ⟨_, rfl⟩
  have HI : Hid (Ints .u8 w A xs) := by unfold Hid; rw [← hxs]; exact hrow.ints.take M
  have HN : Hid (xs.length = M) := by unfold Hid; rw [← hxs, List.length_take]; omega
  have HBY : Hid (Byte xs) := by unfold Hid; rw [← hxs]; exact byte_of hrow.wf M
  have HA0 := hide hn0
  have HS := hide hS
  have hgp := good_frame HBY.out
  obtain ⟨⟨ps, D⟩, hPX⟩ : ∃ X, parseFm xs = X := ⟨_, rfl⟩
  rw [hPX] at hgp
  simp only at hgp
  have HPX := hide hPX
  have HGP := hide hgp
  obtain ⟨n5, hn5⟩ : ∃ n, ps.d.ss.length = n := ⟨_, rfl⟩
  have HPN := hide hn5
  have HPM : Hid (n5 ≤ 1000000) := by unfold Hid; have := hgp.many; omega
  have hcz : M = 0 ∨ ∃ b off x q, A = some ⟨b, off, none⟩ ∧ 0 < M ∧ (x == (70 : Int)) = q ∧ decide (xs.head? = some 70) = q ∧ ∀ w', Below w.heap.size w w' → w'.cell? ⟨b, off, none⟩ = some (.int .u8 x) := by
    rcases Nat.eq_zero_or_pos M with h0 | h0
    · exact .inl h0
    · right
      obtain ⟨b, off, hA, hcx, hbx⟩ := HI.out.at (i := 0) (by rw [HN.out]; exact h0)
      refine ⟨b, off, xs.getD 0 0, _, hA, h0, rfl, ?_, fun w' hb => ?_⟩
      · cases xs with
        | nil => have := HN.out; simp at this; omega
        | cons y ys => simp [Bool.beq_eq_decide_eq]
      · rw [Nat.add_zero] at hcx
        exact (hb.cell (p := ⟨b, off, none⟩) hbx).trans hcx
  have HCZ := hide hcz
  clear hz hn0 hmaxl hM hxs hrow hS hgp hPX hn5 hcz
  go_enter Tryd.func3, Tryd.ntmps3
  go_wp2_with fail
  refine (frparse_any A M cap xs w HI.out HN.out HA0.out hM3 (by omega) HBY.out HS.out).mono ?_
  rw [HPX.out]
  rintro e u1 ⟨A5, c5, rfl, hc, hb⟩
  simp only at hc
  simp only
  rw [HPN.out]
  obtain ⟨w1, hw1⟩ : ∃ w1, u1.alloc (.cells #[.int .u64 ps.num, .int .u64 ps.base, .int .u64 ps.echo, .int .u64 ps.stamp, .int .i64 ps.d.rows, .int .i64 ps.d.cols, .int .i64 ps.d.row, .int .i64 ps.d.col, .slice A5 n5 c5] 28) = w1 := ⟨_, rfl⟩
  have hb' : Below u1.heap.size u1 w1 := by rw [← hw1]; exact new1W _ _
  have HQ5 : Hid (Whole w1 u1.heap.size 28 [.int .u64 ps.num, .int .u64 ps.base, .int .u64 ps.echo, .int .u64 ps.stamp, .int .i64 ps.d.rows, .int .i64 ps.d.cols, .int .i64 ps.d.row, .int .i64 ps.d.col, .slice A5 n5 c5]) := by unfold Hid; rw [← hw1]; exact Whole.new u1 28 [.int .u64 ps.num, .int .u64 ps.base, .int .u64 ps.echo, .int .u64 ps.stamp, .int .i64 ps.d.rows, .int .i64 ps.d.cols, .int .i64 ps.d.row, .int .i64 ps.d.col, .slice A5 n5 c5]
  have HB1 := hide (hb.trans (hb'.mono hb.size))
  have HI1 := hide (HI.out.below HB1.out)
  have HP1 := hide (hc.below hb')
  have HW1 := hide hw1
  clear hb hc hb' hw1
  go_wp2_with fail
  rw [HW1.out]
  refine (rfrparse_any A M cap xs w1 HI1.out HN.out hM3 (by omega) HBY.out).mono ?_
  rw [HPX.out]
  rintro e u2 ⟨A7, c7, rfl, hc, hb⟩
  simp only at hc
  simp only
  rw [HPN.out]
  obtain ⟨w2, hw2⟩ : ∃ w2, u2.alloc (.cells #[.int .u64 ps.num, .int .u64 ps.base, .int .u64 ps.echo, .int .u64 ps.stamp, .int .i64 ps.d.rows, .int .i64 ps.d.cols, .int .i64 ps.d.row, .int .i64 ps.d.col, .slice A7 n5 c7] 36) = w2 := ⟨_, rfl⟩
  have hb' : Below u2.heap.size u2 w2 := by rw [← hw2]; exact new1W _ _
  have HQ7 : Hid (Whole w2 u2.heap.size 36 [.int .u64 ps.num, .int .u64 ps.base, .int .u64 ps.echo, .int .u64 ps.stamp, .int .i64 ps.d.rows, .int .i64 ps.d.cols, .int .i64 ps.d.row, .int .i64 ps.d.col, .slice A7 n5 c7]) := by unfold Hid; rw [← hw2]; exact Whole.new u2 36 [.int .u64 ps.num, .int .u64 ps.base, .int .u64 ps.echo, .int .u64 ps.stamp, .int .i64 ps.d.rows, .int .i64 ps.d.cols, .int .i64 ps.d.row, .int .i64 ps.d.col, .slice A7 n5 c7]
  have HV2 := hide (hb.trans (hb'.mono hb.size))
  have HE2 := hide (hc.below hb')
  have HW2 := hide hw2
  clear hb hc hb' hw2
  have e0 : (D != D) = false := by simp
  go_upto_region 4 with fail
  rw [HW2.out]
  clear HW1 HW2 HI1
  rcases HCZ.out with hM0 | ⟨b, off, x, q, rfl, hM0, hxq, hhq, hcell⟩
  · have hxn : xs = [] := List.eq_nil_of_length_eq_zero (HN.out.trans hM0)
    have e4 : decide (0 < M) = false := decide_eq_false (by omega)
    have HQQ : Hid (decide (xs.head? = some 70) = false) := by unfold Hid; rw [hxn]; rfl
    clear hxn HCZ hM0
    refine rgH (fun w' => Whole w' u1.heap.size 28 [.int .u64 ps.num, .int .u64 ps.base, .int .u64 ps.echo, .int .u64 ps.stamp, .int .i64 ps.d.rows, .int .i64 ps.d.cols, .int .i64 ps.d.row, .int .i64 ps.d.col, .slice A5 n5 c5] ∧ Whole w' u2.heap.size 36 [.int .u64 ps.num, .int .u64 ps.base, .int .u64 ps.echo, .int .u64 ps.stamp, .int .i64 ps.d.rows, .int .i64 ps.d.cols, .int .i64 ps.d.row, .int .i64 ps.d.col, .slice A7 n5 c7]) [(true, 0), (false, 1), (false, 2), (false, 3), (true, 4), (true, 6), (false, 5), (false, 7), (false, 8), (false, 9), (false, 10), (true, 11), (true, 13), (true, 14), (true, 15), (false, 12), (false, 16), (false, 17), (false, 18), (false, 19), (false, 20), (false, 21), (false, 22), (false, 23)] (⟨HQ5.out.later (HV2.out.trans (((Below.refl w2.heap.size w2).drewN 1).mono HV2.out.size)), HQ7.out.later ((Below.refl _ _).drewN 1)⟩) ?_
    have B0 : Hid (Below w2.heap.size w2 w2.drew) := (Below.refl _ _).drewN 1
    generalize w2.drew = k0 at *
    refine stH (h := ?_)
    refine alH fun K hK => ?_
    go_wp2
    refine hK.out _ _ (⟨HQ5.out.later (HV2.out.trans (B0.out.mono HV2.out.size)), HQ7.out.later B0.out⟩) ?_
    clear hK K
    refine alH fun K hK => ?_
    go_wp2
    refine hK.out _ _ (⟨HQ5.out.later (HV2.out.trans (B0.out.mono HV2.out.size)), HQ7.out.later B0.out⟩) ?_
    clear hK K
    refine alH fun K hK => ?_
    go_wp2
    refine hK.out _ _ (⟨HQ5.out.later (HV2.out.trans (B0.out.mono HV2.out.size)), HQ7.out.later B0.out⟩) ?_
    clear hK K
    refine stH (hy := fun w hS => by obtain ⟨f0, f1, f2, f3, f4, f5, f6, f7, f8, -⟩ := cells9 hS.1; go_simp <;> with_reducible rfl) (h := ?_)
    refine stH (hy := fun w hS => by obtain ⟨f0, f1, f2, f3, f4, f5, f6, f7, f8, -⟩ := cells9 hS.2; go_simp <;> with_reducible rfl) (h := ?_)
    refine alH fun K hK => ?_
    go_wp2_with fail
    refine (frof_any 0 88 127 ps A5 n5 c5 k0 ((HP1.out.below HV2.out).below B0.out).sps (Nat.zero_le _) HPN.out HPM.out HGP.out.each HGP.out.lb).mono ?_
    rintro e k1 ⟨A8, c8, rfl, hd, hb⟩
    rw [HPN.out]
    have B1 := hide (B0.out.trans (hb.mono B0.out.size))
    have HD8 := hide hd
    clear hd hb
    go_wp2
    refine hK.out _ _ (⟨HQ5.out.later (HV2.out.trans (B1.out.mono HV2.out.size)), HQ7.out.later B1.out⟩) ?_
    clear hK K
    refine alH fun K hK => ?_
    go_wp2_with fail
    refine (rfrsame_any 0 0 81 118 81 118 ps ps A8 A7 n5 n5 c8 c7 k1 HD8.out.sps (HE2.out.below B1.out).sps (Nat.zero_le _) (Nat.zero_le _) HPN.out HPN.out HPM.out HGP.out.each).mono ?_
    rintro e k2 ⟨rfl, hb⟩
    rw [fm_self]
    have B2 := hide (B1.out.trans (hb.mono B1.out.size))
    clear hb
    go_wp2
    refine hK.out _ _ (⟨HQ5.out.later (HV2.out.trans (B2.out.mono HV2.out.size)), HQ7.out.later B2.out⟩) ?_
    clear hK K
    refine alH fun K hK => ?_
    go_wp2
    refine hK.out _ _ (⟨HQ5.out.later (HV2.out.trans (B2.out.mono HV2.out.size)), HQ7.out.later B2.out⟩) ?_
    clear hK K
    refine alH fun K hK => ?_
    go_wp2
    refine hK.out _ _ (⟨HQ5.out.later (HV2.out.trans (B2.out.mono HV2.out.size)), HQ7.out.later B2.out⟩) ?_
    clear hK K
    refine alH fun K hK => ?_
    go_wp2
    refine hK.out _ _ (⟨HQ5.out.later (HV2.out.trans (B2.out.mono HV2.out.size)), HQ7.out.later B2.out⟩) ?_
    clear hK K
    iterate 4 refine stH (h := ?_)
    try rw [e4]
    refine alH fun K hK => ?_
    go_wp2_with fail
    refine (fris_any A M cap xs k2 (HI.out.below (HB1.out.trans ((HV2.out.trans (B2.out.mono HV2.out.size)).mono HB1.out.size))) HN.out).mono ?_
    rintro e kz ⟨rfl, rfl⟩
    rw [HQQ.out]
    go_wp2
    refine hK.out _ _ (⟨HQ5.out.later (HV2.out.trans (B2.out.mono HV2.out.size)), HQ7.out.later B2.out⟩) ?_
    clear hK K
    refine alH fun K hK => ?_
    go_wp2
    refine hK.out _ _ (⟨HQ5.out.later (HV2.out.trans (B2.out.mono HV2.out.size)), HQ7.out.later B2.out⟩) ?_
    clear hK K
    iterate 4 refine paH (⟨HQ5.out.later (HV2.out.trans (B2.out.mono HV2.out.size)), HQ7.out.later B2.out⟩) (h := ?_)
    refine alH fun K hK => ?_
    go_wp2
    refine hK.out _ _ (⟨HQ5.out.later (HV2.out.trans (B2.out.mono HV2.out.size)), HQ7.out.later B2.out⟩) ?_
    clear hK K
    refine alH fun K hK => ?_
    go_wp2
    refine hK.out _ _ (⟨HQ5.out.later (HV2.out.trans (B2.out.mono HV2.out.size)), HQ7.out.later B2.out⟩) ?_
    clear hK K
    refine alH fun K hK => ?_
    go_wp2
    refine hK.out _ _ (⟨HQ5.out.later (HV2.out.trans (B2.out.mono HV2.out.size)), HQ7.out.later B2.out⟩) ?_
    clear hK K
    refine chainH_nil ?_
    have HVf := hide (HV2.out.trans (B2.out.mono HV2.out.size))
    have HBf := hide (HB1.out.trans (HVf.out.mono HB1.out.size))
    clear B0 B1 B2 HD8
    by_cases hD : D = 0
    · have d1 : (D != 0) = false := by simpa using hD
      obtain ⟨b1, b2, b3⟩ := parseFm_back (xs := xs) HBY.out (by rw [HPX.out]; exact hD)
      rw [HPX.out] at b1 b2 b3
      simp only at b1 b2 b3
      have HSZ : Hid ((bytesSs ps.d.ss).length ≤ 300000) := by
        unfold Hid
        have h1 := congrArg List.length b1
        unfold bytesFm at h1
        rw [bytesDe_head] at h1
        simp only [List.length_cons, List.length_append] at h1
        rw [HN.out] at h1
        omega
      have BK := hide (frbytes_any 0 88 127 ps A5 n5 c5 k2 b3 (HP1.out.below HVf.out).sps (Nat.zero_le _) HPN.out HPM.out HGP.out.lb HSZ.out (HS.out.below HBf.out))
      have HB1E := hide b1
      have HB2E := hide b2
      clear hD b1 b2 b3
      obtain ⟨g0, g1, g2, g3, g4, g5, g6, g7, g8, lg⟩ := cells9 (HQ5.out.later HVf.out)
      go_wp2_with fail
      refine BK.out.mono ?_
      clear BK
      rintro e v1 ⟨v, he, ho⟩
      rw [HB2E.out] at he ho
      rw [if_pos rfl, HB1E.out] at ho
      subst he
      obtain ⟨Ab, cb, rfl, hi, -⟩ := ho.form2
      have hb := ho.bel
      rw [HN.out]
      have HI1' := hide hi
      have HV1' := hide (HBf.out.trans (hb.mono HBf.out.size))
      clear hi hb ho
      clear g0 g1 g2 g3 g4 g5 g6 g7 g8 lg
      go_wp2_with fail
      refine (frknown_any v1 (HS.out.below HV1'.out)).mono ?_
      rintro e v2 ⟨rfl, hb⟩
      have HI2' := hide (HI1'.out.below hb)
      have HV2' := hide (HV1'.out.trans (hb.mono HV1'.out.size))
      clear hb
      go_wp2_with fail
      refine (nu_same_yes Ab A M cb cap xs v2 HI2'.out (HI.out.below HV2'.out) HN.out HBY.out).mono ?_
      rintro e v3 ⟨rfl, rfl⟩
      go_wp2
      go_ret
      exact ⟨rfl, HV2'.out⟩
    · have d1 : (D != 0) = true := by simpa using hD
      clear hD
      go_wp2_with fail
      refine (frknown_any _ (HS.out.below HBf.out)).mono ?_
      rintro e v2 ⟨rfl, hb⟩
      have HV2' := hide (HBf.out.trans (hb.mono HBf.out.size))
      clear hb
      go_wp2
      go_ret
      exact ⟨rfl, HV2'.out⟩
  · have HQQ := hide hhq
    have HCX := hide hcell
    have e3 : (q != q) = false := by simp
    have e4 : decide (0 < M) = true := decide_eq_true hM0
    clear hhq hcell HCZ
    refine rgH (fun w' => Whole w' u1.heap.size 28 [.int .u64 ps.num, .int .u64 ps.base, .int .u64 ps.echo, .int .u64 ps.stamp, .int .i64 ps.d.rows, .int .i64 ps.d.cols, .int .i64 ps.d.row, .int .i64 ps.d.col, .slice A5 n5 c5] ∧ Whole w' u2.heap.size 36 [.int .u64 ps.num, .int .u64 ps.base, .int .u64 ps.echo, .int .u64 ps.stamp, .int .i64 ps.d.rows, .int .i64 ps.d.cols, .int .i64 ps.d.row, .int .i64 ps.d.col, .slice A7 n5 c7]) [(true, 0), (false, 1), (false, 2), (false, 3), (true, 4), (true, 6), (false, 5), (false, 7), (false, 8), (false, 9), (false, 10), (true, 11), (true, 13), (true, 14), (true, 15), (false, 12), (false, 16), (false, 17), (false, 18), (false, 19), (false, 20), (false, 21), (false, 22), (false, 23)] (⟨HQ5.out.later (HV2.out.trans (((Below.refl w2.heap.size w2).drewN 1).mono HV2.out.size)), HQ7.out.later ((Below.refl _ _).drewN 1)⟩) ?_
    have B0 : Hid (Below w2.heap.size w2 w2.drew) := (Below.refl _ _).drewN 1
    generalize w2.drew = k0 at *
    refine stH (h := ?_)
    refine alH fun K hK => ?_
    go_wp2
    refine hK.out _ _ (⟨HQ5.out.later (HV2.out.trans (B0.out.mono HV2.out.size)), HQ7.out.later B0.out⟩) ?_
    clear hK K
    refine alH fun K hK => ?_
    go_wp2
    refine hK.out _ _ (⟨HQ5.out.later (HV2.out.trans (B0.out.mono HV2.out.size)), HQ7.out.later B0.out⟩) ?_
    clear hK K
    refine alH fun K hK => ?_
    go_wp2
    refine hK.out _ _ (⟨HQ5.out.later (HV2.out.trans (B0.out.mono HV2.out.size)), HQ7.out.later B0.out⟩) ?_
    clear hK K
    refine stH (hy := fun w hS => by obtain ⟨f0, f1, f2, f3, f4, f5, f6, f7, f8, -⟩ := cells9 hS.1; go_simp <;> with_reducible rfl) (h := ?_)
    refine stH (hy := fun w hS => by obtain ⟨f0, f1, f2, f3, f4, f5, f6, f7, f8, -⟩ := cells9 hS.2; go_simp <;> with_reducible rfl) (h := ?_)
    refine alH fun K hK => ?_
    go_wp2_with fail
    refine (frof_any 0 88 127 ps A5 n5 c5 k0 ((HP1.out.below HV2.out).below B0.out).sps (Nat.zero_le _) HPN.out HPM.out HGP.out.each HGP.out.lb).mono ?_
    rintro e k1 ⟨A8, c8, rfl, hd, hb⟩
    rw [HPN.out]
    have B1 := hide (B0.out.trans (hb.mono B0.out.size))
    have HD8 := hide hd
    clear hd hb
    go_wp2
    refine hK.out _ _ (⟨HQ5.out.later (HV2.out.trans (B1.out.mono HV2.out.size)), HQ7.out.later B1.out⟩) ?_
    clear hK K
    refine alH fun K hK => ?_
    go_wp2_with fail
    refine (rfrsame_any 0 0 81 118 81 118 ps ps A8 A7 n5 n5 c8 c7 k1 HD8.out.sps (HE2.out.below B1.out).sps (Nat.zero_le _) (Nat.zero_le _) HPN.out HPN.out HPM.out HGP.out.each).mono ?_
    rintro e k2 ⟨rfl, hb⟩
    rw [fm_self]
    have B2 := hide (B1.out.trans (hb.mono B1.out.size))
    clear hb
    go_wp2
    refine hK.out _ _ (⟨HQ5.out.later (HV2.out.trans (B2.out.mono HV2.out.size)), HQ7.out.later B2.out⟩) ?_
    clear hK K
    refine alH fun K hK => ?_
    go_wp2
    refine hK.out _ _ (⟨HQ5.out.later (HV2.out.trans (B2.out.mono HV2.out.size)), HQ7.out.later B2.out⟩) ?_
    clear hK K
    refine alH fun K hK => ?_
    go_wp2
    refine hK.out _ _ (⟨HQ5.out.later (HV2.out.trans (B2.out.mono HV2.out.size)), HQ7.out.later B2.out⟩) ?_
    clear hK K
    refine alH fun K hK => ?_
    go_wp2
    refine hK.out _ _ (⟨HQ5.out.later (HV2.out.trans (B2.out.mono HV2.out.size)), HQ7.out.later B2.out⟩) ?_
    clear hK K
    iterate 4 refine stH (h := ?_)
    try rw [e4]
    refine alH fun K hK => ?_
    go_wp2_with fail
    refine (fris_any (some ⟨b, off, none⟩) M cap xs k2 (HI.out.below (HB1.out.trans ((HV2.out.trans (B2.out.mono HV2.out.size)).mono HB1.out.size))) HN.out).mono ?_
    rintro e kz ⟨rfl, rfl⟩
    rw [HQQ.out]
    go_wp2
    refine hK.out _ _ (⟨HQ5.out.later (HV2.out.trans (B2.out.mono HV2.out.size)), HQ7.out.later B2.out⟩) ?_
    clear hK K
    refine alH fun K hK => ?_
    go_wp2
    refine hK.out _ _ (⟨HQ5.out.later (HV2.out.trans (B2.out.mono HV2.out.size)), HQ7.out.later B2.out⟩) ?_
    clear hK K
    have hcx := HCX.out k2 (HB1.out.trans ((HV2.out.trans (B2.out.mono HV2.out.size)).mono HB1.out.size))
    refine alH fun K hK => ?_
    go_wp2
    refine hK.out _ _ (⟨HQ5.out.later (HV2.out.trans (B2.out.mono HV2.out.size)), HQ7.out.later B2.out⟩) ?_
    clear hK K
    refine alH fun K hK => ?_
    go_wp2
    refine hK.out _ _ (⟨HQ5.out.later (HV2.out.trans (B2.out.mono HV2.out.size)), HQ7.out.later B2.out⟩) ?_
    clear hK K
    refine alH fun K hK => ?_
    go_wp2
    refine hK.out _ _ (⟨HQ5.out.later (HV2.out.trans (B2.out.mono HV2.out.size)), HQ7.out.later B2.out⟩) ?_
    clear hK K
    refine alH fun K hK => ?_
    go_wp2
    refine hK.out _ _ (⟨HQ5.out.later (HV2.out.trans (B2.out.mono HV2.out.size)), HQ7.out.later B2.out⟩) ?_
    clear hK K
    refine alH fun K hK => ?_
    go_wp2
    refine hK.out _ _ (⟨HQ5.out.later (HV2.out.trans (B2.out.mono HV2.out.size)), HQ7.out.later B2.out⟩) ?_
    clear hK K
    refine alH fun K hK => ?_
    go_wp2
    refine hK.out _ _ (⟨HQ5.out.later (HV2.out.trans (B2.out.mono HV2.out.size)), HQ7.out.later B2.out⟩) ?_
    clear hK K
    refine alH fun K hK => ?_
    go_wp2
    refine hK.out _ _ (⟨HQ5.out.later (HV2.out.trans (B2.out.mono HV2.out.size)), HQ7.out.later B2.out⟩) ?_
    clear hK K
    clear hcx
    refine chainH_nil ?_
    have HVf := hide (HV2.out.trans (B2.out.mono HV2.out.size))
    have HBf := hide (HB1.out.trans (HVf.out.mono HB1.out.size))
    clear B0 B1 B2 HD8
    by_cases hD : D = 0
    · have d1 : (D != 0) = false := by simpa using hD
      obtain ⟨b1, b2, b3⟩ := parseFm_back (xs := xs) HBY.out (by rw [HPX.out]; exact hD)
      rw [HPX.out] at b1 b2 b3
      simp only at b1 b2 b3
      have HSZ : Hid ((bytesSs ps.d.ss).length ≤ 300000) := by
        unfold Hid
        have h1 := congrArg List.length b1
        unfold bytesFm at h1
        rw [bytesDe_head] at h1
        simp only [List.length_cons, List.length_append] at h1
        rw [HN.out] at h1
        omega
      have BK := hide (frbytes_any 0 88 127 ps A5 n5 c5 k2 b3 (HP1.out.below HVf.out).sps (Nat.zero_le _) HPN.out HPM.out HGP.out.lb HSZ.out (HS.out.below HBf.out))
      have HB1E := hide b1
      have HB2E := hide b2
      clear hD b1 b2 b3
      obtain ⟨g0, g1, g2, g3, g4, g5, g6, g7, g8, lg⟩ := cells9 (HQ5.out.later HVf.out)
      go_wp2_with fail
      refine BK.out.mono ?_
      clear BK
      rintro e v1 ⟨v, he, ho⟩
      rw [HB2E.out] at he ho
      rw [if_pos rfl, HB1E.out] at ho
      subst he
      obtain ⟨Ab, cb, rfl, hi, -⟩ := ho.form2
      have hb := ho.bel
      rw [HN.out]
      have HI1' := hide hi
      have HV1' := hide (HBf.out.trans (hb.mono HBf.out.size))
      clear hi hb ho
      clear g0 g1 g2 g3 g4 g5 g6 g7 g8 lg
      go_wp2_with fail
      refine (frknown_any v1 (HS.out.below HV1'.out)).mono ?_
      rintro e v2 ⟨rfl, hb⟩
      have HI2' := hide (HI1'.out.below hb)
      have HV2' := hide (HV1'.out.trans (hb.mono HV1'.out.size))
      clear hb
      go_wp2_with fail
      refine (nu_same_yes Ab (some ⟨b, off, none⟩) M cb cap xs v2 HI2'.out (HI.out.below HV2'.out) HN.out HBY.out).mono ?_
      rintro e v3 ⟨rfl, rfl⟩
      go_wp2
      go_ret
      exact ⟨rfl, HV2'.out⟩
    · have d1 : (D != 0) = true := by simpa using hD
      clear hD
      go_wp2_with fail
      refine (frknown_any _ (HS.out.below HBf.out)).mono ?_
      rintro e v2 ⟨rfl, hb⟩
      have HV2' := hide (HBf.out.trans (hb.mono HBf.out.size))
      clear hb
      go_wp2
      go_ret
      exact ⟨rfl, HV2'.out⟩
end Go.Proofs.YtcbdokocnjoilaaDoor
