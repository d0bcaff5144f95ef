/-
  The walk of the law ParseCuts.
-/
import Derived.Test.YtfngnmopdfojmaaPNum
import Derived.Test.YtfngnmopdfojmaaPRef
import Derived.Test.YtfngnmopdfojmaaRow
import Derived.Test.YtfngnmopdfojmaaOpens
import Derived.Lib.MinMax
namespace Go.Proofs.Ytfngnmopdfojmaa
set_option maxRecDepth 100000
open Go.ChangeShapes Go.WideShapes Go.ChangeAt Go.RowKit
set_option linter.unusedVariables false

theorem apart {w : World} {A : Option Addr} {zs : List Int} {n : Nat} (hi : Ints .u8 w A zs) (hn : zs.length = n) : ∀ ad, A = some ad → 0 < n → ad.block ≠ w.heap.size := by
  intro ad hA h0
  obtain ⟨b, off, e, _, hb⟩ := hi.at (i := 0) (by omega)
  rw [hA] at e
  cases e
  simp; omega
theorem within {w : World} {A : Option Addr} {zs : List Int} {n : Nat} (hi : Ints .u8 w A zs) (hn : zs.length = n) : ∀ {k : Nat}, w.heap.size ≤ k → ∀ ad, A = some ad → 0 < n → ad.block < k := by
  intro k hk ad hA h0
  obtain ⟨b, off, e, _, hb⟩ := hi.at (i := 0) (by omega)
  rw [hA] at e
  cases e
  simp; omega
/-- What holds at the head of each round. -/
def CRel (w : World) (xs : List Int) (n : Nat) (o r i : Value) (wr : World) : Prop :=
  ∃ (k j c2 : Nat) (A2 : Option Addr), i = .int .i64 k ∧ k ≤ 20 ∧ j ≤ n ∧ r = .slice A2 (n - j) c2 ∧ Ints .u8 w A2 (xs.drop j) ∧ n - j ≤ c2 ∧ c2 ≤ 9223372036854775807 ∧ (A2 = none → c2 = 0) ∧
    OwnE 0 56 .i32 w.heap.size wr wr o (feedP p0 (xs.take j)).2 ∧ Pr wr w.heap.size (feedP p0 (xs.take j)).1 ∧ Below w.heap.size w wr

set_option maxHeartbeats 4000000 in
theorem parseCuts_walk (a : Option Addr) (len cap : Nat) (zs : List Int) (a1 : Option Addr) (len1 cap1 : Nat) (zs1 : List Int) (w : World)
    (hrow : IsRow .u8 w a len cap zs) (hrow1 : IsRow .i64 w a1 len1 cap1 zs1) :
    Calls Try.prog 4 #[.slice a len cap, .slice a1 len1 cap1] w fun e w' => e = .returned (.bool true) ∧ Below w.heap.size w w' := by
  obtain ⟨hz, hl, hn0, hmaxl⟩ := hrow.len
  obtain ⟨hz1, hl1, hn1, hmaxl1⟩ := hrow1.len
  obtain ⟨n, hn, hn60, hnl⟩ : ∃ n : Nat, min (len : Int) 100 = (n : Int) ∧ n ≤ 100 ∧ n ≤ len := ⟨min len 100, by omega, by omega, by omega⟩
  have hi := hrow.ints.take n
  have hi1 := hrow1.ints
  have hwf1 := hrow1.wf
  have hy : Byte (zs.take n) := byte_of hrow.wf n
  have hx : (zs.take n).length = n := by rw [List.length_take]; omega
  have hmax := hmaxl
  have hmax1 := hmaxl1
  unfold maxLen at hmax hmax1
  clear hrow hrow1
  have HX := hide hx
  have HN0 := hide hn0
  have HZ1 := hide hz1
  have HWF := hide hwf1
  have hncap : n ≤ cap := by omega
  clear hz hn0 hx hz1 hn1 hwf1
  generalize zs.take n = xs at *
  have HY := hide hy
  have HI0 := hide hi
  have HLT : Hid (∀ {k : Nat}, w.heap.size ≤ k → ∀ ad, a = some ad → 0 < n → ad.block < k) := within hi HX.out
  have n0 : (0 : Int) ≤ (n : Int) := by omega
  have n1 : (n : Int) ≤ (cap : Int) := by omega
  clear hy
  go_enter Try.func4, Try.ntmps4
  go_wp2
  go_loopw [6, 7, 8, 9] (fun o r i _ wr => CRel w xs n o r i wr) (fun _ _ i _ _ => 20 - (intOf i).toNat)
  case atStart =>
    refine ⟨0, 0, cap, a, rfl, by omega, Nat.zero_le _, rfl, hi, by omega, by omega, HN0.out, ?_, ?_, (Below.refl _ _).alloc (Nat.le_refl _) _⟩
    · exact OwnE.start (by simp) (Nat.zero_le _)
    · exact Pr.new w
  case round =>
    obtain ⟨k, j, c2, A2, rfl, hk, hj, rfl, hi2, hc2, hc2m, hA2, ho, hp, hbe⟩ := hrel
    have HA2 := hide hA2
    obtain ⟨M, hM⟩ : ∃ M, n - j = M := ⟨_, rfl⟩
    rw [hM] at hc2 ⊢
    have hMn : M ≤ 100 := by omega
    have hjM : j + M = n := by omega
    have HDL : Hid ((xs.drop j).length = M) := by unfold Hid; rw [List.length_drop, HX.out]; exact hM
    have HJM := hide hjM
    have hff := feed_facts (xs.take j) p0 ok0 (HY.out.take j)
    obtain ⟨q, es, hqe⟩ : ∃ q es, feedP p0 (xs.take j) = (q, es) := ⟨_, _, rfl⟩
    rw [hqe] at ho hp hff
    simp only at ho hp hff
    have hqok := hff.1
    have hle : es.length ≤ 400 := by have := hff.2.2; rw [List.length_take, HX.out] at this; omega
    have HQE := hide hqe
    have HO := hide ho
    have HP := hide hp
    have HBe := hide hbe
    clear hA2 hM hjM ho hp hff hqe
    obtain ⟨A0, n0', c0', rfl⟩ := HO.out.slice
    by_cases h1 : k < len1
    · by_cases h2 : k < 20
      · have h2' : (k : Int) < 20 := by omega
        obtain ⟨b, off, rfl, hc, hb0⟩ := hi1.at (i := k) (by rw [HZ1.out]; omega)
        obtain ⟨cv, hcv⟩ : ∃ cv, zs1.getD k 0 = cv := ⟨_, rfl⟩
        rw [hcv, ← hbe.cell (p := ⟨b, off + k, none⟩) hb0] at hc
        have hcb : -9223372036854775808 ≤ cv ∧ cv ≤ 9223372036854775807 := by
          have := i64_bd (HWF.out cv (by rw [← hcv, List.getD_eq_getElem?_getD, List.getElem?_eq_getElem (by rw [HZ1.out]; omega)]; exact List.getElem_mem _))
          omega
        obtain ⟨hcb1, hcb2⟩ := hcb
        clear hcv hbe
        obtain ⟨C, hC⟩ : ∃ C : Int, C = IntKind.u64.wrap cv := ⟨_, rfl⟩
        have hC0 : 0 ≤ C := by rw [hC, IntKind.wrap_u64]; omega
        have hC' := hC.symm
        clear hC
        obtain ⟨R, hR, hRL⟩ : ∃ R : Nat, C.tmod ((M + 1 : Nat) : Int) = (R : Int) ∧ R ≤ M := by
          refine ⟨(C.tmod ((M + 1 : Nat) : Int)).toNat, ?_, ?_⟩
          · have := Int.tmod_nonneg ((M + 1 : Nat) : Int) hC0; omega
          · have h1 := Int.tmod_lt_of_pos C (show (0 : Int) < ((M + 1 : Nat) : Int) by omega); have := Int.tmod_nonneg ((M + 1 : Nat) : Int) hC0; omega
        have HR := hide hR
        have r0 : (0 : Int) ≤ (R : Int) := by omega
        have r1 : (R : Int) ≤ (M : Int) := by omega
        have r2 : (R : Int) ≤ (c2 : Int) := by omega
        clear hR hcb1 hcb2
        go_wp2_with (with_reducible refine wpList_val (o := ⟨some 36, _, _, _, _, _⟩) rfl (v := .int .u64 (R : Int)) ?_ ?_)
        · exact exec_binop (v2 := .int .u64 ((M + 1 : Nat) : Int)) rfl rfl rfl rfl (run_rem_nat (P := Try.prog) wr 51 .u64 C (M + 1) R (by omega) HR.out)
        · obtain ⟨q1, es1, hq1⟩ : ∃ q1 es1, feedP q ((xs.drop j).take R) = (q1, es1) := ⟨_, _, rfl⟩
          have hff1 := feed_facts ((xs.drop j).take R) q hqok ((HY.out.drop j).take R)
          have HNX : Hid (feedP p0 (xs.take (j + R)) = (q1, es ++ es1)) := by
            unfold Hid
            have := feed_append (xs.take j) ((xs.drop j).take R) p0
            rw [← List.take_add, HQE.out] at this
            simp only at this
            rw [hq1] at this
            exact this
          have hBL : ((xs.drop j).take R).length = R := by rw [List.length_take, HDL.out]; omega
          rw [hq1, hBL] at hff1
          simp only at hff1
          have hle1 : es1.length ≤ 400 := by have := hff1.2.2; omega
          have hi2r := hi2.take R
          have HQ1 := hide hq1
          clear hff1 hq1 hC' hC0 hc
          refine (pfeed_any w.heap.size q ((xs.drop j).take R) A2 R c2 wr HP.out hqok ((HY.out.drop j).take R) (hi2r.below HBe.out) hBL (by omega) (apart hi2r hBL)).mono ?_
          rintro e w1 ⟨v1, rfl, ho1, hp1, hf1⟩
          rw [HQ1.out] at ho1 hp1
          simp only at ho1 hp1
          have HO1 := hide (HO.out.keep (fun _ q => absurd q (by omega)) (HP.out.stays hf1 (by decide)) (HP.out.stays hf1 (by decide)) hf1.size)
          obtain ⟨A4, c4, rfl, hev1, -, hc4, -⟩ := ho1.form
          obtain ⟨n4, hn4⟩ : ∃ n4, es1.length = n4 := ⟨_, rfl⟩
          rw [hn4]
          rw [hn4] at hle1
          have HN4 := hide hn4
          have HEV1 := hide hev1
          have HC4 := hide hc4
          have HP1 := hide hp1
          have HB1 : Hid (Below w.heap.size w w1) := HBe.out.trans (hf1.below HBe.out.size (Nat.le_refl _))
          obtain ⟨A3, hI, hI2, hI3⟩ : ∃ A3, (if c2 = R then A2 else Option.map (fun x => x.add R) A2) = A3 ∧ Ints .u8 w A3 (xs.drop (j + R)) ∧ (A3 = none → c2 - R = 0) := ⟨_, rfl, by
            have := hi2.cut R c2 (by rw [HDL.out]; exact hc2)
            rw [List.drop_drop] at this; exact this, cut_nil_ HA2.out⟩
          have HI := hide hI
          have HI3 := hide hI3
          have HI2 := hide hI2
          obtain ⟨M3, hM3⟩ : ∃ M3, M - R = M3 := ⟨_, rfl⟩
          have HM3 := hide hM3
          clear ho1 hp1 hf1 hev1 hc4 hn4 HO HP HBe hI hI2 hI3 hM3 hBL hi2r hi2 hqok
          go_wp2_with (at_builtin; refine stopw ?_)
          unfold Hid
          refine wpList_catE elemEv (by rfl) _ _ rfl rfl rfl HO1.out HEV1.out HN4.out HC4.out (by omega) (by omega) (by decide) ?_
          intro v2 w2 ho2 st2 hb2
          have HP2 : Hid (Pr w2 w.heap.size q1) := by unfold Hid; obtain ⟨l, hw⟩ := HP1.out.whole; exact HP1.out.same (st2 33 (by decide) _ _ hw)
          have HO2 := hide ho2.now
          have HB2 : Hid (Below w.heap.size w w2) := HB1.out.trans hb2
          clear ho2 st2 hb2 HO1 HEV1 HP1 HB1
          go_wp2_with (with_reducible refine wpList_val (o := ⟨some 46, _, _, _, _, _⟩) rfl (v := .slice A3 M3 (c2 - R)) ?_ ?_)
          · rw [← HI.out, ← HM3.out]
            go_simp
          · go_roundw
            case rel =>
              refine ⟨k + 1, j + R, c2 - R, A3, by go_num, by omega, by have := HJM.out; omega, ?_, HI2.out, ?_, by omega, HI3.out, ?_, ?_, HB2.out⟩
              · have := HJM.out
                have := HM3.out
                rw [show n - (j + R) = M3 by omega]
              · have := HJM.out
                omega
              · rw [HNX.out]; exact HO2.out
              · rw [HNX.out]; exact HP2.out
            case measure => simp [intOf]; omega
      · have h2' : decide ((k : Int) < 20) = false := by simp; omega
        clear hbe
        have HQOK := hide hqok
        have HXR := hide (Ints.below (w := w) hi2 HBe.out)
        have HAP := hide (apart hi2 HDL.out)
        clear hi2 hqok
        go_wp2_with fail
        refine (pfeed_any w.heap.size q (xs.drop j) A2 M c2 wr HP.out HQOK.out (HY.out.drop j) HXR.out HDL.out (by omega) HAP.out).mono ?_
        rintro e w1 ⟨v1, rfl, ho1, hp1, hf1⟩
        obtain ⟨q1, es1, hq1⟩ : ∃ q1 es1, feedP q (xs.drop j) = (q1, es1) := ⟨_, _, rfl⟩
        have hff1 := feed_facts (xs.drop j) q HQOK.out (HY.out.drop j)
        rw [hq1] at ho1 hp1 hff1
        simp only at ho1 hp1 hff1
        have HALL : Hid (allP xs = es ++ es1 ++ brkE q1.h) := by
          unfold Hid allP
          have := feed_append (xs.take j) (xs.drop j) p0
          rw [List.take_append_drop, HQE.out] at this
          simp only at this
          rw [hq1] at this
          rw [this]
        have hle1 : es1.length ≤ 400 := by have := hff1.2.2; rw [HDL.out] at this; omega
        have HO1 := hide (HO.out.keep (fun _ q => absurd q (by omega)) (HP.out.stays hf1 (by decide)) (HP.out.stays hf1 (by decide)) hf1.size)
        obtain ⟨A4, c4, rfl, hev1, -, hc4, -⟩ := ho1.form
        obtain ⟨n4, hn4⟩ : ∃ n4, es1.length = n4 := ⟨_, rfl⟩
        rw [hn4]
        have HN4 := hide hn4
        have HEV1 := hide hev1
        have HC4 := hide hc4
        have HP1 := hide hp1
        have HB1 : Hid (Below w.heap.size w w1) := HBe.out.trans (hf1.below HBe.out.size (Nat.le_refl _))
        rw [hn4] at hle1
        clear ho1 hp1 hf1 hff1 hq1 hev1 hc4 hn4 HO HP HBe
        go_wp2_with (at_builtin; refine stopw ?_)
        unfold Hid
        refine wpList_catE elemEv (by rfl) _ _ rfl rfl rfl HO1.out HEV1.out HN4.out HC4.out (by omega) (by omega) (by decide) ?_
        intro v2 w2 ho2 st2 hb2
        have HP2 : Hid (Pr w2 w.heap.size q1) := by unfold Hid; obtain ⟨l, hw⟩ := HP1.out.whole; exact HP1.out.same (st2 33 (by decide) _ _ hw)
        have HO2 := hide ho2.now
        have HB2 : Hid (Below w.heap.size w w2) := HB1.out.trans hb2
        obtain ⟨A5, n5, c5, rfl⟩ := ho2.slice
        clear ho2 st2 hb2 HO1 HEV1 HP1 HB1
        have hbl := brk_len q1.h
        go_wp2_with fail
        refine (pflush_any HP2.out).mono ?_
        rintro e w3 ⟨v3, rfl, ho3, hp3, hf3⟩
        have HO3 := hide (HO2.out.keep (fun _ q => absurd q (by omega)) (HP2.out.stays hf3 (by decide)) (HP2.out.stays hf3 (by decide)) hf3.size)
        obtain ⟨A6, c6, rfl, hev3, -, hc6, -⟩ := ho3.form
        obtain ⟨n6, hn6⟩ : ∃ n6, (brkE q1.h).length = n6 := ⟨_, rfl⟩
        rw [hn6]
        have HN6 := hide hn6
        have HEV3 := hide hev3
        have HC6 := hide hc6
        have HB3 : Hid (Below w.heap.size w w3) := HB2.out.trans (hf3.below HB2.out.size (Nat.le_refl _))
        rw [hn6] at hbl
        have hlx : (es ++ es1).length ≤ 5000 := by rw [List.length_append]; have := HN4.out; omega
        clear ho3 hp3 hf3 hev3 hc6 hn6 HO2 HP2 HB2
        go_wp2_with (at_builtin; refine stopw ?_)
        unfold Hid
        refine wpList_catE elemEv (by rfl) _ _ rfl rfl rfl HO3.out HEV3.out HN6.out HC6.out (by omega) (by omega) (by decide) ?_
        intro v4 w4 ho4 _ hb4
        rw [← HALL.out] at ho4
        obtain ⟨A7, c7, rfl, hev4, -, -, -⟩ := ho4.form
        obtain ⟨n7, hn7⟩ : ∃ n7, (allP xs).length = n7 := ⟨_, rfl⟩
        rw [hn7]
        have HN7 := hide hn7
        have HEV4 := hide hev4
        have HB4 : Hid (Below w.heap.size w w4) := HB3.out.trans hb4
        have hl7 : n7 ≤ 6000 := by
          rw [← hn7, HALL.out, List.length_append, HN6.out]; omega
        clear ho4 hb4 hev4 hn7 HO3 HEV3 HB3
        go_wp2_with fail
        refine (pknown_any w4).mono ?_
        rintro e w5 ⟨rfl, hb5⟩
        have HEV5 := hide (HEV4.out.below hb5 (Nat.zero_le _))
        have HB5 := hide (HB4.out.trans (hb5.mono HB4.out.size))
        clear hb5 HEV4 HB4
        go_wp2_with fail
        refine (pall_any a n cap xs w5 (Ints.below HI0.out HB5.out) HY.out HX.out (by omega) (HLT.out HB5.out.size)).mono ?_
        rintro e w6 ⟨v6, rfl, ho6⟩
        obtain ⟨A8, c8, rfl, hev6, -, -, -⟩ := ho6.form
        rw [HN7.out]
        have HEV6 := hide hev6
        have HEV5' := hide (HEV5.out.below ho6.bel (Nat.zero_le _))
        have HB6 := hide (HB5.out.trans (ho6.bel.mono HB5.out.size))
        clear ho6 hev6 HEV5
        go_wp2_with fail
        refine (psame_any 0 A7 A8 n7 n7 c7 c8 _ _ w6 HEV5'.out HEV6.out (Nat.zero_le _) HN7.out HN7.out (by omega) (all_b xs HY.out)).mono ?_
        rintro e w7 ⟨bo, hbo, rfl, hb7⟩
        obtain rfl : bo = true := hbo.2 rfl
        have HB7 := hide (HB6.out.trans (hb7.mono HB6.out.size))
        clear hbo hb7 HEV5' HEV6 HB6 HB5
        go_wp2_with fail
        refine (pfeed_nil _ w7).mono ?_
        rintro e w8 ⟨rfl, rfl⟩
        go_wp2_with fail
        refine (pflush_nil w7).mono ?_
        rintro e w8 ⟨rfl, rfl⟩
        go_wp2_with fail
        refine (prest_nil w7).mono ?_
        rintro e w8 ⟨rfl, rfl⟩
        go_wp2_with fail
        refine (pcopy_nil w7).mono ?_
        rintro e w8 ⟨rfl, rfl⟩
        go_wp2
        go_ret
        exact ⟨rfl, HB7.out⟩
    · have h1' : decide ((k : Int) < (len1 : Int)) = false := by simp; omega
      clear hbe
      have HQOK := hide hqok
      have HXR := hide (Ints.below (w := w) hi2 HBe.out)
      have HAP := hide (apart hi2 HDL.out)
      clear hi2 hqok
      go_wp2_with fail
      refine (pfeed_any w.heap.size q (xs.drop j) A2 M c2 wr HP.out HQOK.out (HY.out.drop j) HXR.out HDL.out (by omega) HAP.out).mono ?_
      rintro e w1 ⟨v1, rfl, ho1, hp1, hf1⟩
      obtain ⟨q1, es1, hq1⟩ : ∃ q1 es1, feedP q (xs.drop j) = (q1, es1) := ⟨_, _, rfl⟩
      have hff1 := feed_facts (xs.drop j) q HQOK.out (HY.out.drop j)
      rw [hq1] at ho1 hp1 hff1
      simp only at ho1 hp1 hff1
      have HALL : Hid (allP xs = es ++ es1 ++ brkE q1.h) := by
        unfold Hid allP
        have := feed_append (xs.take j) (xs.drop j) p0
        rw [List.take_append_drop, HQE.out] at this
        simp only at this
        rw [hq1] at this
        rw [this]
      have hle1 : es1.length ≤ 400 := by have := hff1.2.2; rw [HDL.out] at this; omega
      have HO1 := hide (HO.out.keep (fun _ q => absurd q (by omega)) (HP.out.stays hf1 (by decide)) (HP.out.stays hf1 (by decide)) hf1.size)
      obtain ⟨A4, c4, rfl, hev1, -, hc4, -⟩ := ho1.form
      obtain ⟨n4, hn4⟩ : ∃ n4, es1.length = n4 := ⟨_, rfl⟩
      rw [hn4]
      have HN4 := hide hn4
      have HEV1 := hide hev1
      have HC4 := hide hc4
      have HP1 := hide hp1
      have HB1 : Hid (Below w.heap.size w w1) := HBe.out.trans (hf1.below HBe.out.size (Nat.le_refl _))
      rw [hn4] at hle1
      clear ho1 hp1 hf1 hff1 hq1 hev1 hc4 hn4 HO HP HBe
      go_wp2_with (at_builtin; refine stopw ?_)
      unfold Hid
      refine wpList_catE elemEv (by rfl) _ _ rfl rfl rfl HO1.out HEV1.out HN4.out HC4.out (by omega) (by omega) (by decide) ?_
      intro v2 w2 ho2 st2 hb2
      have HP2 : Hid (Pr w2 w.heap.size q1) := by unfold Hid; obtain ⟨l, hw⟩ := HP1.out.whole; exact HP1.out.same (st2 33 (by decide) _ _ hw)
      have HO2 := hide ho2.now
      have HB2 : Hid (Below w.heap.size w w2) := HB1.out.trans hb2
      obtain ⟨A5, n5, c5, rfl⟩ := ho2.slice
      clear ho2 st2 hb2 HO1 HEV1 HP1 HB1
      have hbl := brk_len q1.h
      go_wp2_with fail
      refine (pflush_any HP2.out).mono ?_
      rintro e w3 ⟨v3, rfl, ho3, hp3, hf3⟩
      have HO3 := hide (HO2.out.keep (fun _ q => absurd q (by omega)) (HP2.out.stays hf3 (by decide)) (HP2.out.stays hf3 (by decide)) hf3.size)
      obtain ⟨A6, c6, rfl, hev3, -, hc6, -⟩ := ho3.form
      obtain ⟨n6, hn6⟩ : ∃ n6, (brkE q1.h).length = n6 := ⟨_, rfl⟩
      rw [hn6]
      have HN6 := hide hn6
      have HEV3 := hide hev3
      have HC6 := hide hc6
      have HB3 : Hid (Below w.heap.size w w3) := HB2.out.trans (hf3.below HB2.out.size (Nat.le_refl _))
      rw [hn6] at hbl
      have hlx : (es ++ es1).length ≤ 5000 := by rw [List.length_append]; have := HN4.out; omega
      clear ho3 hp3 hf3 hev3 hc6 hn6 HO2 HP2 HB2
      go_wp2_with (at_builtin; refine stopw ?_)
      unfold Hid
      refine wpList_catE elemEv (by rfl) _ _ rfl rfl rfl HO3.out HEV3.out HN6.out HC6.out (by omega) (by omega) (by decide) ?_
      intro v4 w4 ho4 _ hb4
      rw [← HALL.out] at ho4
      obtain ⟨A7, c7, rfl, hev4, -, -, -⟩ := ho4.form
      obtain ⟨n7, hn7⟩ : ∃ n7, (allP xs).length = n7 := ⟨_, rfl⟩
      rw [hn7]
      have HN7 := hide hn7
      have HEV4 := hide hev4
      have HB4 : Hid (Below w.heap.size w w4) := HB3.out.trans hb4
      have hl7 : n7 ≤ 6000 := by
        rw [← hn7, HALL.out, List.length_append, HN6.out]; omega
      clear ho4 hb4 hev4 hn7 HO3 HEV3 HB3
      go_wp2_with fail
      refine (pknown_any w4).mono ?_
      rintro e w5 ⟨rfl, hb5⟩
      have HEV5 := hide (HEV4.out.below hb5 (Nat.zero_le _))
      have HB5 := hide (HB4.out.trans (hb5.mono HB4.out.size))
      clear hb5 HEV4 HB4
      go_wp2_with fail
      refine (pall_any a n cap xs w5 (Ints.below HI0.out HB5.out) HY.out HX.out (by omega) (HLT.out HB5.out.size)).mono ?_
      rintro e w6 ⟨v6, rfl, ho6⟩
      obtain ⟨A8, c8, rfl, hev6, -, -, -⟩ := ho6.form
      rw [HN7.out]
      have HEV6 := hide hev6
      have HEV5' := hide (HEV5.out.below ho6.bel (Nat.zero_le _))
      have HB6 := hide (HB5.out.trans (ho6.bel.mono HB5.out.size))
      clear ho6 hev6 HEV5
      go_wp2_with fail
      refine (psame_any 0 A7 A8 n7 n7 c7 c8 _ _ w6 HEV5'.out HEV6.out (Nat.zero_le _) HN7.out HN7.out (by omega) (all_b xs HY.out)).mono ?_
      rintro e w7 ⟨bo, hbo, rfl, hb7⟩
      obtain rfl : bo = true := hbo.2 rfl
      have HB7 := hide (HB6.out.trans (hb7.mono HB6.out.size))
      clear hbo hb7 HEV5' HEV6 HB6 HB5
      go_wp2_with fail
      refine (pfeed_nil _ w7).mono ?_
      rintro e w8 ⟨rfl, rfl⟩
      go_wp2_with fail
      refine (pflush_nil w7).mono ?_
      rintro e w8 ⟨rfl, rfl⟩
      go_wp2_with fail
      refine (prest_nil w7).mono ?_
      rintro e w8 ⟨rfl, rfl⟩
      go_wp2_with fail
      refine (pcopy_nil w7).mono ?_
      rintro e w8 ⟨rfl, rfl⟩
      go_wp2
      go_ret
      exact ⟨rfl, HB7.out⟩
end Go.Proofs.Ytfngnmopdfojmaa
