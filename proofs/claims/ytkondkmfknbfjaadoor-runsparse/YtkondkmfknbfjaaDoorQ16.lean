/-
  Contracts and plain mathematics of RnWalkP, RnWalkM.
-/
import Derived.Test.YtkondkmfknbfjaaDoorQ15
import Derived.Test.YtkondkmfknbfjaaDoorQ2
import Derived.Test.YtkondkmfknbfjaaDoorQ5
namespace Go.Proofs.YtkondkmfknbfjaaDoor
set_option maxRecDepth 100000
set_option linter.unusedVariables false
set_option maxHeartbeats 8000000
section
open Go.ChangeShapes Go.WideShapes Go.ChangeAt Go.RowKit
theorem Cels.only {k : IntKind} {w w' : World} {A : Option Addr} {cs : List Cel} {g : Nat} {t : TypeId} {l : List Value} (h : Cels k w A cs) (ho : Only g w w') (hw : Whole w g t l) (hl : l.length ≤ 6) : Cels k w' A cs := by
  by_cases hz : cs = []
  · subst hz; exact .nil
  · have hpos : 0 < cs.length := List.length_pos_iff.2 hz
    obtain ⟨b, off, rfl, hb, hk⟩ := h.at hpos
    have hbg : b ≠ g := by
      rintro rfl
      have h6 := hk 6 _ rfl
      rw [hw.cell (off + 0 * 7 + 6), List.getElem?_eq_none (by omega)] at h6
      cases h6
    rcases h with q | ⟨b', off', e, hc⟩
    · exact absurd q hz
    · cases e
      refine .inr ⟨b, off, rfl, fun j v hj => ?_⟩
      rw [← hc j v hj]
      exact World.cell?_of_block (w := w) (World.grownBy.block ho b hb (by simpa using hbg))
theorem RdS.whole {w : World} {g : Nat} {xs : List Int} {s : Nat × Int} (h : RdS w g xs s) : ∃ x0 x1 x2, Whole w g 89 [x0, x1, x2] := by
  obtain ⟨t, -, h2, -⟩ := h
  obtain ⟨A, c, hw, -⟩ := h2.ex
  exact ⟨_, _, _, hw⟩
theorem runsParse_walk (A : Option Addr) (len cap : Nat) (zs : List Int) (at_ : Int) (w : World) (hrow : IsRow .u8 w A len cap zs) (hat : (Lit.int .i64 at_).wf = true) (hS : Spans w) :
    Calls Tryd.prog 4 #[.slice A len cap, .int .i64 at_] w fun e w' => e = .returned (.bool true) ∧ Below w.heap.size w w' := by
  obtain ⟨hz, hl, hn0, hmaxl⟩ := hrow.len
  have hbat := i64_bd hat
  have hmax := hmaxl
  unfold maxLen at hmax
  obtain ⟨M, hM⟩ : ∃ M, min len 200 = M := ⟨_, rfl⟩
  have em : min (len : Int) 200 = (M : Int) := by omega
  have hM1 : M ≤ len := by omega
  have hM2 : M ≤ 200 := by omega
  have hM3 : M ≤ cap := by omega
  obtain ⟨xs, hxs⟩ : ∃ xs, zs.take M = xs := ⟨_, rfl⟩
  have HI : Hid (Ints .u8 w A xs) := by unfold Hid; rw [← hxs]; exact hrow.ints.take M
  have HN : Hid (xs.length = M) := by unfold Hid; rw [← hxs, List.length_take]; omega
  have HBY : Hid (Byte xs) := by unfold Hid; rw [← hxs]; exact byte_of hrow.wf M
  have HA0 := hide hn0
  have HS := hide hS
  obtain ⟨PL, PB⟩ := parse_LB HBY.out
  obtain ⟨⟨ps, D⟩, hPX⟩ : ∃ X, parseD xs = X := ⟨_, rfl⟩
  rw [hPX] at PL PB
  simp only at PL PB
  have HPX := hide hPX
  have HPL := hide PL
  obtain ⟨C1, hC1⟩ : ∃ C1, IntKind.u64.wrap at_ = C1 := ⟨_, rfl⟩
  have p1 : 0 ≤ C1 := by rw [← hC1, IntKind.wrap_u64]; omega
  obtain ⟨Rr, hR, hRL⟩ : ∃ Rr : Nat, C1.tmod ((M + 1 : Nat) : Int) = (Rr : Int) ∧ Rr ≤ M := by
    refine ⟨(C1.tmod ((M + 1 : Nat) : Int)).toNat, ?_, ?_⟩
    · have := Int.tmod_nonneg ((M + 1 : Nat) : Int) p1; omega
    · have h1 := Int.tmod_lt_of_pos C1 (show (0 : Int) < ((M + 1 : Nat) : Int) by omega); have := Int.tmod_nonneg ((M + 1 : Nat) : Int) p1; omega
  have HR0 := hide hR
  obtain ⟨TL, TB⟩ := take_LB (xs := xs) (s := (Rr, 0)) HBY.out
  obtain ⟨⟨⟨T, E⟩, out⟩, hTX⟩ : ∃ X, takeD xs (Rr, 0) = X := ⟨_, rfl⟩
  rw [hTX] at TL TB
  simp only at TL TB
  have HTX := hide hTX
  have HOL := hide TL
  obtain ⟨n13, hn13⟩ : ∃ n, out.length = n := ⟨_, rfl⟩
  have HON := hide hn13
  rw [hn13] at TB
  obtain ⟨n5, hn5⟩ : ∃ n, ps.length = n := ⟨_, rfl⟩
  have HPN := hide hn5
  rw [hn5] at PB
  clear hz hn0 hmaxl hM hxs hrow hS PL hPX hR TL hTX hn13 hn5 hat
  obtain ⟨hb1, hb2⟩ := hbat
  go_enter Tryd.func4, Tryd.ntmps4
  go_wp2_with fail
  refine (parse_s A M cap xs w HI.out HN.out HA0.out (by omega) HBY.out HS.out).mono ?_
  rw [HPX.out]
  rintro e w1 ⟨A5, c5, rfl, hc, hlc, hb⟩
  simp only at hc hlc
  simp only
  rw [HPN.out] at hlc ⊢
  have HB1 := hide hb
  have HS1 := hide (HS.out.below hb)
  have HI1 := hide (HI.out.below hb)
  have HP1 := hide hc
  have HLC := hide hlc
  clear hb hc hlc
  go_wp2_with fail
  refine (rrparse_any A M cap xs w1 HI1.out HN.out hM3 (by omega) HBY.out).mono ?_
  rw [HPX.out]
  rintro e w2 ⟨A7, c7, rfl, hc, -, hb⟩
  simp only at hc
  simp only
  rw [HPN.out]
  have HV2 := hide hb
  have HQ2 := hide hc
  clear hb hc
  have e0 : (D != D) = false := by simp
  go_wp2_with fail
  refine (lsame_any A5 A7 n5 c5 n5 c7 ps ps w2 (HP1.out.below HV2.out) HQ2.out HPN.out HPN.out (by omega) HPL.out).mono ?_
  rw [decide_eq_true rfl]
  rintro e w3 ⟨rfl, hb⟩
  have HV3 := hide (HV2.out.trans (hb.mono HV2.out.size))
  clear hb
  go_wp2_with (with_reducible refine wpList_val (o := ⟨some 47, _, _, _, _, _⟩) rfl (v := .int .u64 (Rr : Int)) ?_ ?_)
  · exact exec_binop (v2 := .int .u64 ((M + 1 : Nat) : Int)) rfl rfl rfl rfl (run_rem_nat (P := Tryd.prog) w3 42 .u64 C1 (M + 1) Rr (by omega) HR0.out)
  clear hC1 p1
  go_wp2_with fail
  have HB3 := hide (HB1.out.trans (HV3.out.mono HB1.out.size))
  refine (new_s A M cap xs w3 (HI.out.below HB3.out) HN.out HA0.out (by omega)).mono ?_
  rintro e w4 ⟨g, rfl, hr, hg, hb⟩
  have HG4 : Hid (w1.heap.size ≤ g) := Nat.le_trans HV3.out.size hg
  have HR4 := hide hr
  have HV4 := hide (HV3.out.trans (hb.mono HV3.out.size))
  have HGL : Hid (g < w4.heap.size) := hr.lt
  clear hr hg hb
  obtain ⟨w5, hw5⟩ : ∃ w5, w4.alloc (.cells #[.slice A M cap, .int .i64 0, .int .i64 0] 46) = w5 := ⟨_, rfl⟩
  have hb5 : Below w4.heap.size w4 w5 := by rw [← hw5]; exact (Below.refl _ _).alloc (Nat.le_refl _) _
  have hx5 : Whole w5 w4.heap.size 46 [.slice A M cap, .int .i64 0, .int .i64 0] := by rw [← hw5]; exact Whole.new w4 46 _
  obtain ⟨q, hq⟩ : ∃ q, w4.heap.size = q := ⟨_, rfl⟩
  have HNE : Hid (g ≠ q) := by unfold Hid; have := HGL.out; omega
  have HQ1 : Hid (w1.heap.size ≤ q) := by unfold Hid; have := HGL.out; have := HG4.out; omega
  rw [hq] at hx5
  have HX5 := hide hx5
  have HR5 := hide (HR4.out.later hb5)
  have HV5 := hide (HV4.out.trans (hb5.mono HV4.out.size))
  have HW5 := hide hw5
  clear hb5 hw5 hx5
  go_upto_region 8 with fail
  rw [HW5.out]
  clear hq
  go_wp2_with fail
  refine (ntake_s g xs Rr w5 HR5.out (by rw [HN.out]; omega) (by rw [HN.out]; exact hRL)).mono ?_
  rintro e w6 ⟨v6, rfl, ho, hr⟩
  have HX6 := hide (HX5.out.far ho (Ne.symm HNE.out))
  have HR6 := hide hr
  have HV6 := hide (Only.fresh ho HG4.out HV5.out)
  clear ho hr
  have x0 := HX6.out.cell 0
  have x1 := HX6.out.cell 1
  have x2 := HX6.out.cell 2
  have xl := HX6.out.lt
  simp only [List.getElem?_cons_zero, List.getElem?_cons_succ] at x0 x1 x2
  go_wp2_with fail
  have HB6 := hide (HB1.out.trans (HV6.out.mono HB1.out.size))
  refine (rtake_ok A M cap xs 0 Rr w6 (HI.out.below HB6.out) HN.out (by omega) hM3 (by omega) HA0.out).mono ?_
  rw [Nat.zero_add]
  rintro e w7 ⟨A8, c8, rfl, -, hb⟩
  have HX7 := hide (HX6.out.later hb)
  have HR7 := hide (HR6.out.later hb)
  have HV7 := hide (HV6.out.trans (hb.mono HV6.out.size))
  clear hb x0 x1 x2 xl
  have x0 := HX7.out.cell 0
  have x1 := HX7.out.cell 1
  have x2 := HX7.out.cell 2
  have z0 := HX7.out.frozen 0
  have z1 := HX7.out.frozen 1
  have z2 := HX7.out.frozen 2
  have xl := HX7.out.lt
  simp only [List.getElem?_cons_zero, List.getElem?_cons_succ] at x0 x1 x2
  obtain ⟨w8, hw8⟩ : ∃ w8, ((w7.setCell ⟨q, 0, none⟩ (.slice A M cap)).setCell ⟨q, 1, none⟩ (.int .i64 (Rr : Int))).setCell ⟨q, 2, none⟩ (.int .i64 0) = w8 := ⟨_, rfl⟩
  have HX8 : Hid (Whole w8 q 46 [.slice A M cap, .int .i64 (Rr : Int), .int .i64 0]) := by unfold Hid; rw [← hw8]; exact ((HX7.out.put 0 _).put 1 _).put 2 _
  have HR8 : Hid (RdS w8 g xs (Rr, 0)) := by
    unfold Hid
    rw [← hw8]
    exact ((HR7.out.putq (i := 0) (x := .slice A M cap) HX7.out (by decide) HNE.out).putq (i := 1) (x := .int .i64 (Rr : Int)) (HX7.out.put 0 _) (by decide) HNE.out).putq (i := 2) (x := .int .i64 0) ((HX7.out.put 0 _).put 1 _) (by decide) HNE.out
  have HV8 : Hid (Below w1.heap.size w1 w8) := by
    unfold Hid
    rw [← hw8]
    exact ((HV7.out.setCell (p := ⟨q, 0, none⟩) HQ1.out _).setCell (p := ⟨q, 1, none⟩) HQ1.out _).setCell (p := ⟨q, 2, none⟩) HQ1.out _
  have HW8 := hide hw8
  clear hw8
  go_upto_region 10 with fail
  rw [HW8.out]
  clear x0 x1 x2 z0 z1 z2 xl
  have x0 := HX8.out.cell 0
  have x1 := HX8.out.cell 1
  have x2 := HX8.out.cell 2
  have xl := HX8.out.lt
  simp only [List.getElem?_cons_zero, List.getElem?_cons_succ] at x0 x1 x2
  go_wp2_with fail
  have HB8 := hide (HB1.out.trans (HV8.out.mono HB1.out.size))
  have KEY := rrtake_any A M cap xs (Rr, 0) w8 (HI.out.below HB8.out) HN.out HBY.out (by omega) hM3 hRL
  rw [HTX.out] at KEY
  refine KEY.mono ?_
  clear KEY
  rintro e w9 ⟨A13, c13, rfl, hc, -, hb⟩
  simp only at hc
  simp only
  rw [HON.out]
  obtain ⟨w10, hw10⟩ : ∃ w10, w9.alloc (.cells #[.slice A M cap, .int .i64 (T : Int), .int .i64 E] 46) = w10 := ⟨_, rfl⟩
  have hb10 : Below w9.heap.size w9 w10 := by rw [← hw10]; exact (Below.refl _ _).alloc (Nat.le_refl _) _
  have hx10 : Whole w10 w9.heap.size 46 [.slice A M cap, .int .i64 (T : Int), .int .i64 E] := by rw [← hw10]; exact Whole.new w9 46 _
  have HR10 := hide ((HR8.out.later hb).later hb10)
  have HV10 := hide ((HV8.out.trans (hb.mono HV8.out.size)).trans (hb10.mono (HV8.out.trans (hb.mono HV8.out.size)).size))
  have HQ10 := hide (hc.below hb10)
  obtain ⟨q2, hq2⟩ : ∃ q2, w9.heap.size = q2 := ⟨_, rfl⟩
  have HNE2 : Hid (g ≠ q2) := by unfold Hid; have h1 := (HR8.out.later hb).lt; omega
  rw [hq2] at hx10
  have HX10 := hide hx10
  have HW10 := hide hw10
  clear hb hc hb10 hx10 hw10 x0 x1 x2 xl
  go_upto_region 11 with fail
  rw [HW10.out]
  clear hq2
  have HB10 := hide (HB1.out.trans (HV10.out.mono HB1.out.size))
  go_wp2_with fail
  refine (take_s g xs (Rr, 0) w10 HR10.out HBY.out (by rw [HN.out]; omega) (HS.out.below HB10.out)).mono ?_
  rw [HTX.out]
  rintro e W ⟨A14, c14, rfl, hc, -, ho, hr⟩
  simp only at hc hr
  simp only
  rw [HON.out]
  have HP := hide hc
  have HR := hide hr
  have HX := hide (HX10.out.far ho (Ne.symm HNE2.out))
  have HVW := hide (Only.fresh ho HG4.out HV10.out)
  have HQ : Hid (Cels .i64 W A13 out) := by
    obtain ⟨y0, y1, y2, hy⟩ := HR10.out.whole
    exact HQ10.out.only ho hy (by simp)
  clear hc hr ho HR4 HR5 HX5 HX6 HR6 HX7 HR7 HX8 HR8 HX10 HR10 HQ10 HQ2
  have l12 := HX.out.lt
  have e1 : (E != E) = false := by simp
  have e2 : ((T : Int) != (T : Int)) = false := by simp
  by_cases hE : E = 0
  · have e3 : (E == 0) = true := by simpa using hE
    have HZ : Hid ((T, E).2 = 0) := hE
    clear hE
    go_wp2
    refine wp_region_chainL (fun w' => Below W.heap.size W w') 20 [(0, 0), (1, 1), (1, 2), (1, 3), (1, 4), (0, 5), (0, 7), (0, 8), (1, 6), (1, 9), (1, 10), (1, 11), (1, 12), (1, 13), (1, 14), (1, 15), (0, 16), (0, 18), (0, 19), (1, 17), (3, 20), (3, 21), (3, 22), (3, 23), (3, 24), (3, 25), (3, 26), (3, 27)] (by kernel_rfl) (by kernel_rfl) (by kernel_rfl) (fun _ _ _ _ _ h => h) ?_ ?_
    · exact (Below.refl _ _).drewN 1
    refine chainL_take (v := ?_) (by simp only [List.getElem?_toArray, List.getElem?_cons_zero]; rfl) (by rfl) (fun w hS => ?_) ?_
    rotate_left
    · go_simp <;> with_reducible rfl
    simp only [Act.put, List.setIfInBounds_toArray, List.set_cons_zero, List.set_cons_succ]
    refine chainL_alone (by simp only [List.getElem?_toArray, List.getElem?_cons_zero, List.getElem?_cons_succ]; rfl) ?_
    intro K hK
    go_wp2
    refine hK.out _ _ ((Below.refl _ _).drewN 1) ?_
    clear hK K
    refine chainL_alone (by simp only [List.getElem?_toArray, List.getElem?_cons_zero, List.getElem?_cons_succ]; rfl) ?_
    intro K hK
    go_wp2_with fail
    refine (lsame_any A14 A13 n13 c14 n13 c13 out out _ (HP.out.below ((Below.refl _ _).drewN 1)) (HQ.out.below ((Below.refl _ _).drewN 1)) HON.out HON.out (by omega) HOL.out).mono ?_
    rw [decide_eq_true rfl]
    rintro e w9 ⟨rfl, hb9⟩
    have HB9 := hide (((Below.refl _ _).drewN 1).trans hb9 : Below W.heap.size W w9)
    clear hb9
    go_wp2
    refine hK.out _ _ (HB9.out) ?_
    clear hK K
    refine chainL_alone (by simp only [List.getElem?_toArray, List.getElem?_cons_zero, List.getElem?_cons_succ]; rfl) ?_
    intro K hK
    go_wp2
    refine hK.out _ _ (HB9.out) ?_
    clear hK K
    refine chainL_alone (by simp only [List.getElem?_toArray, List.getElem?_cons_zero, List.getElem?_cons_succ]; rfl) ?_
    intro K hK
    go_wp2
    refine hK.out _ _ (HB9.out) ?_
    clear hK K
    refine chainL_take (v := ?_) (by simp only [List.getElem?_toArray, List.getElem?_cons_zero, List.getElem?_cons_succ]; rfl) (by rfl) (fun w hS => ?_) ?_
    rotate_left
    · go_simp <;> with_reducible rfl
    simp only [Act.put, List.setIfInBounds_toArray, List.set_cons_zero, List.set_cons_succ]
    refine chainL_take (v := ?_) (by simp only [List.getElem?_toArray, List.getElem?_cons_zero, List.getElem?_cons_succ]; rfl) (by rfl) (fun w hS => ?_) ?_
    rotate_left
    · go_simp <;> with_reducible rfl
    simp only [Act.put, List.setIfInBounds_toArray, List.set_cons_zero, List.set_cons_succ]
    refine chainL_take (v := ?_) (by simp only [List.getElem?_toArray, List.getElem?_cons_zero, List.getElem?_cons_succ]; rfl) (by rfl) (fun w hS => ?_) ?_
    rotate_left
    · have s0 := (HX.out.later hS).cell 0
      have s1 := (HX.out.later hS).cell 1
      have s2 := (HX.out.later hS).cell 2
      simp only [List.getElem?_cons_zero, List.getElem?_cons_succ] at s0 s1 s2
      go_simp <;> with_reducible rfl
    simp only [Act.put, List.setIfInBounds_toArray, List.set_cons_zero, List.set_cons_succ]
    refine chainL_alone (by simp only [List.getElem?_toArray, List.getElem?_cons_zero, List.getElem?_cons_succ]; rfl) ?_
    intro K hK
    go_wp2_with fail
    refine (err_s g xs (T, E) w9 (HR.out.later HB9.out)).mono ?_
    rintro e wz ⟨rfl, rfl⟩
    go_wp2
    refine hK.out _ _ (HB9.out) ?_
    clear hK K
    refine chainL_alone (by simp only [List.getElem?_toArray, List.getElem?_cons_zero, List.getElem?_cons_succ]; rfl) ?_
    intro K hK
    go_wp2
    refine hK.out _ _ (HB9.out) ?_
    clear hK K
    refine chainL_alone (by simp only [List.getElem?_toArray, List.getElem?_cons_zero, List.getElem?_cons_succ]; rfl) ?_
    intro K hK
    go_wp2
    refine hK.out _ _ (HB9.out) ?_
    clear hK K
    refine chainL_alone (by simp only [List.getElem?_toArray, List.getElem?_cons_zero, List.getElem?_cons_succ]; rfl) ?_
    intro K hK
    go_wp2
    refine hK.out _ _ (HB9.out) ?_
    clear hK K
    refine chainL_alone (by simp only [List.getElem?_toArray, List.getElem?_cons_zero, List.getElem?_cons_succ]; rfl) ?_
    intro K hK
    go_wp2
    refine hK.out _ _ (HB9.out) ?_
    clear hK K
    refine chainL_alone (by simp only [List.getElem?_toArray, List.getElem?_cons_zero, List.getElem?_cons_succ]; rfl) ?_
    intro K hK
    have s0 := (HX.out.later HB9.out).cell 0
    have s1 := (HX.out.later HB9.out).cell 1
    have s2 := (HX.out.later HB9.out).cell 2
    simp only [List.getElem?_cons_zero, List.getElem?_cons_succ] at s0 s1 s2
    go_wp2
    refine hK.out _ _ (HB9.out) ?_
    clear hK K
    refine chainL_alone (by simp only [List.getElem?_toArray, List.getElem?_cons_zero, List.getElem?_cons_succ]; rfl) ?_
    intro K hK
    go_wp2
    refine hK.out _ _ (HB9.out) ?_
    clear hK K
    refine chainL_alone (by simp only [List.getElem?_toArray, List.getElem?_cons_zero, List.getElem?_cons_succ]; rfl) ?_
    intro K hK
    go_wp2
    refine hK.out _ _ (HB9.out) ?_
    clear hK K
    refine chainL_take (v := ?_) (by simp only [List.getElem?_toArray, List.getElem?_cons_zero, List.getElem?_cons_succ]; rfl) (by rfl) (fun w hS => ?_) ?_
    rotate_left
    · go_simp <;> with_reducible rfl
    simp only [Act.put, List.setIfInBounds_toArray, List.set_cons_zero, List.set_cons_succ]
    refine chainL_take (v := ?_) (by simp only [List.getElem?_toArray, List.getElem?_cons_zero, List.getElem?_cons_succ]; rfl) (by rfl) (fun w hS => ?_) ?_
    rotate_left
    · go_simp <;> with_reducible rfl
    simp only [Act.put, List.setIfInBounds_toArray, List.set_cons_zero, List.set_cons_succ]
    refine chainL_take (v := ?_) (by simp only [List.getElem?_toArray, List.getElem?_cons_zero, List.getElem?_cons_succ]; rfl) (by rfl) (fun w hS => ?_) ?_
    rotate_left
    · have s0 := (HX.out.later hS).cell 0
      have s1 := (HX.out.later hS).cell 1
      have s2 := (HX.out.later hS).cell 2
      simp only [List.getElem?_cons_zero, List.getElem?_cons_succ] at s0 s1 s2
      go_simp <;> with_reducible rfl
    simp only [Act.put, List.setIfInBounds_toArray, List.set_cons_zero, List.set_cons_succ]
    refine chainL_alone (by simp only [List.getElem?_toArray, List.getElem?_cons_zero, List.getElem?_cons_succ]; rfl) ?_
    intro K hK
    go_wp2_with fail
    refine (at_s g xs (T, E) w9 (HR.out.later HB9.out) HZ.out).mono ?_
    rintro e wz ⟨rfl, rfl⟩
    go_wp2
    refine hK.out _ _ (HB9.out) ?_
    clear hK K
    refine chainL_late (by simp only [List.getElem?_toArray, List.getElem?_cons_zero, List.getElem?_cons_succ]; rfl) ?_
    intro K hK
    go_wp2
    refine hK.out _ _ ?_
    clear hK K
    refine chainL_late (by simp only [List.getElem?_toArray, List.getElem?_cons_zero, List.getElem?_cons_succ]; rfl) ?_
    intro K hK
    go_wp2
    refine hK.out _ _ ?_
    clear hK K
    refine chainL_late (by simp only [List.getElem?_toArray, List.getElem?_cons_zero, List.getElem?_cons_succ]; rfl) ?_
    intro K hK
    go_wp2
    refine hK.out _ _ ?_
    clear hK K
    refine chainL_late (by simp only [List.getElem?_toArray, List.getElem?_cons_zero, List.getElem?_cons_succ]; rfl) ?_
    intro K hK
    go_wp2
    refine hK.out _ _ ?_
    clear hK K
    refine chainL_late (by simp only [List.getElem?_toArray, List.getElem?_cons_zero, List.getElem?_cons_succ]; rfl) ?_
    intro K hK
    go_wp2_with fail
    refine (take_nil w9).mono ?_
    rintro e w10 ⟨rfl, hb10⟩
    have HB10' := hide (HB9.out.trans (hb10.mono HB9.out.size))
    clear hb10
    go_wp2
    refine hK.out _ _ ?_
    clear hK K
    refine chainL_late (by simp only [List.getElem?_toArray, List.getElem?_cons_zero, List.getElem?_cons_succ]; rfl) ?_
    intro K hK
    go_wp2
    refine hK.out _ _ ?_
    clear hK K
    refine chainL_late (by simp only [List.getElem?_toArray, List.getElem?_cons_zero, List.getElem?_cons_succ]; rfl) ?_
    intro K hK
    go_wp2
    refine hK.out _ _ ?_
    clear hK K
    refine chainL_late (by simp only [List.getElem?_toArray, List.getElem?_cons_zero, List.getElem?_cons_succ]; rfl) ?_
    intro K hK
    go_wp2
    refine hK.out _ _ ?_
    clear hK K
    refine chainL_nil ?_
    have HVf := hide (HVW.out.trans (HB10'.out.mono HVW.out.size))
    have HBf := hide (HB1.out.trans (HVf.out.mono HB1.out.size))
    by_cases hD : D = 0
    · have d1 : (D != 0) = false := by simpa using hD
      have d2 : (D == 0) = true := by simpa using hD
      obtain ⟨b1, b2⟩ := parse_back (xs := xs) HBY.out (by rw [HPX.out]; exact hD)
      rw [HPX.out] at b1 b2
      simp only at b1 b2
      have HBK : Hid ((if (0 : Int) = 0 then bytesR ps else []) = xs) := by unfold Hid; rw [if_pos rfl]; exact b1
      have HCK := hide b2
      clear hD b1 b2
      go_wp2_with fail
      refine (rn_bytes (HP1.out.below HVf.out) HPN.out (by omega) HLC.out HPL.out (HS.out.below HBf.out) HCK.out HBK.out).mono ?_
      rw [HN.out]
      rintro e v1 ⟨Ab, cb, rfl, hi, -, -, hb⟩
      have HI1' := hide hi
      have HV1' := hide (HBf.out.trans (hb.mono HBf.out.size))
      clear hi hb
      go_wp2_with fail
      refine (runsknown_any v1 (HS.out.below HV1'.out)).mono ?_
      rintro e v2 ⟨rfl, hb⟩
      have HI2' := hide (HI1'.out.below hb)
      have HV2' := hide (HV1'.out.trans (hb.mono HV1'.out.size))
      clear hb
      go_wp2_with fail
      refine (nu_same_yes Ab A M cb cap xs v2 HI2'.out (HI.out.below HV2'.out) HN.out HBY.out).mono ?_
      rintro e v3 ⟨rfl, rfl⟩
      go_wp2
      go_ret
      exact ⟨rfl, HV2'.out⟩
    · have d1 : (D != 0) = true := by simpa using hD
      clear hD
      go_wp2_with fail
      refine (runsknown_any _ (HS.out.below HBf.out)).mono ?_
      rintro e v2 ⟨rfl, hb⟩
      have HV2' := hide (HBf.out.trans (hb.mono HBf.out.size))
      clear hb
      go_wp2
      go_ret
      exact ⟨rfl, HV2'.out⟩
  · have e3 : (E == 0) = false := by simpa using hE
    clear hE
    go_wp2
    refine wp_region_chainL (fun w' => Below W.heap.size W w') 20 [(0, 0), (1, 1), (1, 2), (1, 3), (1, 4), (0, 5), (0, 7), (0, 8), (1, 6), (1, 9), (1, 10), (1, 11), (1, 12), (1, 13), (1, 14), (1, 15), (0, 16), (0, 18), (0, 19), (1, 17), (3, 20), (3, 21), (3, 22), (3, 23), (3, 24), (3, 25), (3, 26), (3, 27)] (by kernel_rfl) (by kernel_rfl) (by kernel_rfl) (fun _ _ _ _ _ h => h) ?_ ?_
    · exact (Below.refl _ _).drewN 1
    refine chainL_take (v := ?_) (by simp only [List.getElem?_toArray, List.getElem?_cons_zero]; rfl) (by rfl) (fun w hS => ?_) ?_
    rotate_left
    · go_simp <;> with_reducible rfl
    simp only [Act.put, List.setIfInBounds_toArray, List.set_cons_zero, List.set_cons_succ]
    refine chainL_alone (by simp only [List.getElem?_toArray, List.getElem?_cons_zero, List.getElem?_cons_succ]; rfl) ?_
    intro K hK
    go_wp2
    refine hK.out _ _ ((Below.refl _ _).drewN 1) ?_
    clear hK K
    refine chainL_alone (by simp only [List.getElem?_toArray, List.getElem?_cons_zero, List.getElem?_cons_succ]; rfl) ?_
    intro K hK
    go_wp2_with fail
    refine (lsame_any A14 A13 n13 c14 n13 c13 out out _ (HP.out.below ((Below.refl _ _).drewN 1)) (HQ.out.below ((Below.refl _ _).drewN 1)) HON.out HON.out (by omega) HOL.out).mono ?_
    rw [decide_eq_true rfl]
    rintro e w9 ⟨rfl, hb9⟩
    have HB9 := hide (((Below.refl _ _).drewN 1).trans hb9 : Below W.heap.size W w9)
    clear hb9
    go_wp2
    refine hK.out _ _ (HB9.out) ?_
    clear hK K
    refine chainL_alone (by simp only [List.getElem?_toArray, List.getElem?_cons_zero, List.getElem?_cons_succ]; rfl) ?_
    intro K hK
    go_wp2
    refine hK.out _ _ (HB9.out) ?_
    clear hK K
    refine chainL_alone (by simp only [List.getElem?_toArray, List.getElem?_cons_zero, List.getElem?_cons_succ]; rfl) ?_
    intro K hK
    go_wp2
    refine hK.out _ _ (HB9.out) ?_
    clear hK K
    refine chainL_take (v := ?_) (by simp only [List.getElem?_toArray, List.getElem?_cons_zero, List.getElem?_cons_succ]; rfl) (by rfl) (fun w hS => ?_) ?_
    rotate_left
    · go_simp <;> with_reducible rfl
    simp only [Act.put, List.setIfInBounds_toArray, List.set_cons_zero, List.set_cons_succ]
    refine chainL_take (v := ?_) (by simp only [List.getElem?_toArray, List.getElem?_cons_zero, List.getElem?_cons_succ]; rfl) (by rfl) (fun w hS => ?_) ?_
    rotate_left
    · go_simp <;> with_reducible rfl
    simp only [Act.put, List.setIfInBounds_toArray, List.set_cons_zero, List.set_cons_succ]
    refine chainL_take (v := ?_) (by simp only [List.getElem?_toArray, List.getElem?_cons_zero, List.getElem?_cons_succ]; rfl) (by rfl) (fun w hS => ?_) ?_
    rotate_left
    · have s0 := (HX.out.later hS).cell 0
      have s1 := (HX.out.later hS).cell 1
      have s2 := (HX.out.later hS).cell 2
      simp only [List.getElem?_cons_zero, List.getElem?_cons_succ] at s0 s1 s2
      go_simp <;> with_reducible rfl
    simp only [Act.put, List.setIfInBounds_toArray, List.set_cons_zero, List.set_cons_succ]
    refine chainL_alone (by simp only [List.getElem?_toArray, List.getElem?_cons_zero, List.getElem?_cons_succ]; rfl) ?_
    intro K hK
    go_wp2_with fail
    refine (err_s g xs (T, E) w9 (HR.out.later HB9.out)).mono ?_
    rintro e wz ⟨rfl, rfl⟩
    go_wp2
    refine hK.out _ _ (HB9.out) ?_
    clear hK K
    refine chainL_alone (by simp only [List.getElem?_toArray, List.getElem?_cons_zero, List.getElem?_cons_succ]; rfl) ?_
    intro K hK
    go_wp2
    refine hK.out _ _ (HB9.out) ?_
    clear hK K
    refine chainL_alone (by simp only [List.getElem?_toArray, List.getElem?_cons_zero, List.getElem?_cons_succ]; rfl) ?_
    intro K hK
    go_wp2
    refine hK.out _ _ (HB9.out) ?_
    clear hK K
    refine chainL_alone (by simp only [List.getElem?_toArray, List.getElem?_cons_zero, List.getElem?_cons_succ]; rfl) ?_
    intro K hK
    go_wp2
    refine hK.out _ _ (HB9.out) ?_
    clear hK K
    refine chainL_alone (by simp only [List.getElem?_toArray, List.getElem?_cons_zero, List.getElem?_cons_succ]; rfl) ?_
    intro K hK
    go_wp2
    refine hK.out _ _ (HB9.out) ?_
    clear hK K
    refine chainL_alone (by simp only [List.getElem?_toArray, List.getElem?_cons_zero, List.getElem?_cons_succ]; rfl) ?_
    intro K hK
    have s0 := (HX.out.later HB9.out).cell 0
    have s1 := (HX.out.later HB9.out).cell 1
    have s2 := (HX.out.later HB9.out).cell 2
    simp only [List.getElem?_cons_zero, List.getElem?_cons_succ] at s0 s1 s2
    go_wp2
    refine hK.out _ _ (HB9.out) ?_
    clear hK K
    refine chainL_alone (by simp only [List.getElem?_toArray, List.getElem?_cons_zero, List.getElem?_cons_succ]; rfl) ?_
    intro K hK
    go_wp2
    refine hK.out _ _ (HB9.out) ?_
    clear hK K
    refine chainL_alone (by simp only [List.getElem?_toArray, List.getElem?_cons_zero, List.getElem?_cons_succ]; rfl) ?_
    intro K hK
    go_wp2
    refine hK.out _ _ (HB9.out) ?_
    clear hK K
    refine chainL_skip (by simp only [List.getElem?_toArray, List.getElem?_cons_zero, List.getElem?_cons_succ]; rfl) (by rfl) ?_
    simp only [Act.put, List.setIfInBounds_toArray, List.set_cons_zero, List.set_cons_succ]
    refine chainL_skip (by simp only [List.getElem?_toArray, List.getElem?_cons_zero, List.getElem?_cons_succ]; rfl) (by rfl) ?_
    simp only [Act.put, List.setIfInBounds_toArray, List.set_cons_zero, List.set_cons_succ]
    refine chainL_skip (by simp only [List.getElem?_toArray, List.getElem?_cons_zero, List.getElem?_cons_succ]; rfl) (by rfl) ?_
    simp only [Act.put, List.setIfInBounds_toArray, List.set_cons_zero, List.set_cons_succ]
    refine chainL_alone (by simp only [List.getElem?_toArray, List.getElem?_cons_zero, List.getElem?_cons_succ]; rfl) ?_
    intro K hK
    go_wp2
    refine hK.out _ _ (HB9.out) ?_
    clear hK K
    refine chainL_late (by simp only [List.getElem?_toArray, List.getElem?_cons_zero, List.getElem?_cons_succ]; rfl) ?_
    intro K hK
    go_wp2
    refine hK.out _ _ ?_
    clear hK K
    refine chainL_late (by simp only [List.getElem?_toArray, List.getElem?_cons_zero, List.getElem?_cons_succ]; rfl) ?_
    intro K hK
    go_wp2
    refine hK.out _ _ ?_
    clear hK K
    refine chainL_late (by simp only [List.getElem?_toArray, List.getElem?_cons_zero, List.getElem?_cons_succ]; rfl) ?_
    intro K hK
    go_wp2
    refine hK.out _ _ ?_
    clear hK K
    refine chainL_late (by simp only [List.getElem?_toArray, List.getElem?_cons_zero, List.getElem?_cons_succ]; rfl) ?_
    intro K hK
    go_wp2
    refine hK.out _ _ ?_
    clear hK K
    refine chainL_late (by simp only [List.getElem?_toArray, List.getElem?_cons_zero, List.getElem?_cons_succ]; rfl) ?_
    intro K hK
    go_wp2_with fail
    refine (take_nil w9).mono ?_
    rintro e w10 ⟨rfl, hb10⟩
    have HB10' := hide (HB9.out.trans (hb10.mono HB9.out.size))
    clear hb10
    go_wp2
    refine hK.out _ _ ?_
    clear hK K
    refine chainL_late (by simp only [List.getElem?_toArray, List.getElem?_cons_zero, List.getElem?_cons_succ]; rfl) ?_
    intro K hK
    go_wp2
    refine hK.out _ _ ?_
    clear hK K
    refine chainL_late (by simp only [List.getElem?_toArray, List.getElem?_cons_zero, List.getElem?_cons_succ]; rfl) ?_
    intro K hK
    go_wp2
    refine hK.out _ _ ?_
    clear hK K
    refine chainL_late (by simp only [List.getElem?_toArray, List.getElem?_cons_zero, List.getElem?_cons_succ]; rfl) ?_
    intro K hK
    go_wp2
    refine hK.out _ _ ?_
    clear hK K
    refine chainL_nil ?_
    have HVf := hide (HVW.out.trans (HB10'.out.mono HVW.out.size))
    have HBf := hide (HB1.out.trans (HVf.out.mono HB1.out.size))
    by_cases hD : D = 0
    · have d1 : (D != 0) = false := by simpa using hD
      have d2 : (D == 0) = true := by simpa using hD
      obtain ⟨b1, b2⟩ := parse_back (xs := xs) HBY.out (by rw [HPX.out]; exact hD)
      rw [HPX.out] at b1 b2
      simp only at b1 b2
      have HBK : Hid ((if (0 : Int) = 0 then bytesR ps else []) = xs) := by unfold Hid; rw [if_pos rfl]; exact b1
      have HCK := hide b2
      clear hD b1 b2
      go_wp2_with fail
      refine (rn_bytes (HP1.out.below HVf.out) HPN.out (by omega) HLC.out HPL.out (HS.out.below HBf.out) HCK.out HBK.out).mono ?_
      rw [HN.out]
      rintro e v1 ⟨Ab, cb, rfl, hi, -, -, hb⟩
      have HI1' := hide hi
      have HV1' := hide (HBf.out.trans (hb.mono HBf.out.size))
      clear hi hb
      go_wp2_with fail
      refine (runsknown_any v1 (HS.out.below HV1'.out)).mono ?_
      rintro e v2 ⟨rfl, hb⟩
      have HI2' := hide (HI1'.out.below hb)
      have HV2' := hide (HV1'.out.trans (hb.mono HV1'.out.size))
      clear hb
      go_wp2_with fail
      refine (nu_same_yes Ab A M cb cap xs v2 HI2'.out (HI.out.below HV2'.out) HN.out HBY.out).mono ?_
      rintro e v3 ⟨rfl, rfl⟩
      go_wp2
      go_ret
      exact ⟨rfl, HV2'.out⟩
    · have d1 : (D != 0) = true := by simpa using hD
      clear hD
      go_wp2_with fail
      refine (runsknown_any _ (HS.out.below HBf.out)).mono ?_
      rintro e v2 ⟨rfl, hb⟩
      have HV2' := hide (HBf.out.trans (hb.mono HBf.out.size))
      clear hb
      go_wp2
      go_ret
      exact ⟨rfl, HV2'.out⟩
theorem LB_rep {k : Nat} {c : Cel} (h : CelB c) : LB (List.replicate k c) := by
  intro i hi
  rw [List.length_replicate] at hi
  have : cAt (List.replicate k c) i = c := by unfold cAt; simp [hi]
  rw [this]
  exact h
theorem check_long {k : Nat} {c : Cel} (h : 512 < k) : checkR (List.replicate k c) = 2 := by unfold checkR; rw [List.length_replicate, if_pos h]
theorem check_bad {k : Nat} {c : Cel} (h : k ≤ 512) (h0 : 0 < k) (hr : rightC c = false) : checkR (List.replicate k c) = 1 := by
  unfold checkR
  rw [List.length_replicate, if_neg (by omega)]
  obtain ⟨j, rfl⟩ : ∃ j, k = j + 1 := ⟨k - 1, by omega⟩
  rw [List.replicate_succ, List.all_cons, hr]
  rfl
theorem check_good {k : Nat} {c : Cel} (h : k ≤ 512) (hr : k = 0 ∨ rightC c = true) : checkR (List.replicate k c) = 0 := by
  unfold checkR
  rw [List.length_replicate, if_neg (by omega)]
  have : (List.replicate k c).all rightC = true := by
    rw [List.all_eq_true]
    intro x hx
    obtain ⟨h1, rfl⟩ := List.mem_replicate.1 hx
    rcases hr with rfl | q
    · exact absurd rfl h1
    · exact q
  rw [this]
  rfl
theorem runsMany_walk (n : Int) (r m x : Int) (d f g b : Nat) (hok : CelOk r m x d f g b) (w : World) (hn : (Lit.int .i64 n).wf = true) (hS : Spans w) :
    Calls Tryd.prog 5 #[.int .i64 n, .agg #[.int .i32 r, .int .i32 m, .int .i32 x, .int .u8 (d : Int), .int .u8 (f : Int), .int .u8 (g : Int), .int .u8 (b : Int)]] w fun e w' => e = .returned (.bool true) ∧ Below w.heap.size w w' := by
  have HCB : Hid (CelB ⟨r, m, x, d, ⟨f, g, b⟩⟩) := ⟨hok.1, hok.2.1, hok.2.2.1, hok.2.2.2.1⟩
  obtain ⟨C1, hC1⟩ : ∃ C1, IntKind.u64.wrap n = C1 := ⟨_, rfl⟩
  have p1 : 0 ≤ C1 := by rw [← hC1, IntKind.wrap_u64]; omega
  obtain ⟨X, hx1, hx1b⟩ : ∃ X : Nat, C1.tmod 521 = (X : Int) ∧ X < 521 := ⟨(C1.tmod 521).toNat, by have := Int.tmod_nonneg 521 p1; omega, by have := Int.tmod_nonneg 521 p1; have := Int.tmod_lt_of_pos C1 (show (0 : Int) < 521 by omega); omega⟩
  obtain ⟨W0, hW0⟩ : ∃ W0, w.alloc (.cells #[.int .i32 r, .int .i32 m, .int .i32 x, .int .u8 (d : Int), .int .u8 (f : Int), .int .u8 (g : Int), .int .u8 (b : Int)] 60) = W0 := ⟨_, rfl⟩
  have HB0 : Hid (Below w.heap.size w W0) := by unfold Hid; rw [← hW0]; exact (Below.refl _ _).alloc (Nat.le_refl _) _
  have HX0 : Hid (Whole W0 w.heap.size 60 [.int .i32 r, .int .i32 m, .int .i32 x, .int .u8 (d : Int), .int .u8 (f : Int), .int .u8 (g : Int), .int .u8 (b : Int)]) := by unfold Hid; rw [← hW0]; exact Whole.new w 60 [.int .i32 r, .int .i32 m, .int .i32 x, .int .u8 (d : Int), .int .u8 (f : Int), .int .u8 (g : Int), .int .u8 (b : Int)]
  have HS0 : Hid (Spans W0) := by unfold Hid; rw [← hW0]; exact hS.alloc _
  have HW0 := hide hW0
  obtain ⟨c, hc⟩ : ∃ c : Cel, c = ⟨r, m, x, d, ⟨f, g, b⟩⟩ := ⟨_, rfl⟩
  have HC := hide hc
  have hd : d < 256 := hok.2.2.2.1
  clear hS hW0 hc hok hn
  go_enter Tryd.func5, Tryd.ntmps5
  go_wp2
  rw [HW0.out]
  go_loopw [6, 7] (fun v i wr => ∃ k : Nat, k ≤ X ∧ i = .int .i64 k ∧ Hid (OwnC 60 .i32 W0.heap.size W0 wr v (List.replicate k c))) (fun _ i _ => X - (intOf i).toNat)
  case atStart => exact ⟨0, Nat.zero_le _, rfl, OwnC.start (Nat.le_refl _)⟩
  case round =>
    obtain ⟨k, hk, rfl, HV⟩ := hrel
    by_cases hlt : k < X
    · obtain ⟨c0, c1, c2, c3, c4, c5, c6, -⟩ := cells7 (HX0.out.later HV.out.bel)
      have l7 := (HX0.out.later HV.out.bel).lt
      go_wp2_with (at_builtin; refine stopw ?_)
      unfold Hid
      refine wpList_pushC elemL ⟨r, m, x, d, ⟨f, g, b⟩⟩ rfl _ _ rfl rfl rfl HV.out (by rw [List.length_replicate]; omega) (by omega) ?_
      intro v' w1 hown
      have HV' : Hid (OwnC 60 .i32 W0.heap.size W0 w1 v' (List.replicate (k + 1) c)) := by unfold Hid; rw [List.replicate_succ']; rw [← HC.out] at hown; exact hown
      clear hown c0 c1 c2 c3 c4 c5 c6 l7
      go_wp2
      go_roundw
      case rel => exact ⟨k + 1, by omega, by go_num, HV'⟩
      case measure => simp [intOf]; omega
    · obtain rfl : k = X := by omega
      obtain ⟨A1, c1, hv, hcl, hlc, -, -⟩ := HV.out.form
      rw [List.length_replicate] at hv hlc
      subst hv
      have HC1 := hide hcl
      have HLC := hide hlc
      have HBw := hide (HB0.out.trans (HV.out.bel.mono HB0.out.size))
      have HXw := hide (HX0.out.later HV.out.bel)
      have HSw := hide (HS0.out.below HV.out.bel)
      clear hcl hlc
      obtain ⟨L, hL⟩ : ∃ L, List.replicate k c = L := ⟨_, rfl⟩
      have HN : Hid (L.length = k) := by unfold Hid; rw [← hL, List.length_replicate]
      have HLB : Hid (LB L) := by unfold Hid; rw [← hL]; exact LB_rep (by rw [HC.out]; exact HCB.out)
      have hbl := bytesR_len L
      rw [HN.out] at hbl
      have HL := hide hL
      rw [hL] at HC1 HV
      obtain ⟨er, her⟩ : ∃ er, checkR L = er := ⟨_, rfl⟩
      have HER := hide her
      obtain ⟨bs, hbs⟩ : ∃ bs, (if er = 0 then bytesR L else []) = bs := ⟨_, rfl⟩
      have HBS := hide hbs
      have hkl : bs.length ≤ 50000 := by
        rw [← hbs]
        split
        · omega
        · simp
      obtain ⟨K, hK⟩ : ∃ K, bs.length = K := ⟨_, rfl⟩
      rw [hK] at hkl
      have HK := hide hK
      clear her hbs hK hbl hL hC1 p1 hx1
      go_wp2_with fail
      refine (rn_bytes HC1.out HN.out (by omega) HLC.out HLB.out HSw.out HER.out HBS.out).mono ?_
      rw [HK.out]
      rintro e w3 ⟨A3, c3, rfl, hi, hl3, hz3, hb⟩
      have HB3 := hide (HBw.out.trans (hb.mono HBw.out.size))
      have HS3 := hide (HSw.out.below hb)
      have HC3 := hide (HC1.out.below hb)
      have HX3 := hide (HXw.out.later hb)
      have HI3 := hide hi
      have HZ3 := hide hz3
      clear hi hz3 hb
      by_cases hbig : 512 < k
      · have e2 : er = 2 := by rw [← HER.out, ← HL.out]; exact check_long hbig
        have hk0 : K = 0 := by
          have h1 := HBS.out
          rw [if_neg (by omega)] at h1
          rw [← HK.out, ← h1]
          rfl
        subst hk0
        subst e2
        go_wp2_with fail
        refine (runsknown_any w3 HS3.out).mono ?_
        rintro e w8 ⟨rfl, hb⟩
        have HB8 := hide (HB3.out.trans (hb.mono HB3.out.size))
        clear hb
        go_wp2
        go_ret
        exact ⟨rfl, HB8.out⟩
      · have hsm : k ≤ 512 := by omega
        obtain ⟨rt, hrt⟩ : ∃ rt, rightC ⟨r, m, x, d, ⟨f, g, b⟩⟩ = rt := ⟨_, rfl⟩
        have HRT := hide hrt
        obtain ⟨x0, x1, x2, x3, x4, x5, x6, -⟩ := cells7 HX3.out
        have xl := HX3.out.lt
        clear hrt
        go_wp2_with fail
        refine (cright_any r m x d f g b hd w3 HS3.out).mono ?_
        rw [HRT.out]
        rintro e w4 ⟨rfl, hb⟩
        have HB4 := hide (HB3.out.trans (hb.mono HB3.out.size))
        have HS4 := hide (HS3.out.below hb)
        have HC4 := hide (HC3.out.below hb)
        have HI4 := hide (HI3.out.below hb)
        clear hb x0 x1 x2 x3 x4 x5 x6 xl
        rcases Bool.eq_false_or_eq_true rt with hr | hr
        · subst hr
          have hz : er = 0 := by rw [← HER.out, ← HL.out]; exact check_good hsm (.inr (by rw [HC.out]; exact HRT.out))
          have e2 : (er != 0) = false := by simpa using hz
          have e3 : (er == 0) = true := by simpa using hz
          obtain ⟨hl5, hall⟩ := checkR_zero (HER.out.trans hz)
          have hbe : bytesR L = bs := by have := HBS.out; rwa [if_pos hz] at this
          have HBY : Hid (Byte bs) := by unfold Hid; rw [← hbe]; exact bytesR_byte hl5 hall
          have HPE : Hid (parseD bs = (L, 0)) := by unfold Hid; rw [← hbe]; exact parse_enc hl5 hall
          clear hz hbe hall hl5
          go_wp2_with fail
          refine (parse_s A3 K c3 bs w4 HI4.out HK.out HZ3.out (by omega) HBY.out HS4.out).mono ?_
          rw [HPE.out]
          rintro e w7 ⟨A7, c7, rfl, hc, -, hb⟩
          simp only at hc
          simp only
          rw [HN.out]
          have HB7 := hide (HB4.out.trans (hb.mono HB4.out.size))
          have HS7 := hide (HS4.out.below hb)
          have HC7 := hide (HC4.out.below hb)
          have HP7 := hide hc
          clear hb hc
          go_wp2_with fail
          refine (runsknown_any w7 HS7.out).mono ?_
          rintro e w8 ⟨rfl, hb⟩
          have HB8 := hide (HB7.out.trans (hb.mono HB7.out.size))
          have HC8 := hide (HC7.out.below hb)
          have HP8 := hide (HP7.out.below hb)
          clear hb
          go_wp2_with fail
          refine (same6_any A7 A1 k c7 k c1 L L w8 HP8.out HC8.out HN.out HN.out (by omega)).mono ?_
          rw [decide_eq_true rfl]
          rintro e w11 ⟨rfl, hb⟩
          have HB11 := hide (HB8.out.trans (hb.mono HB8.out.size))
          clear hb
          go_wp2
          go_ret
          exact ⟨rfl, HB11.out⟩
        · subst hr
          by_cases hk0 : 0 < k
          · have hz : er = 1 := by rw [← HER.out, ← HL.out]; exact check_bad hsm hk0 (by rw [HC.out]; exact HRT.out)
            subst hz
            have hkz : (0 : Int) < (k : Int) := by omega
            have hkd : decide ((0 : Int) < (k : Int)) = true := by simp; omega
            go_wp2_with fail
            refine (runsknown_any w4 HS4.out).mono ?_
            rintro e w8 ⟨rfl, hb⟩
            have HB8 := hide (HB4.out.trans (hb.mono HB4.out.size))
            clear hb
            go_wp2
            go_ret
            exact ⟨rfl, HB8.out⟩
          · obtain rfl : k = 0 := by omega
            have hz : er = 0 := by rw [← HER.out, ← HL.out]; exact check_good hsm (.inl rfl)
            have e2 : (er != 0) = false := by simpa using hz
            have e3 : (er == 0) = true := by simpa using hz
            obtain ⟨hl5, hall⟩ := checkR_zero (HER.out.trans hz)
            have hbe : bytesR L = bs := by have := HBS.out; rwa [if_pos hz] at this
            have HBY : Hid (Byte bs) := by unfold Hid; rw [← hbe]; exact bytesR_byte hl5 hall
            have HPE : Hid (parseD bs = (L, 0)) := by unfold Hid; rw [← hbe]; exact parse_enc hl5 hall
            clear hz hbe hall hl5
            go_wp2_with fail
            refine (parse_s A3 K c3 bs w4 HI4.out HK.out HZ3.out (by omega) HBY.out HS4.out).mono ?_
            rw [HPE.out]
            rintro e w7 ⟨A7, c7, rfl, hc, -, hb⟩
            simp only at hc
            simp only
            rw [HN.out]
            have HB7 := hide (HB4.out.trans (hb.mono HB4.out.size))
            have HS7 := hide (HS4.out.below hb)
            have HC7 := hide (HC4.out.below hb)
            have HP7 := hide hc
            clear hb hc
            go_wp2_with fail
            refine (runsknown_any w7 HS7.out).mono ?_
            rintro e w8 ⟨rfl, hb⟩
            have HB8 := hide (HB7.out.trans (hb.mono HB7.out.size))
            have HC8 := hide (HC7.out.below hb)
            have HP8 := hide (HP7.out.below hb)
            clear hb
            go_wp2_with fail
            refine (same6_any A7 A1 0 c7 0 c1 L L w8 HP8.out HC8.out HN.out HN.out (by omega)).mono ?_
            rw [decide_eq_true rfl]
            rintro e w11 ⟨rfl, hb⟩
            have HB11 := hide (HB8.out.trans (hb.mono HB8.out.size))
            clear hb
            go_wp2
            go_ret
            exact ⟨rfl, HB11.out⟩
end
end Go.Proofs.YtkondkmfknbfjaaDoor
