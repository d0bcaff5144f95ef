/-
  The walk of the law DeltaParses.
-/
import Derived.Test.YthogcfjlipaekaaDoorDeWalkB
import Derived.Test.YthogcfjlipaekaaDoorDeWalkC
import Derived.Test.YthogcfjlipaekaaDoorB16
import Derived.Test.YthogcfjlipaekaaDoorB2
namespace Go.Proofs.YthogcfjlipaekaaDoor
set_option maxRecDepth 100000
open Go.ChangeShapes Go.WideShapes Go.ChangeAt Go.RowKit
set_option linter.unusedVariables false

/-- What is known of a difference that was read. -/
structure DfGood (d : Df) : Prop where
  many : d.ss.length ≤ 512
  each : ∀ s ∈ d.ss, s.cs.length ≤ 1000000
  lb : ∀ s ∈ d.ss, LB s.cs
theorem good_fine {d : Df} (h : checkDe d = 0) : DfGood d := by
  have hf := (fine_of h).2
  exact ⟨hf.many, fun s hs => Nat.le_trans (hf.each s hs).len (by omega), fun s hs => all_LB (hf.each s hs).right⟩
theorem good_zero : DfGood zeroD := ⟨Nat.zero_le _, (fun s hs => by cases hs), (fun s hs => by cases hs)⟩
theorem good_take {xs : List Int} {s : Nat × Int} (hb : Byte xs) : DfGood (takeDe xs s).2 := by
  by_cases q : (takeDe xs s).1.2 = 0
  · exact good_fine (takeDe_back hb q).2.1
  · have : (takeDe xs s).2 = zeroD := by
      unfold takeDe at q ⊢
      simp only at q ⊢
      rw [if_neg q]
    rw [this]
    exact good_zero
theorem good_parse {xs : List Int} (hb : Byte xs) : DfGood (parseDe xs).1 := by
  unfold parseDe
  simp only
  split
  · exact good_take hb
  · exact good_zero
theorem RdS.farT {w w' : World} {g g' : Nat} {xs : List Int} {s : Nat × Int} {t : TypeId} {l : List Value} (h : RdS w g xs s) (ho : Only g' w w') (hw : Whole w g' t l) (ht : t ≠ 5) (hne : g ≠ g') : RdS w' g xs s := h.far ho hw ht hne
set_option maxHeartbeats 8000000 in
theorem deltaParses_walk (A : Option Addr) (len cap : Nat) (zs : List Int) (at_ : Int) (w : World) (hrow : IsRow .u8 w A len cap zs) (hat : (Lit.int .i64 at_).wf = true) (hS : Spans w) :
    Calls Tryd.prog 4 #[.slice A len cap, .int .i64 at_] w fun e w' => e = .returned (.bool true) ∧ Below w.heap.size w w' := by
  obtain ⟨hz, hl, hn0, hmaxl⟩ := hrow.len
  have hbat := i64_bd hat
  have hmax := hmaxl
  unfold maxLen at hmax
  obtain ⟨M, hM⟩ : ∃ M, min len 300 = M := ⟨_, rfl⟩
  have em : min (len : Int) 300 = (M : Int) := by omega
  have hM1 : M ≤ len := by omega
  have hM2 : M ≤ 300 := by omega
  have hM3 : M ≤ cap := by omega
  obtain ⟨xs, hxs⟩ : ∃ xs, zs.take M = xs := ⟨_, rfl⟩
  have HI : Hid (Ints .u8 w A xs) := by unfold Hid; rw [← hxs]; exact hrow.ints.take M
  have HN : Hid (xs.length = M) := by unfold Hid; rw [← hxs, List.length_take]; omega
  have HBY : Hid (Byte xs) := by unfold Hid; rw [← hxs]; exact byte_of hrow.wf M
  have HA0 := hide hn0
  have HS := hide hS
  have hgp := good_parse HBY.out
  obtain ⟨⟨ps, D⟩, hPX⟩ : ∃ X, parseDe xs = X := ⟨_, rfl⟩
  rw [hPX] at hgp
  simp only at hgp
  have HPX := hide hPX
  have HGP := hide hgp
  obtain ⟨C1, hC1⟩ : ∃ C1, IntKind.u64.wrap at_ = C1 := ⟨_, rfl⟩
  have p1 : 0 ≤ C1 := by rw [← hC1, IntKind.wrap_u64]; omega
  obtain ⟨Rr, hR, hRL⟩ : ∃ Rr : Nat, C1.tmod ((M + 1 : Nat) : Int) = (Rr : Int) ∧ Rr ≤ M := by
    refine ⟨(C1.tmod ((M + 1 : Nat) : Int)).toNat, ?_, ?_⟩
    · have := Int.tmod_nonneg ((M + 1 : Nat) : Int) p1; omega
    · have h1 := Int.tmod_lt_of_pos C1 (show (0 : Int) < ((M + 1 : Nat) : Int) by omega); have := Int.tmod_nonneg ((M + 1 : Nat) : Int) p1; omega
  have HR0 := hide hR
  have hgx := good_take (xs := xs) (s := (Rr, 0)) HBY.out
  obtain ⟨⟨⟨T, E⟩, x⟩, hTX⟩ : ∃ X, takeDe xs (Rr, 0) = X := ⟨_, rfl⟩
  rw [hTX] at hgx
  simp only at hgx
  have HTX := hide hTX
  have HGX := hide hgx
  obtain ⟨n13, hn13⟩ : ∃ n, x.ss.length = n := ⟨_, rfl⟩
  have HNX := hide hn13
  obtain ⟨n5, hn5⟩ : ∃ n, ps.ss.length = n := ⟨_, rfl⟩
  have HPN := hide hn5
  clear hz hn0 hmaxl hM hxs hrow hS hgp hPX hR hgx hTX hn13 hn5 hat
  obtain ⟨hb1, hb2⟩ := hbat
  go_enter Tryd.func4, Tryd.ntmps4
  go_wp2_with fail
  refine (deparse_s A M cap xs w HI.out HN.out HA0.out (by omega) HBY.out HS.out).mono ?_
  rw [HPX.out]
  rintro e u1 ⟨A5, c5, rfl, hc, hb⟩
  simp only at hc
  simp only
  rw [HPN.out]
  obtain ⟨w1, hw1⟩ : ∃ w1, u1.alloc (.cells #[.int .i64 ps.rows, .int .i64 ps.cols, .int .i64 ps.row, .int .i64 ps.col, .slice A5 n5 c5] 24) = w1 := ⟨_, rfl⟩
  have hb' : Below u1.heap.size u1 w1 := by rw [← hw1]; exact new1W _ _
  have HQ5 : Hid (Whole w1 u1.heap.size 24 [.int .i64 ps.rows, .int .i64 ps.cols, .int .i64 ps.row, .int .i64 ps.col, .slice A5 n5 c5]) := by unfold Hid; rw [← hw1]; exact Whole.new u1 24 [.int .i64 ps.rows, .int .i64 ps.cols, .int .i64 ps.row, .int .i64 ps.col, .slice A5 n5 c5]
  have HB1 := hide (hb.trans (hb'.mono hb.size))
  have HS1 := hide (HS.out.below HB1.out)
  have HI1 := hide (HI.out.below HB1.out)
  have HP1 := hide (hc.below hb')
  have HW1 := hide hw1
  clear hb hc hb' hw1
  go_wp2_with fail
  rw [HW1.out]
  refine (rdeparse_any A M cap xs w1 HI1.out HN.out hM3 (by omega) HBY.out).mono ?_
  rw [HPX.out]
  rintro e u2 ⟨A7, c7, rfl, hc, hb⟩
  simp only at hc
  simp only
  rw [HPN.out]
  obtain ⟨w2, hw2⟩ : ∃ w2, u2.alloc (.cells #[.int .i64 ps.rows, .int .i64 ps.cols, .int .i64 ps.row, .int .i64 ps.col, .slice A7 n5 c7] 29) = w2 := ⟨_, rfl⟩
  have hb' : Below u2.heap.size u2 w2 := by rw [← hw2]; exact new1W _ _
  have HQ7 : Hid (Whole w2 u2.heap.size 29 [.int .i64 ps.rows, .int .i64 ps.cols, .int .i64 ps.row, .int .i64 ps.col, .slice A7 n5 c7]) := by unfold Hid; rw [← hw2]; exact Whole.new u2 29 [.int .i64 ps.rows, .int .i64 ps.cols, .int .i64 ps.row, .int .i64 ps.col, .slice A7 n5 c7]
  have HV2 := hide (hb.trans (hb'.mono hb.size))
  have HE2 := hide (hc.below hb')
  have HW2 := hide hw2
  clear hb hc hb' hw2
  have e0 : (D != D) = false := by simp
  obtain ⟨f0, f1, f2, f3, f4, lf⟩ := cells5 (HQ5.out.later HV2.out)
  obtain ⟨g0, g1, g2, g3, g4, lg⟩ := cells5 HQ7.out
  go_upto_region 4 with fail
  rw [HW2.out]
  go_wp2_with fail
  refine (desame_any 0 0 63 79 68 109 ps ps A5 A7 n5 n5 c5 c7 w2 (HP1.out.below HV2.out).sps HE2.out.sps (Nat.zero_le _) (Nat.zero_le _) HPN.out HPN.out (by have := HGP.out.many; rw [HPN.out] at this; omega) HGP.out.each HGP.out.lb (dec_self ps)).mono ?_
  rintro e w3 ⟨rfl, hb⟩
  have HV3 := hide (HV2.out.trans (hb.mono HV2.out.size))
  clear hb f0 f1 f2 f3 f4 lf g0 g1 g2 g3 g4 lg HQ7 HE2
  go_wp2_with (with_reducible refine wpList_val (o := ⟨some 46, _, _, _, _, _⟩) rfl (v := .int .u64 (Rr : Int)) ?_ ?_)
  · exact exec_binop (v2 := .int .u64 ((M + 1 : Nat) : Int)) rfl rfl rfl rfl (run_rem_nat (P := Tryd.prog) w3 45 .u64 C1 (M + 1) Rr (by omega) HR0.out)
  clear hC1 p1
  go_wp2_with fail
  have HB3 := hide (HB1.out.trans (HV3.out.mono HB1.out.size))
  refine (new_s A M cap xs w3 (HI.out.below HB3.out) HN.out HA0.out (by omega)).mono ?_
  rintro e w4 ⟨g, rfl, hr, hg, hb⟩
  have HG4 : Hid (w1.heap.size ≤ g) := Nat.le_trans HV3.out.size hg
  have HR4 := hide hr
  have HV4 := hide (HV3.out.trans (hb.mono HV3.out.size))
  have HGL : Hid (g < w4.heap.size) := hr.lt
  clear hr hg hb
  obtain ⟨w5, hw5⟩ : ∃ w5, w4.alloc (.cells #[.slice A M cap, .int .i64 0, .int .i64 0] 49) = w5 := ⟨_, rfl⟩
  have hb5 : Below w4.heap.size w4 w5 := by rw [← hw5]; exact new1W _ _
  have hx5 : Whole w5 w4.heap.size 49 [.slice A M cap, .int .i64 0, .int .i64 0] := by rw [← hw5]; exact Whole.new w4 49 _
  obtain ⟨q, hq⟩ : ∃ q, w4.heap.size = q := ⟨_, rfl⟩
  have HNE : Hid (g ≠ q) := by unfold Hid; have := HGL.out; omega
  have HQ1 : Hid (w1.heap.size ≤ q) := by unfold Hid; have := HGL.out; have := HG4.out; omega
  rw [hq] at hx5
  have HX5 := hide hx5
  have HR5 := hide (HR4.out.later hb5)
  have HV5 := hide (HV4.out.trans (hb5.mono HV4.out.size))
  have HW5 := hide hw5
  clear hb5 hw5 hx5
  go_upto_region 8 with fail
  rw [HW5.out]
  clear hq
  go_wp2_with fail
  refine (ntake_s g xs Rr w5 HR5.out (by rw [HN.out]; omega) (by rw [HN.out]; exact hRL)).mono ?_
  rintro e w6 ⟨v6, rfl, ho, hr⟩
  have HX6 := hide (HX5.out.far ho (Ne.symm HNE.out))
  have HR6 := hide hr
  have HV6 := hide (Only.fresh ho HG4.out HV5.out)
  clear ho hr
  obtain ⟨x0, x1, x2, xl⟩ := cells3 HX6.out
  go_wp2_with fail
  have HB6 := hide (HB1.out.trans (HV6.out.mono HB1.out.size))
  refine (rtake_ok A M cap xs 0 Rr w6 (HI.out.below HB6.out) HN.out (by omega) hM3 (by omega) HA0.out).mono ?_
  rw [Nat.zero_add]
  rintro e w7 ⟨A8, c8, rfl, -, hb⟩
  have HX7 := hide (HX6.out.later hb)
  have HR7 := hide (HR6.out.later hb)
  have HV7 := hide (HV6.out.trans (hb.mono HV6.out.size))
  clear hb x0 x1 x2 xl
  obtain ⟨x0, x1, x2, xl⟩ := cells3 HX7.out
  have xz := HX7.out.frozen
  obtain ⟨w8, hw8⟩ : ∃ w8, ((w7.setCell ⟨q, 0, none⟩ (.slice A M cap)).setCell ⟨q, 1, none⟩ (.int .i64 (Rr : Int))).setCell ⟨q, 2, none⟩ (.int .i64 0) = w8 := ⟨_, rfl⟩
  have HX8 : Hid (Whole w8 q 49 [.slice A M cap, .int .i64 (Rr : Int), .int .i64 0]) := by unfold Hid; rw [← hw8]; exact put3 HX7.out _ _ _
  have HR8 : Hid (RdS w8 g xs (Rr, 0)) := by
    unfold Hid
    rw [← hw8]
    exact ((HR7.out.putq (i := 0) (x := .slice A M cap) HX7.out (by decide) HNE.out).putq (i := 1) (x := .int .i64 (Rr : Int)) (HX7.out.put 0 _) (by decide) HNE.out).putq (i := 2) (x := .int .i64 0) ((HX7.out.put 0 _).put 1 _) (by decide) HNE.out
  have HV8 : Hid (Below w1.heap.size w1 w8) := by
    unfold Hid
    rw [← hw8]
    exact below_put3 HV7.out HQ1.out _ _ _
  have HW8 := hide hw8
  clear hw8
  go_upto_region 10 with fail
  rw [HW8.out]
  clear x0 x1 x2 xz xl
  obtain ⟨x0, x1, x2, xl⟩ := cells3 HX8.out
  go_wp2_with fail
  have HB8 := hide (HB1.out.trans (HV8.out.mono HB1.out.size))
  have KEY := rdetake_any A M cap xs (Rr, 0) w8 (HI.out.below HB8.out) HN.out HBY.out (by omega) hM3 hRL
  rw [HTX.out] at KEY
  refine KEY.mono ?_
  clear KEY
  rintro e w9 ⟨A13, c13, rfl, hc, hb⟩
  simp only at hc
  simp only
  rw [HNX.out]
  obtain ⟨w10, hw10⟩ : ∃ w10, (w9.alloc (.cells #[.slice A M cap, .int .i64 (T : Int), .int .i64 E] 49)).alloc (.cells #[.int .i64 x.rows, .int .i64 x.cols, .int .i64 x.row, .int .i64 x.col, .slice A13 n13 c13] 29) = w10 := ⟨_, rfl⟩
  have hb10 : Below w9.heap.size w9 w10 := by rw [← hw10]; exact below2 _ _ _
  have hx12 : Whole w10 w9.heap.size 49 [.slice A M cap, .int .i64 (T : Int), .int .i64 E] := by rw [← hw10]; exact (Whole.new w9 49 [.slice A M cap, .int .i64 (T : Int), .int .i64 E]).alloc _
  have hx13 : Whole w10 (w9.heap.size + 1) 29 [.int .i64 x.rows, .int .i64 x.cols, .int .i64 x.row, .int .i64 x.col, .slice A13 n13 c13] := by rw [← hw10]; exact whole_snd w9 _ 29 [.int .i64 x.rows, .int .i64 x.cols, .int .i64 x.row, .int .i64 x.col, .slice A13 n13 c13]
  have HR10 := hide ((HR8.out.later hb).later hb10)
  have HV10 := hide ((HV8.out.trans (hb.mono HV8.out.size)).trans (hb10.mono (HV8.out.trans (hb.mono HV8.out.size)).size))
  have HE10 := hide (hc.below hb10)
  have hgl := (HR8.out.later hb).lt
  have HNE12 : Hid (w9.heap.size ≠ g) := by unfold Hid; omega
  have HNE13 : Hid (w9.heap.size + 1 ≠ g) := by unfold Hid; omega
  have HR12 := hide hx12
  have HX13 := hide hx13
  have HW10 := hide hw10
  clear hb hc hb10 hx12 hx13 hw10 x0 x1 x2 xl hgl
  go_upto_region 11 with fail
  rw [HW10.out]
  have HB10 := hide (HB1.out.trans (HV10.out.mono HB1.out.size))
  clear HR4 HR5 HX5 HX6 HR6 HX7 HR7 HX8 HR8
  have e1 : (E != E) = false := by simp
  have e2 : ((T : Int) != (T : Int)) = false := by simp
  by_cases hE : E = 0
  · have e3 : (E == 0) = true := by simpa using hE
    have HZ : Hid ((T, E).2 = 0) := hE
    clear hE
    refine rgH (fun w' => Whole w' w9.heap.size 49 [.slice A M cap, .int .i64 (T : Int), .int .i64 E] ∧ Whole w' (w9.heap.size + 1) 29 [.int .i64 x.rows, .int .i64 x.cols, .int .i64 x.row, .int .i64 x.col, .slice A13 n13 c13]) [(true, 0), (true, 2), (false, 1), (false, 3), (false, 4), (false, 5), (true, 6), (true, 8), (true, 9), (false, 7), (false, 10), (false, 11), (false, 12), (false, 13), (false, 14), (false, 15), (false, 16), (true, 17), (true, 19), (true, 20), (false, 18), (false, 21), (false, 22), (false, 23), (false, 24), (true, 26), (false, 25), (false, 27), (false, 28), (false, 29)] (⟨HR12.out, HX13.out⟩) ?_
    refine stH (h := ?_)
    refine stH (hy := fun w hS => by obtain ⟨f0, f1, f2, f3, f4, -⟩ := cells5 hS.2; go_simp <;> with_reducible rfl) (h := ?_)
    refine alH fun K hK => ?_
    go_wp2_with fail
    refine (detake_s g xs (Rr, 0) w10.drew (HR10.out.later ((Below.refl _ _).drewN 1)) HBY.out (by rw [HN.out]; omega) (HS.out.below (HB10.out.drewN 1))).mono ?_
    rintro e W ht
    rw [HTX.out] at ht
    obtain ⟨A14, c14, rfl, hd, ho, hr⟩ := ht
    simp only at hd hr
    simp only
    rw [HNX.out]
    have ho : Only g w10 W := (Only.of_below ((Below.refl w10.heap.size w10).drewN 1)).trans ho
    obtain ⟨y0, y1, y2, hy⟩ := HR10.out.block
    have HDW := hide hd
    have HRW := hide hr
    have HVW := hide (Only.fresh ho HG4.out HV10.out)
    have HR12W := hide (HR12.out.far ho HNE12.out)
    have HX13W := hide (HX13.out.far ho HNE13.out)
    have HEW : Hid (DfOk 0 68 109 .i64 W x A13 c13) := ⟨HE10.out.sps.keep (fun b => nob b) (Stays.only ho hy (by decide)) (Stays.only ho hy (by decide)), HE10.out.cap, HE10.out.none, Nat.zero_le _⟩
    clear hd hr ho hy
    go_wp2
    refine hK.out _ _ (⟨HR12W.out, HX13W.out⟩) ?_
    clear hK K
    refine alH fun K hK => ?_
    go_wp2_with fail
    refine (desame_any 0 0 63 79 68 109 x x A14 A13 n13 n13 c14 c13 W HDW.out.sps HEW.out.sps (Nat.zero_le _) (Nat.zero_le _) HNX.out HNX.out (by have := HGX.out.many; rw [HNX.out] at this; omega) HGX.out.each HGX.out.lb (dec_self x)).mono ?_
    rintro e k1 ⟨rfl, hb⟩
    have B1 := hide hb
    clear hb
    go_wp2
    refine hK.out _ _ (⟨HR12W.out.later B1.out, HX13W.out.later B1.out⟩) ?_
    clear hK K
    refine alH fun K hK => ?_
    go_wp2
    refine hK.out _ _ (⟨HR12W.out.later B1.out, HX13W.out.later B1.out⟩) ?_
    clear hK K
    refine alH fun K hK => ?_
    go_wp2
    refine hK.out _ _ (⟨HR12W.out.later B1.out, HX13W.out.later B1.out⟩) ?_
    clear hK K
    iterate 2 refine stH (h := ?_)
    refine stH (hy := fun w hS => by obtain ⟨f0, f1, f2, -⟩ := cells3 hS.1; go_simp <;> with_reducible rfl) (h := ?_)
    refine alH fun K hK => ?_
    go_wp2_with fail
    refine (err_s g xs (T, E) k1 (HRW.out.later B1.out)).mono ?_
    rintro e kz ⟨rfl, rfl⟩
    go_wp2
    refine hK.out _ _ (⟨HR12W.out.later B1.out, HX13W.out.later B1.out⟩) ?_
    clear hK K
    refine alH fun K hK => ?_
    go_wp2
    refine hK.out _ _ (⟨HR12W.out.later B1.out, HX13W.out.later B1.out⟩) ?_
    clear hK K
    refine alH fun K hK => ?_
    go_wp2
    refine hK.out _ _ (⟨HR12W.out.later B1.out, HX13W.out.later B1.out⟩) ?_
    clear hK K
    refine alH fun K hK => ?_
    go_wp2
    refine hK.out _ _ (⟨HR12W.out.later B1.out, HX13W.out.later B1.out⟩) ?_
    clear hK K
    refine alH fun K hK => ?_
    go_wp2
    refine hK.out _ _ (⟨HR12W.out.later B1.out, HX13W.out.later B1.out⟩) ?_
    clear hK K
    obtain ⟨f0, f1, f2, lf⟩ := cells3 (HR12W.out.later B1.out)
    refine alH fun K hK => ?_
    go_wp2
    refine hK.out _ _ (⟨HR12W.out.later B1.out, HX13W.out.later B1.out⟩) ?_
    clear hK K
    clear f0 f1 f2 lf
    refine alH fun K hK => ?_
    go_wp2
    refine hK.out _ _ (⟨HR12W.out.later B1.out, HX13W.out.later B1.out⟩) ?_
    clear hK K
    refine alH fun K hK => ?_
    go_wp2
    refine hK.out _ _ (⟨HR12W.out.later B1.out, HX13W.out.later B1.out⟩) ?_
    clear hK K
    iterate 2 refine stH (h := ?_)
    refine stH (hy := fun w hS => by obtain ⟨f0, f1, f2, -⟩ := cells3 hS.1; go_simp <;> with_reducible rfl) (h := ?_)
    refine alH fun K hK => ?_
    go_wp2_with fail
    refine (at_s g xs (T, E) k1 (HRW.out.later B1.out) HZ.out).mono ?_
    rintro e kz ⟨rfl, rfl⟩
    go_wp2
    refine hK.out _ _ (⟨HR12W.out.later B1.out, HX13W.out.later B1.out⟩) ?_
    clear hK K
    refine alH fun K hK => ?_
    go_wp2
    refine hK.out _ _ (⟨HR12W.out.later B1.out, HX13W.out.later B1.out⟩) ?_
    clear hK K
    refine alH fun K hK => ?_
    go_wp2
    refine hK.out _ _ (⟨HR12W.out.later B1.out, HX13W.out.later B1.out⟩) ?_
    clear hK K
    refine alH fun K hK => ?_
    go_wp2
    refine hK.out _ _ (⟨HR12W.out.later B1.out, HX13W.out.later B1.out⟩) ?_
    clear hK K
    refine alH fun K hK => ?_
    go_wp2
    refine hK.out _ _ (⟨HR12W.out.later B1.out, HX13W.out.later B1.out⟩) ?_
    clear hK K
    refine stH (h := ?_)
    refine alH fun K hK => ?_
    go_wp2_with fail
    refine (detake_nil k1).mono ?_
    rintro e k2 ⟨rfl, hb⟩
    have B2 := hide (B1.out.trans (hb.mono B1.out.size))
    clear hb
    go_wp2
    refine hK.out _ _ (⟨HR12W.out.later B2.out, HX13W.out.later B2.out⟩) ?_
    clear hK K
    refine alH fun K hK => ?_
    go_wp2_with fail
    refine (zsame_any none 0 k2).mono ?_
    rintro e k3 ⟨rfl, hb⟩
    have B3 := hide (B2.out.trans (hb.mono B2.out.size))
    clear hb
    go_wp2
    refine hK.out _ _ (⟨HR12W.out.later B3.out, HX13W.out.later B3.out⟩) ?_
    clear hK K
    refine alH fun K hK => ?_
    go_wp2
    refine hK.out _ _ (⟨HR12W.out.later B3.out, HX13W.out.later B3.out⟩) ?_
    clear hK K
    refine alH fun K hK => ?_
    go_wp2
    refine hK.out _ _ (⟨HR12W.out.later B3.out, HX13W.out.later B3.out⟩) ?_
    clear hK K
    refine chainH_nil ?_
    have HVf := hide (HVW.out.trans (B3.out.mono HVW.out.size))
    have HBf := hide (HB1.out.trans (HVf.out.mono HB1.out.size))
    clear B1 B2 B3
    by_cases hD : D = 0
    · have d1 : (D != 0) = false := by simpa using hD
      obtain ⟨b1, b2⟩ := parseDe_back (xs := xs) HBY.out (by rw [HPX.out]; exact hD)
      rw [HPX.out] at b1 b2
      simp only at b1 b2
      have HSZ : Hid ((bytesSs ps.ss).length ≤ 300000) := by
        unfold Hid
        have := congrArg List.length b1
        rw [bytesDe_head, List.length_append, HN.out] at this
        omega
      have BK := hide (debytes_any 0 63 79 ps A5 n5 c5 k3 (HP1.out.below HVf.out).sps (Nat.zero_le _) HPN.out (by have := HGP.out.many; rw [HPN.out] at this; omega) HGP.out.lb HSZ.out (HS.out.below HBf.out))
      have HB1E := hide b1
      have HB2E := hide b2
      clear hD b1 b2
      obtain ⟨g0, g1, g2, g3, g4, lg⟩ := cells5 (HQ5.out.later HVf.out)
      go_wp2_with fail
      refine BK.out.mono ?_
      clear BK
      rintro e v1 ⟨v, he, ho⟩
      rw [HB2E.out] at he ho
      rw [if_pos rfl, HB1E.out] at ho
      subst he
      obtain ⟨Ab, cb, rfl, hi, -⟩ := ho.form2
      have hb := ho.bel
      rw [HN.out]
      have HI1' := hide hi
      have HV1' := hide (HBf.out.trans (hb.mono HBf.out.size))
      clear hi hb ho g0 g1 g2 g3 g4 lg
      go_wp2_with fail
      refine (deknown_any v1 (HS.out.below HV1'.out)).mono ?_
      rintro e v2 ⟨rfl, hb⟩
      have HI2' := hide (HI1'.out.below hb)
      have HV2' := hide (HV1'.out.trans (hb.mono HV1'.out.size))
      clear hb
      go_wp2_with fail
      refine (nu_same_yes Ab A M cb cap xs v2 HI2'.out (HI.out.below HV2'.out) HN.out HBY.out).mono ?_
      rintro e v3 ⟨rfl, rfl⟩
      go_wp2
      go_ret
      exact ⟨rfl, HV2'.out⟩
    · have d1 : (D != 0) = true := by simpa using hD
      clear hD
      go_wp2_with fail
      refine (deknown_any _ (HS.out.below HBf.out)).mono ?_
      rintro e v2 ⟨rfl, hb⟩
      have HV2' := hide (HBf.out.trans (hb.mono HBf.out.size))
      clear hb
      go_wp2
      go_ret
      exact ⟨rfl, HV2'.out⟩
  · have e3 : (E == 0) = false := by simpa using hE
    clear hE
    refine rgH (fun w' => Whole w' w9.heap.size 49 [.slice A M cap, .int .i64 (T : Int), .int .i64 E] ∧ Whole w' (w9.heap.size + 1) 29 [.int .i64 x.rows, .int .i64 x.cols, .int .i64 x.row, .int .i64 x.col, .slice A13 n13 c13]) [(true, 0), (true, 2), (false, 1), (false, 3), (false, 4), (false, 5), (true, 6), (true, 8), (true, 9), (false, 7), (false, 10), (false, 11), (false, 12), (false, 13), (false, 14), (false, 15), (false, 16), (true, 17), (true, 19), (true, 20), (false, 18), (false, 21), (false, 22), (false, 23), (false, 24), (true, 26), (false, 25), (false, 27), (false, 28), (false, 29)] (⟨HR12.out, HX13.out⟩) ?_
    refine stH (h := ?_)
    refine stH (hy := fun w hS => by obtain ⟨f0, f1, f2, f3, f4, -⟩ := cells5 hS.2; go_simp <;> with_reducible rfl) (h := ?_)
    refine alH fun K hK => ?_
    go_wp2_with fail
    refine (detake_s g xs (Rr, 0) w10.drew (HR10.out.later ((Below.refl _ _).drewN 1)) HBY.out (by rw [HN.out]; omega) (HS.out.below (HB10.out.drewN 1))).mono ?_
    rintro e W ht
    rw [HTX.out] at ht
    obtain ⟨A14, c14, rfl, hd, ho, hr⟩ := ht
    simp only at hd hr
    simp only
    rw [HNX.out]
    have ho : Only g w10 W := (Only.of_below ((Below.refl w10.heap.size w10).drewN 1)).trans ho
    obtain ⟨y0, y1, y2, hy⟩ := HR10.out.block
    have HDW := hide hd
    have HRW := hide hr
    have HVW := hide (Only.fresh ho HG4.out HV10.out)
    have HR12W := hide (HR12.out.far ho HNE12.out)
    have HX13W := hide (HX13.out.far ho HNE13.out)
    have HEW : Hid (DfOk 0 68 109 .i64 W x A13 c13) := ⟨HE10.out.sps.keep (fun b => nob b) (Stays.only ho hy (by decide)) (Stays.only ho hy (by decide)), HE10.out.cap, HE10.out.none, Nat.zero_le _⟩
    clear hd hr ho hy
    go_wp2
    refine hK.out _ _ (⟨HR12W.out, HX13W.out⟩) ?_
    clear hK K
    refine alH fun K hK => ?_
    go_wp2_with fail
    refine (desame_any 0 0 63 79 68 109 x x A14 A13 n13 n13 c14 c13 W HDW.out.sps HEW.out.sps (Nat.zero_le _) (Nat.zero_le _) HNX.out HNX.out (by have := HGX.out.many; rw [HNX.out] at this; omega) HGX.out.each HGX.out.lb (dec_self x)).mono ?_
    rintro e k1 ⟨rfl, hb⟩
    have B1 := hide hb
    clear hb
    go_wp2
    refine hK.out _ _ (⟨HR12W.out.later B1.out, HX13W.out.later B1.out⟩) ?_
    clear hK K
    refine alH fun K hK => ?_
    go_wp2
    refine hK.out _ _ (⟨HR12W.out.later B1.out, HX13W.out.later B1.out⟩) ?_
    clear hK K
    refine alH fun K hK => ?_
    go_wp2
    refine hK.out _ _ (⟨HR12W.out.later B1.out, HX13W.out.later B1.out⟩) ?_
    clear hK K
    iterate 2 refine stH (h := ?_)
    refine stH (hy := fun w hS => by obtain ⟨f0, f1, f2, -⟩ := cells3 hS.1; go_simp <;> with_reducible rfl) (h := ?_)
    refine alH fun K hK => ?_
    go_wp2_with fail
    refine (err_s g xs (T, E) k1 (HRW.out.later B1.out)).mono ?_
    rintro e kz ⟨rfl, rfl⟩
    go_wp2
    refine hK.out _ _ (⟨HR12W.out.later B1.out, HX13W.out.later B1.out⟩) ?_
    clear hK K
    refine alH fun K hK => ?_
    go_wp2
    refine hK.out _ _ (⟨HR12W.out.later B1.out, HX13W.out.later B1.out⟩) ?_
    clear hK K
    refine alH fun K hK => ?_
    go_wp2
    refine hK.out _ _ (⟨HR12W.out.later B1.out, HX13W.out.later B1.out⟩) ?_
    clear hK K
    refine alH fun K hK => ?_
    go_wp2
    refine hK.out _ _ (⟨HR12W.out.later B1.out, HX13W.out.later B1.out⟩) ?_
    clear hK K
    refine alH fun K hK => ?_
    go_wp2
    refine hK.out _ _ (⟨HR12W.out.later B1.out, HX13W.out.later B1.out⟩) ?_
    clear hK K
    obtain ⟨f0, f1, f2, lf⟩ := cells3 (HR12W.out.later B1.out)
    refine alH fun K hK => ?_
    go_wp2
    refine hK.out _ _ (⟨HR12W.out.later B1.out, HX13W.out.later B1.out⟩) ?_
    clear hK K
    clear f0 f1 f2 lf
    refine alH fun K hK => ?_
    go_wp2
    refine hK.out _ _ (⟨HR12W.out.later B1.out, HX13W.out.later B1.out⟩) ?_
    clear hK K
    refine alH fun K hK => ?_
    go_wp2
    refine hK.out _ _ (⟨HR12W.out.later B1.out, HX13W.out.later B1.out⟩) ?_
    clear hK K
    iterate 3 refine skH (h := ?_)
    iterate 2 refine paH (⟨HR12W.out.later B1.out, HX13W.out.later B1.out⟩) (h := ?_)
    refine alH fun K hK => ?_
    go_wp2
    refine hK.out _ _ (⟨HR12W.out.later B1.out, HX13W.out.later B1.out⟩) ?_
    clear hK K
    refine alH fun K hK => ?_
    go_wp2
    refine hK.out _ _ (⟨HR12W.out.later B1.out, HX13W.out.later B1.out⟩) ?_
    clear hK K
    refine alH fun K hK => ?_
    go_wp2
    refine hK.out _ _ (⟨HR12W.out.later B1.out, HX13W.out.later B1.out⟩) ?_
    clear hK K
    refine stH (h := ?_)
    refine alH fun K hK => ?_
    go_wp2_with fail
    refine (detake_nil k1).mono ?_
    rintro e k2 ⟨rfl, hb⟩
    have B2 := hide (B1.out.trans (hb.mono B1.out.size))
    clear hb
    go_wp2
    refine hK.out _ _ (⟨HR12W.out.later B2.out, HX13W.out.later B2.out⟩) ?_
    clear hK K
    refine alH fun K hK => ?_
    go_wp2_with fail
    refine (zsame_any none 0 k2).mono ?_
    rintro e k3 ⟨rfl, hb⟩
    have B3 := hide (B2.out.trans (hb.mono B2.out.size))
    clear hb
    go_wp2
    refine hK.out _ _ (⟨HR12W.out.later B3.out, HX13W.out.later B3.out⟩) ?_
    clear hK K
    refine alH fun K hK => ?_
    go_wp2
    refine hK.out _ _ (⟨HR12W.out.later B3.out, HX13W.out.later B3.out⟩) ?_
    clear hK K
    refine alH fun K hK => ?_
    go_wp2
    refine hK.out _ _ (⟨HR12W.out.later B3.out, HX13W.out.later B3.out⟩) ?_
    clear hK K
    refine chainH_nil ?_
    have HVf := hide (HVW.out.trans (B3.out.mono HVW.out.size))
    have HBf := hide (HB1.out.trans (HVf.out.mono HB1.out.size))
    clear B1 B2 B3
    by_cases hD : D = 0
    · have d1 : (D != 0) = false := by simpa using hD
      obtain ⟨b1, b2⟩ := parseDe_back (xs := xs) HBY.out (by rw [HPX.out]; exact hD)
      rw [HPX.out] at b1 b2
      simp only at b1 b2
      have HSZ : Hid ((bytesSs ps.ss).length ≤ 300000) := by
        unfold Hid
        have := congrArg List.length b1
        rw [bytesDe_head, List.length_append, HN.out] at this
        omega
      have BK := hide (debytes_any 0 63 79 ps A5 n5 c5 k3 (HP1.out.below HVf.out).sps (Nat.zero_le _) HPN.out (by have := HGP.out.many; rw [HPN.out] at this; omega) HGP.out.lb HSZ.out (HS.out.below HBf.out))
      have HB1E := hide b1
      have HB2E := hide b2
      clear hD b1 b2
      obtain ⟨g0, g1, g2, g3, g4, lg⟩ := cells5 (HQ5.out.later HVf.out)
      go_wp2_with fail
      refine BK.out.mono ?_
      clear BK
      rintro e v1 ⟨v, he, ho⟩
      rw [HB2E.out] at he ho
      rw [if_pos rfl, HB1E.out] at ho
      subst he
      obtain ⟨Ab, cb, rfl, hi, -⟩ := ho.form2
      have hb := ho.bel
      rw [HN.out]
      have HI1' := hide hi
      have HV1' := hide (HBf.out.trans (hb.mono HBf.out.size))
      clear hi hb ho g0 g1 g2 g3 g4 lg
      go_wp2_with fail
      refine (deknown_any v1 (HS.out.below HV1'.out)).mono ?_
      rintro e v2 ⟨rfl, hb⟩
      have HI2' := hide (HI1'.out.below hb)
      have HV2' := hide (HV1'.out.trans (hb.mono HV1'.out.size))
      clear hb
      go_wp2_with fail
      refine (nu_same_yes Ab A M cb cap xs v2 HI2'.out (HI.out.below HV2'.out) HN.out HBY.out).mono ?_
      rintro e v3 ⟨rfl, rfl⟩
      go_wp2
      go_ret
      exact ⟨rfl, HV2'.out⟩
    · have d1 : (D != 0) = true := by simpa using hD
      clear hD
      go_wp2_with fail
      refine (deknown_any _ (HS.out.below HBf.out)).mono ?_
      rintro e v2 ⟨rfl, hb⟩
      have HV2' := hide (HBf.out.trans (hb.mono HBf.out.size))
      clear hb
      go_wp2
      go_ret
      exact ⟨rfl, HV2'.out⟩
end Go.Proofs.YthogcfjlipaekaaDoor
