/-
  Contract: the difference that a reader tells (the program's Take).
-/
import Derived.Test.YthogcfjlipaekaaDoorDeTake2
import Derived.Test.YthogcfjlipaekaaDoorB16
import Derived.Test.YthogcfjlipaekaaDoorB6
namespace Go.Proofs.YthogcfjlipaekaaDoor
set_option maxRecDepth 100000
open Go.ChangeShapes Go.WideShapes Go.ChangeAt Go.RowKit
set_option linter.unusedVariables false

theorem Stays.only {t t' : TypeId} {g : Nat} {w w' : World} {l : List Value} (ho : Only g w w') (hw : Whole w g t' l) (ht : t ≠ t') : Stays t w w' := fun b cur hb => by
  refine World.grownBy.block ho b (Array.getElem?_eq_some_iff.1 hb).1 ?_
  intro e
  cases e
  rw [show w.heap[g]? = _ from hw] at hb
  simp only [Option.some.injEq, Obj.cells.injEq] at hb
  exact ht hb.2.1.symm
theorem RdS.block {w : World} {g : Nat} {xs : List Int} {s : Nat × Int} (h : RdS w g xs s) : ∃ x0 x1 x2, Whole w g 94 [x0, x1, x2] := by
  obtain ⟨t, -, h2, -⟩ := h
  obtain ⟨A, c, hw, -⟩ := h2.ex
  exact ⟨_, _, _, hw⟩
theorem RdS.stays {w w1 : World} {g : Nat} {xs : List Int} {s : Nat × Int} {te : TypeId} (h : RdS w g xs s) (hs : ∀ t', t' ≠ te → Stays t' w w1) (h1 : 94 ≠ te) (h2 : 5 ≠ te) : RdS w1 g xs s := by
  obtain ⟨t, h3, h4, h5⟩ := h
  obtain ⟨A, c, hw, hi, hc, hA⟩ := h4.ex
  exact ⟨t, h3, ⟨A, c, (hs _ h1 g _ hw).trans hw, hi.keep fun b cur hh => hs 5 h2 b cur hh, hc, hA⟩, h5⟩
/-- What Take leaves. -/
def TakeDS (g : Nat) (w : World) (xs : List Int) (x : (Nat × Int) × Df) (e : Ending) (w' : World) : Prop :=
  ∃ A c, e = .returned (.agg #[.int .i64 x.2.rows, .int .i64 x.2.cols, .int .i64 x.2.row, .int .i64 x.2.col, .slice A x.2.ss.length c]) ∧ DfOk 0 63 79 .i32 w' x.2 A c ∧ Only g w w' ∧ RdS w' g xs x.1
theorem dloop_next {xs : List Int} {s : Nat × Int} {j : Nat} (h : (dloopD xs s j).1.2 = 0) : dloopD xs s (j + 1) = ((spanD xs (dloopD xs s j).1).1, (dloopD xs s j).2 ++ [(spanD xs (dloopD xs s j).1).2]) := by
  show (if (dloopD xs s j).1.2 = 0 then _ else _) = _
  rw [if_pos h]
theorem dloop_stays {xs : List Int} {s : Nat × Int} {j : Nat} (h : (dloopD xs s j).1.2 ≠ 0) : ∀ m, dloopD xs s (j + m) = dloopD xs s j := by
  intro m
  induction m with
  | zero => rfl
  | succ m ih =>
    have u : dloopD xs s (j + m + 1) = if (dloopD xs s (j + m)).1.2 = 0 then ((spanD xs (dloopD xs s (j + m)).1).1, (dloopD xs s (j + m)).2 ++ [(spanD xs (dloopD xs s (j + m)).1).2]) else dloopD xs s (j + m) := rfl
    rw [← Nat.add_assoc, u, ih, if_neg h]
/-- The end of the document's reading. -/
def endD (l : (Nat × Int) × Df) : (Nat × Int) × Df := ((l.1.1, if l.1.2 = 0 then checkD l.2 else l.1.2), if (if l.1.2 = 0 then checkD l.2 else l.1.2) = 0 then l.2 else zeroD)
theorem takeDe_is {xs : List Int} {s s4 s5 : Nat × Int} {a1 a2 a3 a4 V : Int} (h : sidesD xs s 4 = (s4, [a1, a2, a3, a4])) (hU : upD xs s4 512 6 = (s5, V)) : takeDe xs s = endD ((dloopD xs s5 V.toNat).1, ⟨a1, a2, a3, a4, (dloopD xs s5 V.toNat).2⟩) := by
  have e : sidesD xs s 4 = ((upD xs (upD xs (upD xs (upD xs s 512 5).1 512 5).1 512 5).1 512 5).1, [(upD xs s 512 5).2, (upD xs (upD xs s 512 5).1 512 5).2, (upD xs (upD xs (upD xs s 512 5).1 512 5).1 512 5).2, (upD xs (upD xs (upD xs (upD xs s 512 5).1 512 5).1 512 5).1 512 5).2]) := rfl
  rw [e] at h
  simp only [Prod.mk.injEq, List.cons.injEq, and_true] at h
  obtain ⟨h0, h1, h2, h3, h4⟩ := h
  rw [← h0] at hU
  unfold takeDe rawD
  simp only [hU, h1, h2, h3, h4]
  rfl
theorem sides_four (xs : List Int) (s : Nat × Int) : ∃ s4 a1 a2 a3 a4, sidesD xs s 4 = (s4, [a1, a2, a3, a4]) := ⟨_, _, _, _, _, rfl⟩
theorem endD_err {T : Nat} {E : Int} {d : Df} (h : E ≠ 0) : endD ((T, E), d) = ((T, E), zeroD) := by unfold endD; simp only [if_neg h]
theorem endD_fin {T : Nat} {d : Df} : endD ((T, 0), d) = ((T, checkD d), if checkD d = 0 then d else zeroD) := by unfold endD; simp only [if_true]
theorem only_put5 {g q : Nat} {w w1 : World} (h : Only g w w1) (hq : w.heap.size ≤ q) (x0 x1 x2 x3 x4 : Value) : Only g w (((((w1.setCell ⟨q, 0, none⟩ x0).setCell ⟨q, 1, none⟩ x1).setCell ⟨q, 2, none⟩ x2).setCell ⟨q, 3, none⟩ x3).setCell ⟨q, 4, none⟩ x4) := only_putq (only_putq (only_put3 h hq x0 x1 x2) hq x3) hq x4
theorem RdS.put5 {w : World} {g q : Nat} {t : TypeId} {y0 y1 y2 y3 y4 : Value} {xs : List Int} {s : Nat × Int} (h : RdS w g xs s) (hw : Whole w q t [y0, y1, y2, y3, y4]) (ht : t ≠ 5) (hne : g ≠ q) (x0 x1 x2 x3 x4 : Value) : RdS (((((w.setCell ⟨q, 0, none⟩ x0).setCell ⟨q, 1, none⟩ x1).setCell ⟨q, 2, none⟩ x2).setCell ⟨q, 3, none⟩ x3).setCell ⟨q, 4, none⟩ x4) g xs s :=
  ((((h.putq (i := 0) (x := x0) hw ht hne).putq (i := 1) (x := x1) (hw.put 0 _) ht hne).putq (i := 2) (x := x2) ((hw.put 0 _).put 1 _) ht hne).putq (i := 3) (x := x3) (((hw.put 0 _).put 1 _).put 2 _) ht hne).putq (i := 4) (x := x4) ((((hw.put 0 _).put 1 _).put 2 _).put 3 _) ht hne

set_option maxHeartbeats 4000000 in
theorem detake_s (g : Nat) (xs : List Int) (s : Nat × Int) (w : World) (h : RdS w g xs s) (hb : Byte xs) (hl : xs.length ≤ 1000000) (hS : Spans w) :
    Calls Tryd.prog 21 #[.pointer (some ⟨g, 0, none⟩)] w (TakeDS g w xs (takeDe xs s)) := by
  have HG0 := hide (spans_rd hS h)
  have HG : Hid (g < w.heap.size) := h.lt
  obtain ⟨W0, hW0⟩ : ∃ W0, ((w.alloc (.cells #[.int .i64 0, .int .i64 0, .int .i64 0, .int .i64 0, .slice none 0 0] 24)).alloc (.cells #[.int .i64 0, .int .i64 0, .int .i64 0, .int .i64 0, .slice none 0 0] 24)).alloc (.cells #[.pointer (some ⟨w.heap.size + 1, 0, none⟩), .pointer (some ⟨w.heap.size + 1, 1, none⟩), .pointer (some ⟨w.heap.size + 1, 2, none⟩), .pointer (some ⟨w.heap.size + 1, 3, none⟩)] 101) = W0 := ⟨_, rfl⟩
  have HB0 : Hid (Below w.heap.size w W0) := by unfold Hid; rw [← hW0]; exact three_newW w _ _ _
  have HP0 : Hid (Whole W0 w.heap.size 24 [.int .i64 0, .int .i64 0, .int .i64 0, .int .i64 0, .slice none 0 0]) := by unfold Hid; rw [← hW0]; exact ((Whole.new w 24 [.int .i64 0, .int .i64 0, .int .i64 0, .int .i64 0, .slice none 0 0]).alloc _).alloc _
  have HX0 : Hid (Whole W0 (w.heap.size + 1) 24 [.int .i64 0, .int .i64 0, .int .i64 0, .int .i64 0, .slice none 0 0]) := by unfold Hid; rw [← hW0]; exact (whole_snd w _ 24 [.int .i64 0, .int .i64 0, .int .i64 0, .int .i64 0, .slice none 0 0]).alloc _
  have HQ0 : Hid (Whole W0 (w.heap.size + 1 + 1) 101 (ptrsTo (w.heap.size + 1) 4)) := by unfold Hid; rw [← hW0]; exact whole_thd w _ _ 101 [.pointer (some ⟨w.heap.size + 1, 0, none⟩), .pointer (some ⟨w.heap.size + 1, 1, none⟩), .pointer (some ⟨w.heap.size + 1, 2, none⟩), .pointer (some ⟨w.heap.size + 1, 3, none⟩)]
  have HR0 := hide (h.later HB0.out)
  have HS0 := hide hS
  have HNE : Hid (w.heap.size + 1 ≠ g) := by unfold Hid; have := HG.out; omega
  have HNP : Hid (w.heap.size ≠ g) := by unfold Hid; have := HG.out; omega
  have KEY := hide (takesides_any g (w.heap.size + 1) (w.heap.size + 1 + 1) 24 4 [.int .i64 0, .int .i64 0, .int .i64 0, .int .i64 0, .slice none 0 0] xs s W0 HR0.out hb hl HQ0.out HX0.out (by decide) (by decide) (by decide) (Ne.symm HNE.out) (by have := HG.out; omega) (by omega))
  obtain ⟨s4, a1, a2, a3, a4, h4⟩ := sides_four xs s
  rw [h4] at KEY
  simp only [List.map_cons, List.map_nil, List.drop_succ_cons, List.drop_zero, List.cons_append, List.nil_append] at KEY
  obtain ⟨⟨s5, V⟩, hU⟩ : ∃ U, upD xs s4 512 6 = U := ⟨_, rfl⟩
  have hbd := upD_bd (xs := xs) (s := s4) (most := 512) (er := 6) hb (by omega)
  rw [hU] at hbd
  simp only at hbd
  obtain ⟨N, rfl⟩ : ∃ N : Nat, V = (N : Int) := ⟨V.toNat, by omega⟩
  have htd := takeDe_is h4 hU
  rw [Int.toNat_natCast] at htd
  have HTD := hide htd
  have HU4 := hide hU
  have HW0 := hide hW0
  have hN : N ≤ 512 := by omega
  clear h hS hW0 h4 hU htd hbd
  go_enter Tryd.func21, Tryd.ntmps21
  go_wp2
  go_step3
  go_wp2_with fail
  rw [HW0.out]
  refine KEY.out.mono ?_
  rintro e w1 ⟨rfl, hr, hx, ht⟩
  have HO1 := hide (ht.only HB0.out (by omega))
  have HP1 := hide (ht.whole HP0.out HNP.out (by omega) (by omega))
  have HR1 := hide hr
  have HX1 := hide hx
  have HS1 := hide (HO1.out.spans HS0.out HG0.out)
  clear hr hx ht
  go_wp2_with fail
  refine (some_s g xs s4 512 w1 HR1.out hb hl (by omega)).mono ?_
  rw [HU4.out]
  rintro e w2 ⟨rfl, ho, hr⟩
  have HO2 := hide (HO1.out.trans ho)
  have HP2 := hide (HP1.out.far ho HNP.out)
  have HX2 := hide (HX1.out.far ho HNE.out)
  have HR2 := hide hr
  have HS2 := hide (ho.spans HS1.out HG0.out)
  have HU2 : Hid (Ud 24 63 79 .i32 0 (w.heap.size + 1) w.heap.size w2 w2 a1 a2 a3 a4 (.slice none 0 0) []) := ⟨HX2.out, OwnS.start HO2.out.size (Nat.zero_le _), Nat.le_succ _⟩
  clear ho hr
  go_wp2
  go_step3
  go_wp2
  go_loopw [4, 15, 20] (fun l _ _ wr => ∃ (j k : Nat) (v : Value), k + j = N ∧ l = .int .i64 j ∧ Hid (RdS wr g xs (dloopD xs s5 k).1) ∧ Hid (Ud 24 63 79 .i32 0 (w.heap.size + 1) w.heap.size wr wr a1 a2 a3 a4 v (dloopD xs s5 k).2) ∧ Hid (Whole wr w.heap.size 24 [.int .i64 0, .int .i64 0, .int .i64 0, .int .i64 0, .slice none 0 0]) ∧ Hid (Only g w wr) ∧ Hid (Spans wr) ∧ Hid ((dloopD xs s5 k).2.length ≤ k)) (fun l _ _ _ => (intOf l).toNat)
  case atStart => exact ⟨N, 0, _, by omega, rfl, HR2, HU2, HP2, HO2, HS2, Nat.le_refl _⟩
  case round =>
    obtain ⟨j, k, v, hjk, rfl, HRk, HU, HPk, HOk, HSk, HLk⟩ := hrel
    have hstay := @dloop_stays xs s5 k
    have hnext := @dloop_next xs s5 k
    obtain ⟨⟨sk, sk2⟩, hX⟩ : ∃ X, dloopD xs s5 k = X := ⟨_, rfl⟩
    have HX := hide hX
    rw [hX] at HRk HU HLk hstay hnext
    simp only at HRk HU HLk hstay hnext
    obtain ⟨T, E⟩ := sk
    obtain ⟨sk, hsk⟩ : ∃ sk, (T, E) = sk := ⟨_, rfl⟩
    have hskE : sk.2 = E := by rw [← hsk]
    rw [hsk] at HRk hnext
    rw [hskE] at hnext
    have HK := hide hskE
    have HSK := hide hsk
    clear hX hskE hsk
    simp only at hstay
    obtain ⟨A3, c3, rfl⟩ := HU.out.slice
    obtain ⟨kn, hkn⟩ : ∃ kn, sk2.length = kn := ⟨_, rfl⟩
    rw [hkn] at HU
    have HKN := hide hkn
    clear hkn
    go_wp2_with fail
    refine (err_s g xs sk wr HRk.out).mono ?_
    rw [HK.out]
    rintro e wz ⟨rfl, rfl⟩
    by_cases hE : E = 0
    · have e1 : (E != 0) = false := by simpa using hE
      have hnx := hnext hE
      have HNX := hide hnx
      have HE := hide hE
      clear hstay hnext hE hnx
      by_cases hj : j = 0
      · have j1 : ((j : Int) == 0) = true := by subst hj; rfl
        obtain rfl : k = N := by omega
        have HTE : Hid (takeDe xs s = ((T, checkD ⟨a1, a2, a3, a4, sk2⟩), if checkD ⟨a1, a2, a3, a4, sk2⟩ = 0 then ⟨a1, a2, a3, a4, sk2⟩ else zeroD)) := by
          unfold Hid
          rw [HTD.out, HX.out]
          simp only
          rw [HE.out]
          exact endD_fin
        clear hj hjk
        obtain ⟨Aq, cq, hq1, hq2, hq3, hq4, -⟩ := HU.out.own.form
        rw [HKN.out] at hq1 hq3
        cases hq1
        have HSP := hide hq2
        have HC := hide hq3
        have HCN := hide hq4
        have hlk := HLk.out
        rw [HKN.out] at hlk
        clear hq2 hq3 hq4
        obtain ⟨d0, d1, d2, d3, d4, ld⟩ := cells5 HU.out.out
        go_wp2_with fail
        refine (dfcheck_any 0 63 79 ⟨a1, a2, a3, a4, sk2⟩ A3 kn c3 wr HSP.out (Nat.zero_le _) HKN.out (by omega)).mono ?_
        obtain ⟨CD, hCD⟩ : ∃ CD, checkD ⟨a1, a2, a3, a4, sk2⟩ = CD := ⟨_, rfl⟩
        rw [hCD] at HTE ⊢
        clear hCD
        rintro e w3 ⟨rfl, hb3⟩
        have HSP3 := hide (HSP.out.below hb3 (Nat.zero_le _))
        have HX3 := hide (HU.out.out.later hb3)
        have HP3 := hide (HPk.out.later hb3)
        have HO3 := hide (only_below HOk.out hb3)
        have HR3 := hide (HRk.out.later hb3)
        clear hb3 d0 d1 d2 d3 d4 ld
        by_cases hC : CD = 0
        · have c1 : (CD != 0) = false := by simpa using hC
          have HF : Hid (takeDe xs s = (sk, ⟨a1, a2, a3, a4, sk2⟩)) := by
            unfold Hid
            rw [HTE.out, if_pos hC, ← HSK.out, hC, HE.out]
          clear hC
          obtain ⟨d0, d1, d2, d3, d4, ld⟩ := cells5 HX3.out
          obtain ⟨p0, p1, p2, p3, p4, lp⟩ := cells5 HP3.out
          have z0 := HP3.out.frozen
          go_wp2
          refine retDf Tryd.results21 rfl rfl (put5 HP3.out _ _ _ _ _) ?_
          rw [HF.out]
          refine ⟨A3, c3, by rw [← HKN.out], ⟨HSP3.out.keep (fun b hb => absurd hb (Nat.not_lt_zero b)) (stays_put5 HP3.out (by decide) _ _ _ _ _) (stays_put5 HP3.out (by decide) _ _ _ _ _), by show sk2.length ≤ c3; rw [HKN.out]; exact HC.out, HCN.out, Nat.zero_le _⟩, only_put5 HO3.out (Nat.le_refl _) _ _ _ _ _, RdS.put5 HR3.out HP3.out (by decide) (Ne.symm HNP.out) _ _ _ _ _⟩
        · have c1 : (CD != 0) = true := by simpa using hC
          have HF : Hid (takeDe xs s = ((T, CD), zeroD)) := by
            unfold Hid
            rw [HTE.out, if_neg hC]
          have HCZ := hide hC
          clear hC
          go_wp2_with fail
          refine (fail_s g xs sk CD HCZ.out w3 HR3.out).mono ?_
          rintro e w4 ⟨rfl, ho, hr⟩
          have HO4 := hide (HO3.out.trans ho)
          have HP4 := hide (HP3.out.far ho HNP.out)
          have HR4 : Hid (RdS w4 g xs (T, CD)) := by
            unfold Hid
            rw [← HSK.out] at hr
            simp only [fEr, HE.out, if_true] at hr
            exact hr
          clear ho hr
          obtain ⟨p0, p1, p2, p3, p4, lp⟩ := cells5 HP4.out
          have z0 := HP4.out.frozen
          go_wp2
          refine retDf Tryd.results21 rfl rfl (put5 HP4.out _ _ _ _ _) ?_
          rw [HF.out]
          exact ⟨none, 0, rfl, ⟨.nil, Nat.le_refl _, fun _ => rfl, Nat.zero_le _⟩, only_put5 HO4.out (Nat.le_refl _) _ _ _ _ _, RdS.put5 HR4.out HP4.out (by decide) (Ne.symm HNP.out) _ _ _ _ _⟩
      · have j1 : ((j : Int) == 0) = false := by simpa using hj
        have j2 : IntKind.i64.wrap ((j : Int) - 1) = ((j - 1 : Nat) : Int) := by rw [wr64 _ (by omega)]; omega
        obtain ⟨⟨s', r, l, cs⟩, hsp⟩ : ∃ X, spanD xs sk = X := ⟨_, rfl⟩
        rw [hsp] at HNX
        simp only at HNX
        have HSP := hide hsp
        clear hsp
        have hlk := HLk.out
        rw [HKN.out] at hlk
        go_wp2
        refine rgL (fun w' => w'.cell? ⟨w.heap.size + 1, 4, none⟩ = some (.slice A3 kn c3)) 5 [(0, 2), (0, 0), (0, 1), (1, 3), (1, 4), (3, 5), (3, 6), (3, 7)] (HU.out.out.cell 4) ?_
        iterate 2 refine stL (h := ?_)
        refine stL (hy := fun w hS => by have hS := hS; go_simp <;> with_reducible rfl) (h := ?_)
        refine alL fun K hK => ?_
        go_wp2_with fail
        refine (takespan_s g xs sk wr.drew (HRk.out.later ((Below.refl _ _).drewN 1)) hb hl (HSk.out.below ((Below.refl _ _).drewN 1))).mono ?_
        rintro e k1 hx
        rw [HSP.out] at hx
        obtain ⟨A1, c1, rfl, htl, ho, hr⟩ := hx
        simp only at htl hr
        simp only
        obtain ⟨u, hu⟩ : ∃ u, cs.length = u := ⟨_, rfl⟩
        rw [hu]
        obtain ⟨y0, y1, y2, hy⟩ := HRk.out.block
        have ho : Only g wr k1 := (Only.of_below ((Below.refl wr.heap.size wr).drewN 1)).trans ho
        have HX1 : Hid (Whole k1 (w.heap.size + 1) 24 [.int .i64 a1, .int .i64 a2, .int .i64 a3, .int .i64 a4, .slice A3 kn c3]) := HU.out.out.far ho HNE.out
        have HV1 : Hid (OwnS 0 63 79 .i32 w.heap.size k1 k1 (.slice A3 kn c3) sk2) := HU.out.own.now.keep (fun b hb => absurd hb (Nat.not_lt_zero b)) (Stays.only ho hy (by decide)) (Stays.only ho hy (by decide)) ho.size
        have HO1 := hide (HOk.out.trans ho)
        have HR1 := hide hr
        have HTL := hide htl
        have HNU := hide hu
        have HP1 := hide (HPk.out.far ho HNP.out)
        have HSp1 := hide (ho.spans HSk.out HG0.out)
        clear htl ho hr hu hy
        go_wp2
        refine hK.out _ _ (HX1.out.cell 4) ?_
        clear hK K
        refine alL fun K hK => ?_
        go_wp2
        refine hK.out _ _ ((HX1.out.alloc _).cell 4) ?_
        clear hK K
        refine laL fun K hK => ?_
        go_wp2_with (at_builtin; refine stopw ?_)
        unfold Hid
        refine wpList_pushS elemSp r l A1 c1 cs u HNU.out HTL.out.cels (by have := HTL.out.cap; rw [HNU.out] at this; exact this) HTL.out.none rfl _ _ rfl rfl rfl HV1.out (by rw [HKN.out]; omega) (by omega) (by decide) ?_
        intro v2 wq hown2 hst2 hbl2
        obtain ⟨A5, n5, c5, rfl⟩ := hown2.slice
        have hbA : Below k1.heap.size k1 (k1.alloc (.cells #[.int .i64 r, .int .i64 l, .slice A1 u c1] 63)) := new1W _ _
        have HX2 := hide ((HX1.out.later hbA).same (hst2 24 (by decide) _ _ (HX1.out.later hbA)))
        have HP2 := hide ((HP1.out.later hbA).same (hst2 24 (by decide) _ _ (HP1.out.later hbA)))
        have HR2 := hide ((HR1.out.later hbA).stays hst2 (by decide) (by decide))
        have HO2 := hide (only_belowB (only_below HO1.out hbA) hbl2 (Nat.le_refl _))
        have HS2 := hide ((HSp1.out.below hbA).low hbl2 (Nat.lt_of_le_of_lt (Nat.zero_le _) HG.out))
        have HUN := hide (Ud.grow ((HX1.out.later hbA)) (Nat.le_succ _) hown2.now hst2 (by decide) (by decide))
        obtain ⟨f0, f1, f2, f3, f4, lf⟩ := cells5 HX2.out
        have ff := HX2.out.frozen 4
        clear hown2 hst2 hbl2 hbA
        go_wp2
        refine hK.out _ _ ?_
        clear hK K
        refine laL fun K hK => ?_
        go_wp2
        refine hK.out _ _ ?_
        clear hK K
        refine laL fun K hK => ?_
        go_wp2
        refine hK.out _ _ ?_
        clear hK K
        refine chainL_nil ?_
        have HR6 : Hid (RdS (wq.setCell ⟨w.heap.size + 1, 4, none⟩ (.slice A5 n5 c5)) g xs s') := HR2.out.putq HX2.out (by decide) (Ne.symm HNE.out)
        have HU6 : Hid (Ud 24 63 79 .i32 0 (w.heap.size + 1) w.heap.size (wq.setCell ⟨w.heap.size + 1, 4, none⟩ (.slice A5 n5 c5)) (wq.setCell ⟨w.heap.size + 1, 4, none⟩ (.slice A5 n5 c5)) a1 a2 a3 a4 (.slice A5 n5 c5) (sk2 ++ [⟨r, l, cs⟩])) := ⟨HUN.out.out, HUN.out.own.now, HUN.out.le⟩
        have HP6 : Hid (Whole (wq.setCell ⟨w.heap.size + 1, 4, none⟩ (.slice A5 n5 c5)) w.heap.size 24 [.int .i64 0, .int .i64 0, .int .i64 0, .int .i64 0, .slice none 0 0]) := HP2.out.far (Only.put 4 _) (by omega)
        have HO6 : Hid (Only g w (wq.setCell ⟨w.heap.size + 1, 4, none⟩ (.slice A5 n5 c5))) := only_putq HO2.out (by omega) _
        have HS6 : Hid (Spans (wq.setCell ⟨w.heap.size + 1, 4, none⟩ (.slice A5 n5 c5))) := HS2.out.putq (by omega) _
        go_wp2
        go_roundw
        case rel => exact ⟨j - 1, k + 1, _, by omega, by go_num, by rw [HNX.out]; exact HR6, by rw [HNX.out]; exact HU6, HP6, HO6, HS6, by rw [HNX.out]; unfold Hid; simp only [List.length_append, HKN.out, List.length_cons, List.length_nil]; omega⟩
        case measure => simp [intOf]; omega
    · have e1 : (E != 0) = true := by simpa using hE
      have HF : Hid (takeDe xs s = ((T, E), zeroD)) := by
        unfold Hid
        have := hstay hE j
        rw [HTD.out, show N = k + j by omega, this]
        exact endD_err hE
      clear hstay hnext hE
      obtain ⟨p0, p1, p2, p3, p4, lp⟩ := cells5 HPk.out
      have z0 := HPk.out.frozen
      go_wp2
      refine retDf Tryd.results21 rfl rfl (put5 HPk.out _ _ _ _ _) ?_
      rw [HF.out]
      exact ⟨none, 0, rfl, ⟨.nil, Nat.le_refl _, fun _ => rfl, Nat.zero_le _⟩, only_put5 HOk.out (Nat.le_refl _) _ _ _ _ _, by rw [HSK.out]; exact RdS.put5 HRk.out HPk.out (by decide) (Ne.symm HNP.out) _ _ _ _ _⟩
end Go.Proofs.YthogcfjlipaekaaDoor
