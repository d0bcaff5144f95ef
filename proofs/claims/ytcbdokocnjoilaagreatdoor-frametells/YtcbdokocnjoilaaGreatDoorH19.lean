/-
  Contracts and plain mathematics of DeTake3, DeTake4, DePut, DeBytes, DeRef1.
-/
import Derived.Test.YtcbdokocnjoilaaGreatDoorH18
import Derived.Test.YtcbdokocnjoilaaGreatDoorH14
import Derived.Test.YtcbdokocnjoilaaGreatDoorH6
import Derived.Test.YtcbdokocnjoilaaGreatDoorH13
import Derived.Test.YtcbdokocnjoilaaGreatDoorH7
import Derived.Test.YtcbdokocnjoilaaGreatDoorH8
import Derived.Maps.AppendAt
import Derived.Test.YtcbdokocnjoilaaGreatDoorH15
namespace Go.Proofs.YtcbdokocnjoilaaGreatDoor
set_option maxRecDepth 100000
set_option linter.unusedVariables false
set_option maxHeartbeats 8000000
section
open Go.ChangeShapes Go.WideShapes Go.ChangeAt Go.RowKit
theorem Stays.only {t t' : TypeId} {g : Nat} {w w' : World} {l : List Value} (ho : Only g w w') (hw : Whole w g t' l) (ht : t ≠ t') : Stays t w w' := fun b cur hb => by
  refine World.grownBy.block ho b (Array.getElem?_eq_some_iff.1 hb).1 ?_
  intro e
  cases e
  rw [show w.heap[g]? = _ from hw] at hb
  simp only [Option.some.injEq, Obj.cells.injEq] at hb
  exact ht hb.2.1.symm
theorem RdS.block {w : World} {g : Nat} {xs : List Int} {s : Nat × Int} (h : RdS w g xs s) : ∃ x0 x1 x2, Whole w g 123 [x0, x1, x2] := by
  obtain ⟨t, -, h2, -⟩ := h
  obtain ⟨A, c, hw, -⟩ := h2.ex
  exact ⟨_, _, _, hw⟩
theorem RdS.stays {w w1 : World} {g : Nat} {xs : List Int} {s : Nat × Int} {te : TypeId} (h : RdS w g xs s) (hs : ∀ t', t' ≠ te → Stays t' w w1) (h1 : 123 ≠ te) (h2 : 5 ≠ te) : RdS w1 g xs s := by
  obtain ⟨t, h3, h4, h5⟩ := h
  obtain ⟨A, c, hw, hi, hc, hA⟩ := h4.ex
  exact ⟨t, h3, ⟨A, c, (hs _ h1 g _ hw).trans hw, hi.keep fun b cur hh => hs 5 h2 b cur hh, hc, hA⟩, h5⟩
/-- What Take leaves. -/
def TakeDS (g : Nat) (w : World) (xs : List Int) (x : (Nat × Int) × Df) (e : Ending) (w' : World) : Prop :=
  ∃ A c, e = .returned (.agg #[.int .i64 x.2.rows, .int .i64 x.2.cols, .int .i64 x.2.row, .int .i64 x.2.col, .slice A x.2.ss.length c]) ∧ DfOk 0 68 105 .i32 w' x.2 A c ∧ Only g w w' ∧ RdS w' g xs x.1
theorem dloop_next {xs : List Int} {s : Nat × Int} {j : Nat} (h : (dloopD xs s j).1.2 = 0) : dloopD xs s (j + 1) = ((spanD xs (dloopD xs s j).1).1, (dloopD xs s j).2 ++ [(spanD xs (dloopD xs s j).1).2]) := by
  show (if (dloopD xs s j).1.2 = 0 then _ else _) = _
  rw [if_pos h]
theorem dloop_stays {xs : List Int} {s : Nat × Int} {j : Nat} (h : (dloopD xs s j).1.2 ≠ 0) : ∀ m, dloopD xs s (j + m) = dloopD xs s j := by
  intro m
  induction m with
  | zero => rfl
  | succ m ih =>
    have u : dloopD xs s (j + m + 1) = if (dloopD xs s (j + m)).1.2 = 0 then ((spanD xs (dloopD xs s (j + m)).1).1, (dloopD xs s (j + m)).2 ++ [(spanD xs (dloopD xs s (j + m)).1).2]) else dloopD xs s (j + m) := rfl
    rw [← Nat.add_assoc, u, ih, if_neg h]
/-- The end of the document's reading. -/
def endD (l : (Nat × Int) × Df) : (Nat × Int) × Df := ((l.1.1, if l.1.2 = 0 then checkD l.2 else l.1.2), if (if l.1.2 = 0 then checkD l.2 else l.1.2) = 0 then l.2 else zeroD)
theorem takeDe_is {xs : List Int} {s s4 s5 : Nat × Int} {a1 a2 a3 a4 V : Int} (h : sidesD xs s 4 = (s4, [a1, a2, a3, a4])) (hU : upD xs s4 512 6 = (s5, V)) : takeDe xs s = endD ((dloopD xs s5 V.toNat).1, ⟨a1, a2, a3, a4, (dloopD xs s5 V.toNat).2⟩) := by
  have e : sidesD xs s 4 = ((upD xs (upD xs (upD xs (upD xs s 512 5).1 512 5).1 512 5).1 512 5).1, [(upD xs s 512 5).2, (upD xs (upD xs s 512 5).1 512 5).2, (upD xs (upD xs (upD xs s 512 5).1 512 5).1 512 5).2, (upD xs (upD xs (upD xs (upD xs s 512 5).1 512 5).1 512 5).1 512 5).2]) := rfl
  rw [e] at h
  simp only [Prod.mk.injEq, List.cons.injEq, and_true] at h
  obtain ⟨h0, h1, h2, h3, h4⟩ := h
  rw [← h0] at hU
  unfold takeDe rawD
  simp only [hU, h1, h2, h3, h4]
  rfl
theorem sides_four (xs : List Int) (s : Nat × Int) : ∃ s4 a1 a2 a3 a4, sidesD xs s 4 = (s4, [a1, a2, a3, a4]) := ⟨_, _, _, _, _, rfl⟩
theorem endD_err {T : Nat} {E : Int} {d : Df} (h : E ≠ 0) : endD ((T, E), d) = ((T, E), zeroD) := by unfold endD; simp only [if_neg h]
theorem endD_fin {T : Nat} {d : Df} : endD ((T, 0), d) = ((T, checkD d), if checkD d = 0 then d else zeroD) := by unfold endD; simp only [if_true]
theorem only_put5 {g q : Nat} {w w1 : World} (h : Only g w w1) (hq : w.heap.size ≤ q) (x0 x1 x2 x3 x4 : Value) : Only g w (((((w1.setCell ⟨q, 0, none⟩ x0).setCell ⟨q, 1, none⟩ x1).setCell ⟨q, 2, none⟩ x2).setCell ⟨q, 3, none⟩ x3).setCell ⟨q, 4, none⟩ x4) := only_putq (only_putq (only_put3 h hq x0 x1 x2) hq x3) hq x4
theorem RdS.put5 {w : World} {g q : Nat} {t : TypeId} {y0 y1 y2 y3 y4 : Value} {xs : List Int} {s : Nat × Int} (h : RdS w g xs s) (hw : Whole w q t [y0, y1, y2, y3, y4]) (ht : t ≠ 5) (hne : g ≠ q) (x0 x1 x2 x3 x4 : Value) : RdS (((((w.setCell ⟨q, 0, none⟩ x0).setCell ⟨q, 1, none⟩ x1).setCell ⟨q, 2, none⟩ x2).setCell ⟨q, 3, none⟩ x3).setCell ⟨q, 4, none⟩ x4) g xs s :=
  ((((h.putq (i := 0) (x := x0) hw ht hne).putq (i := 1) (x := x1) (hw.put 0 _) ht hne).putq (i := 2) (x := x2) ((hw.put 0 _).put 1 _) ht hne).putq (i := 3) (x := x3) (((hw.put 0 _).put 1 _).put 2 _) ht hne).putq (i := 4) (x := x4) ((((hw.put 0 _).put 1 _).put 2 _).put 3 _) ht hne

theorem detake_s (g : Nat) (xs : List Int) (s : Nat × Int) (w : World) (h : RdS w g xs s) (hb : Byte xs) (hl : xs.length ≤ 1000000) (hS : Spans w) :
    Calls Tryz.prog 44 #[.pointer (some ⟨g, 0, none⟩)] w (TakeDS g w xs (takeDe xs s)) := by
  have HG0 := hide (spans_rd hS h)
  have HG : Hid (g < w.heap.size) := h.lt
  obtain ⟨W0, hW0⟩ : ∃ W0, ((w.alloc (.cells #[.int .i64 0, .int .i64 0, .int .i64 0, .int .i64 0, .slice none 0 0] 25)).alloc (.cells #[.int .i64 0, .int .i64 0, .int .i64 0, .int .i64 0, .slice none 0 0] 25)).alloc (.cells #[.pointer (some ⟨w.heap.size + 1, 0, none⟩), .pointer (some ⟨w.heap.size + 1, 1, none⟩), .pointer (some ⟨w.heap.size + 1, 2, none⟩), .pointer (some ⟨w.heap.size + 1, 3, none⟩)] 127) = W0 := ⟨_, rfl⟩
  have HB0 : Hid (Below w.heap.size w W0) := by unfold Hid; rw [← hW0]; exact three_newW w _ _ _
  have HP0 : Hid (Whole W0 w.heap.size 25 [.int .i64 0, .int .i64 0, .int .i64 0, .int .i64 0, .slice none 0 0]) := by unfold Hid; rw [← hW0]; exact ((Whole.new w 25 [.int .i64 0, .int .i64 0, .int .i64 0, .int .i64 0, .slice none 0 0]).alloc _).alloc _
  have HX0 : Hid (Whole W0 (w.heap.size + 1) 25 [.int .i64 0, .int .i64 0, .int .i64 0, .int .i64 0, .slice none 0 0]) := by unfold Hid; rw [← hW0]; exact (whole_snd w _ 25 [.int .i64 0, .int .i64 0, .int .i64 0, .int .i64 0, .slice none 0 0]).alloc _
  have HQ0 : Hid (Whole W0 (w.heap.size + 1 + 1) 127 (ptrsTo (w.heap.size + 1) 4)) := by unfold Hid; rw [← hW0]; exact whole_thd w _ _ 127 [.pointer (some ⟨w.heap.size + 1, 0, none⟩), .pointer (some ⟨w.heap.size + 1, 1, none⟩), .pointer (some ⟨w.heap.size + 1, 2, none⟩), .pointer (some ⟨w.heap.size + 1, 3, none⟩)]
  have HR0 := hide (h.later HB0.out)
  have HS0 := hide hS
  have HNE : Hid (w.heap.size + 1 ≠ g) := by unfold Hid; have := HG.out; omega
  have HNP : Hid (w.heap.size ≠ g) := by unfold Hid; have := HG.out; omega
  have KEY := hide (takesides_any g (w.heap.size + 1) (w.heap.size + 1 + 1) 25 4 [.int .i64 0, .int .i64 0, .int .i64 0, .int .i64 0, .slice none 0 0] xs s W0 HR0.out hb hl HQ0.out HX0.out (by decide) (by decide) (by decide) (Ne.symm HNE.out) (by have := HG.out; omega) (by omega))
  obtain ⟨s4, a1, a2, a3, a4, h4⟩ := sides_four xs s
  rw [h4] at KEY
  simp only [List.map_cons, List.map_nil, List.drop_succ_cons, List.drop_zero, List.cons_append, List.nil_append] at KEY
  obtain ⟨⟨s5, V⟩, hU⟩ : ∃ U, upD xs s4 512 6 = U := ⟨_, rfl⟩
  have hbd := upD_bd (xs := xs) (s := s4) (most := 512) (er := 6) hb (by omega)
  rw [hU] at hbd
  simp only at hbd
  obtain ⟨N, rfl⟩ : ∃ N : Nat, V = (N : Int) := ⟨V.toNat, by omega⟩
  have htd := takeDe_is h4 hU
  rw [Int.toNat_natCast] at htd
  have HTD := hide htd
  have HU4 := hide hU
  have HW0 := hide hW0
  have hN : N ≤ 512 := by omega
  clear h hS hW0 h4 hU htd hbd
  go_enter Tryz.func44, Tryz.ntmps44
  go_wp2
  go_step3
  go_wp2_with fail
  rw [HW0.out]
  refine KEY.out.mono ?_
  rintro e w1 ⟨rfl, hr, hx, ht⟩
  have HO1 := hide (ht.only HB0.out (by omega))
  have HP1 := hide (ht.whole HP0.out HNP.out (by omega) (by omega))
  have HR1 := hide hr
  have HX1 := hide hx
  have HS1 := hide (HO1.out.spans HS0.out HG0.out)
  clear hr hx ht
  go_wp2_with fail
  refine (some_s g xs s4 512 w1 HR1.out hb hl (by omega)).mono ?_
  rw [HU4.out]
  rintro e w2 ⟨rfl, ho, hr⟩
  have HO2 := hide (HO1.out.trans ho)
  have HP2 := hide (HP1.out.far ho HNP.out)
  have HX2 := hide (HX1.out.far ho HNE.out)
  have HR2 := hide hr
  have HS2 := hide (ho.spans HS1.out HG0.out)
  have HU2 : Hid (Ud 25 68 105 .i32 0 (w.heap.size + 1) w.heap.size w2 w2 a1 a2 a3 a4 (.slice none 0 0) []) := ⟨HX2.out, OwnS.start HO2.out.size (Nat.zero_le _), Nat.le_succ _⟩
  clear ho hr
  go_wp2
  go_step3
  go_wp2
  go_loopw [4, 15, 20] (fun l _ _ wr => ∃ (j k : Nat) (v : Value), k + j = N ∧ l = .int .i64 j ∧ Hid (RdS wr g xs (dloopD xs s5 k).1) ∧ Hid (Ud 25 68 105 .i32 0 (w.heap.size + 1) w.heap.size wr wr a1 a2 a3 a4 v (dloopD xs s5 k).2) ∧ Hid (Whole wr w.heap.size 25 [.int .i64 0, .int .i64 0, .int .i64 0, .int .i64 0, .slice none 0 0]) ∧ Hid (Only g w wr) ∧ Hid (Spans wr) ∧ Hid ((dloopD xs s5 k).2.length ≤ k)) (fun l _ _ _ => (intOf l).toNat)
  case atStart => exact ⟨N, 0, _, by omega, rfl, HR2, HU2, HP2, HO2, HS2, Nat.le_refl _⟩
  case round =>
    obtain ⟨j, k, v, hjk, rfl, HRk, HU, HPk, HOk, HSk, HLk⟩ := hrel
    have hstay := @dloop_stays xs s5 k
    have hnext := @dloop_next xs s5 k
    obtain ⟨⟨sk, sk2⟩, hX⟩ : ∃ X, dloopD xs s5 k = X := ⟨_, rfl⟩
    have HX := hide hX
    rw [hX] at HRk HU HLk hstay hnext
    simp only at HRk HU HLk hstay hnext
    obtain ⟨T, E⟩ := sk
    obtain ⟨sk, hsk⟩ : ∃ sk, (T, E) = sk := ⟨_, rfl⟩
    have hskE : sk.2 = E := by rw [← hsk]
    rw [hsk] at HRk hnext
    rw [hskE] at hnext
    have HK := hide hskE
    have HSK := hide hsk
    clear hX hskE hsk
    simp only at hstay
    obtain ⟨A3, c3, rfl⟩ := HU.out.slice
    obtain ⟨kn, hkn⟩ : ∃ kn, sk2.length = kn := ⟨_, rfl⟩
    rw [hkn] at HU
    have HKN := hide hkn
    clear hkn
    go_wp2_with fail
    refine (err_s g xs sk wr HRk.out).mono ?_
    rw [HK.out]
    rintro e wz ⟨rfl, rfl⟩
    by_cases hE : E = 0
    · have e1 : (E != 0) = false := by simpa using hE
      have hnx := hnext hE
      have HNX := hide hnx
      have HE := hide hE
      clear hstay hnext hE hnx
      by_cases hj : j = 0
      · have j1 : ((j : Int) == 0) = true := by subst hj; rfl
        obtain rfl : k = N := by omega
        have HTE : Hid (takeDe xs s = ((T, checkD ⟨a1, a2, a3, a4, sk2⟩), if checkD ⟨a1, a2, a3, a4, sk2⟩ = 0 then ⟨a1, a2, a3, a4, sk2⟩ else zeroD)) := by
          unfold Hid
          rw [HTD.out, HX.out]
          simp only
          rw [HE.out]
          exact endD_fin
        clear hj hjk
        obtain ⟨Aq, cq, hq1, hq2, hq3, hq4, -⟩ := HU.out.own.form
        rw [HKN.out] at hq1 hq3
        cases hq1
        have HSP := hide hq2
        have HC := hide hq3
        have HCN := hide hq4
        have hlk := HLk.out
        rw [HKN.out] at hlk
        clear hq2 hq3 hq4
        obtain ⟨d0, d1, d2, d3, d4, ld⟩ := cells5 HU.out.out
        go_wp2_with fail
        refine (dfcheck_any 0 68 105 ⟨a1, a2, a3, a4, sk2⟩ A3 kn c3 wr HSP.out (Nat.zero_le _) HKN.out (by omega)).mono ?_
        obtain ⟨CD, hCD⟩ : ∃ CD, checkD ⟨a1, a2, a3, a4, sk2⟩ = CD := ⟨_, rfl⟩
        rw [hCD] at HTE ⊢
        clear hCD
        rintro e w3 ⟨rfl, hb3⟩
        have HSP3 := hide (HSP.out.below hb3 (Nat.zero_le _))
        have HX3 := hide (HU.out.out.later hb3)
        have HP3 := hide (HPk.out.later hb3)
        have HO3 := hide (only_below HOk.out hb3)
        have HR3 := hide (HRk.out.later hb3)
        clear hb3 d0 d1 d2 d3 d4 ld
        by_cases hC : CD = 0
        · have c1 : (CD != 0) = false := by simpa using hC
          have HF : Hid (takeDe xs s = (sk, ⟨a1, a2, a3, a4, sk2⟩)) := by
            unfold Hid
            rw [HTE.out, if_pos hC, ← HSK.out, hC, HE.out]
          clear hC
          obtain ⟨d0, d1, d2, d3, d4, ld⟩ := cells5 HX3.out
          obtain ⟨p0, p1, p2, p3, p4, lp⟩ := cells5 HP3.out
          have z0 := HP3.out.frozen
          go_wp2
          refine retDf Tryz.results44 rfl rfl (put5 HP3.out _ _ _ _ _) ?_
          rw [HF.out]
          refine ⟨A3, c3, by rw [← HKN.out], ⟨HSP3.out.keep (fun b hb => absurd hb (Nat.not_lt_zero b)) (stays_put5 HP3.out (by decide) _ _ _ _ _) (stays_put5 HP3.out (by decide) _ _ _ _ _), by show sk2.length ≤ c3; rw [HKN.out]; exact HC.out, HCN.out, Nat.zero_le _⟩, only_put5 HO3.out (Nat.le_refl _) _ _ _ _ _, RdS.put5 HR3.out HP3.out (by decide) (Ne.symm HNP.out) _ _ _ _ _⟩
        · have c1 : (CD != 0) = true := by simpa using hC
          have HF : Hid (takeDe xs s = ((T, CD), zeroD)) := by
            unfold Hid
            rw [HTE.out, if_neg hC]
          have HCZ := hide hC
          clear hC
          go_wp2_with fail
          refine (fail_s g xs sk CD HCZ.out w3 HR3.out).mono ?_
          rintro e w4 ⟨rfl, ho, hr⟩
          have HO4 := hide (HO3.out.trans ho)
          have HP4 := hide (HP3.out.far ho HNP.out)
          have HR4 : Hid (RdS w4 g xs (T, CD)) := by
            unfold Hid
            rw [← HSK.out] at hr
            simp only [fEr, HE.out, if_true] at hr
            exact hr
          clear ho hr
          obtain ⟨p0, p1, p2, p3, p4, lp⟩ := cells5 HP4.out
          have z0 := HP4.out.frozen
          go_wp2
          refine retDf Tryz.results44 rfl rfl (put5 HP4.out _ _ _ _ _) ?_
          rw [HF.out]
          exact ⟨none, 0, rfl, ⟨.nil, Nat.le_refl _, fun _ => rfl, Nat.zero_le _⟩, only_put5 HO4.out (Nat.le_refl _) _ _ _ _ _, RdS.put5 HR4.out HP4.out (by decide) (Ne.symm HNP.out) _ _ _ _ _⟩
      · have j1 : ((j : Int) == 0) = false := by simpa using hj
        have j2 : IntKind.i64.wrap ((j : Int) - 1) = ((j - 1 : Nat) : Int) := by rw [wr64 _ (by omega)]; omega
        obtain ⟨⟨s', r, l, cs⟩, hsp⟩ : ∃ X, spanD xs sk = X := ⟨_, rfl⟩
        rw [hsp] at HNX
        simp only at HNX
        have HSP := hide hsp
        clear hsp
        have hlk := HLk.out
        rw [HKN.out] at hlk
        go_wp2
        refine rgL (fun w' => w'.cell? ⟨w.heap.size + 1, 4, none⟩ = some (.slice A3 kn c3)) 5 [(0, 2), (0, 0), (0, 1), (1, 3), (1, 4), (3, 5), (3, 6), (3, 7)] (HU.out.out.cell 4) ?_
        iterate 2 refine stL (h := ?_)
        refine stL (hy := fun w hS => by have hS := hS; go_simp <;> with_reducible rfl) (h := ?_)
        refine alL fun K hK => ?_
        go_wp2_with fail
        refine (takespan_s g xs sk wr.drew (HRk.out.later ((Below.refl _ _).drewN 1)) hb hl (HSk.out.below ((Below.refl _ _).drewN 1))).mono ?_
        rintro e k1 hx
        rw [HSP.out] at hx
        obtain ⟨A1, c1, rfl, htl, ho, hr⟩ := hx
        simp only at htl hr
        simp only
        obtain ⟨u, hu⟩ : ∃ u, cs.length = u := ⟨_, rfl⟩
        rw [hu]
        obtain ⟨y0, y1, y2, hy⟩ := HRk.out.block
        have ho : Only g wr k1 := (Only.of_below ((Below.refl wr.heap.size wr).drewN 1)).trans ho
        have HX1 : Hid (Whole k1 (w.heap.size + 1) 25 [.int .i64 a1, .int .i64 a2, .int .i64 a3, .int .i64 a4, .slice A3 kn c3]) := HU.out.out.far ho HNE.out
        have HV1 : Hid (OwnS 0 68 105 .i32 w.heap.size k1 k1 (.slice A3 kn c3) sk2) := HU.out.own.now.keep (fun b hb => absurd hb (Nat.not_lt_zero b)) (Stays.only ho hy (by decide)) (Stays.only ho hy (by decide)) ho.size
        have HO1 := hide (HOk.out.trans ho)
        have HR1 := hide hr
        have HTL := hide htl
        have HNU := hide hu
        have HP1 := hide (HPk.out.far ho HNP.out)
        have HSp1 := hide (ho.spans HSk.out HG0.out)
        clear htl ho hr hu hy
        go_wp2
        refine hK.out _ _ (HX1.out.cell 4) ?_
        clear hK K
        refine alL fun K hK => ?_
        go_wp2
        refine hK.out _ _ ((HX1.out.alloc _).cell 4) ?_
        clear hK K
        refine laL fun K hK => ?_
        go_wp2_with (at_builtin; refine stopw ?_)
        unfold Hid
        refine wpList_pushS elemSp r l A1 c1 cs u HNU.out HTL.out.cels (by have := HTL.out.cap; rw [HNU.out] at this; exact this) HTL.out.none rfl _ _ rfl rfl rfl HV1.out (by rw [HKN.out]; omega) (by omega) (by decide) ?_
        intro v2 wq hown2 hst2 hbl2
        obtain ⟨A5, n5, c5, rfl⟩ := hown2.slice
        have hbA : Below k1.heap.size k1 (k1.alloc (.cells #[.int .i64 r, .int .i64 l, .slice A1 u c1] 68)) := new1W _ _
        have HX2 := hide ((HX1.out.later hbA).same (hst2 25 (by decide) _ _ (HX1.out.later hbA)))
        have HP2 := hide ((HP1.out.later hbA).same (hst2 25 (by decide) _ _ (HP1.out.later hbA)))
        have HR2 := hide ((HR1.out.later hbA).stays hst2 (by decide) (by decide))
        have HO2 := hide (only_belowB (only_below HO1.out hbA) hbl2 (Nat.le_refl _))
        have HS2 := hide ((HSp1.out.below hbA).low hbl2 (Nat.lt_of_le_of_lt (Nat.zero_le _) HG.out))
        have HUN := hide (Ud.grow ((HX1.out.later hbA)) (Nat.le_succ _) hown2.now hst2 (by decide) (by decide))
        obtain ⟨f0, f1, f2, f3, f4, lf⟩ := cells5 HX2.out
        have ff := HX2.out.frozen 4
        clear hown2 hst2 hbl2 hbA
        go_wp2
        refine hK.out _ _ ?_
        clear hK K
        refine laL fun K hK => ?_
        go_wp2
        refine hK.out _ _ ?_
        clear hK K
        refine laL fun K hK => ?_
        go_wp2
        refine hK.out _ _ ?_
        clear hK K
        refine chainL_nil ?_
        have HR6 : Hid (RdS (wq.setCell ⟨w.heap.size + 1, 4, none⟩ (.slice A5 n5 c5)) g xs s') := HR2.out.putq HX2.out (by decide) (Ne.symm HNE.out)
        have HU6 : Hid (Ud 25 68 105 .i32 0 (w.heap.size + 1) w.heap.size (wq.setCell ⟨w.heap.size + 1, 4, none⟩ (.slice A5 n5 c5)) (wq.setCell ⟨w.heap.size + 1, 4, none⟩ (.slice A5 n5 c5)) a1 a2 a3 a4 (.slice A5 n5 c5) (sk2 ++ [⟨r, l, cs⟩])) := ⟨HUN.out.out, HUN.out.own.now, HUN.out.le⟩
        have HP6 : Hid (Whole (wq.setCell ⟨w.heap.size + 1, 4, none⟩ (.slice A5 n5 c5)) w.heap.size 25 [.int .i64 0, .int .i64 0, .int .i64 0, .int .i64 0, .slice none 0 0]) := HP2.out.far (Only.put 4 _) (by omega)
        have HO6 : Hid (Only g w (wq.setCell ⟨w.heap.size + 1, 4, none⟩ (.slice A5 n5 c5))) := only_putq HO2.out (by omega) _
        have HS6 : Hid (Spans (wq.setCell ⟨w.heap.size + 1, 4, none⟩ (.slice A5 n5 c5))) := HS2.out.putq (by omega) _
        go_wp2
        go_roundw
        case rel => exact ⟨j - 1, k + 1, _, by omega, by go_num, by rw [HNX.out]; exact HR6, by rw [HNX.out]; exact HU6, HP6, HO6, HS6, by rw [HNX.out]; unfold Hid; simp only [List.length_append, HKN.out, List.length_cons, List.length_nil]; omega⟩
        case measure => simp [intOf]; omega
    · have e1 : (E != 0) = true := by simpa using hE
      have HF : Hid (takeDe xs s = ((T, E), zeroD)) := by
        unfold Hid
        have := hstay hE j
        rw [HTD.out, show N = k + j by omega, this]
        exact endD_err hE
      clear hstay hnext hE
      obtain ⟨p0, p1, p2, p3, p4, lp⟩ := cells5 HPk.out
      have z0 := HPk.out.frozen
      go_wp2
      refine retDf Tryz.results44 rfl rfl (put5 HPk.out _ _ _ _ _) ?_
      rw [HF.out]
      exact ⟨none, 0, rfl, ⟨.nil, Nat.le_refl _, fun _ => rfl, Nat.zero_le _⟩, only_put5 HOk.out (Nat.le_refl _) _ _ _ _ _, by rw [HSK.out]; exact RdS.put5 HRk.out HPk.out (by decide) (Ne.symm HNP.out) _ _ _ _ _⟩
theorem upto_nil (n : Int) (w : World) : Calls Tryz.prog 87 #[.pointer none, .int .i64 n] w fun e w' => e = .returned (.int .i64 0) ∧ Below w.heap.size w w' := by
  go_enter Tryz.func87, Tryz.ntmps87
  go_wp2_with (first | (go_at_call 88; go_in) | (refine (next_nil _ _).mono ?_; rintro e w1 ⟨rfl, rfl⟩))
  go_ret
  exact ⟨rfl, ((Below.refl _ _).alloc (Nat.le_refl _) _).alloc (by simp) _⟩
theorem err_nil (w : World) : Calls Tryz.prog 67 #[.pointer none] w fun e w' => e = .returned (.int .i64 1) ∧ w = w' := by
  go_enter Tryz.func67, Tryz.ntmps67
  go_wp2
  go_ret
  exact ⟨rfl, rfl⟩
theorem takesides_nil (q Q : Nat) (t : TypeId) (n : Nat) (L : List Value) (w : World) (hQ : Whole w Q 127 (ptrsTo q n)) (hq : Whole w q t L) (hn : n ≤ L.length) (hn2 : n ≤ 1000) (hQq : Q ≠ q) :
    Calls Tryz.prog 65 #[.pointer none, .slice (some ⟨Q, 0, none⟩) n n] w fun e w' => e = .returned (.tuple #[]) ∧ Only q w w' := by
  have HQ := hide hQ
  have HX := hide hq
  have HNL := hide hn
  have HPQ := hide hQq
  clear hQ hq hn hQq
  go_enter Tryz.func65, Tryz.ntmps65
  go_wp2
  go_loopw [5, 8] (fun _ i wr => ∃ k : Nat, k ≤ n ∧ i = .int .i64 k ∧ Hid (∃ l, l.length = L.length ∧ Whole wr q t l) ∧ Hid (Only q w wr)) (fun _ i _ => n - (intOf i).toNat)
  case atStart => exact ⟨0, Nat.zero_le _, rfl, ⟨L, rfl, HX.out⟩, Only.refl⟩
  case round =>
    obtain ⟨k, hk, rfl, HXk, HOk⟩ := hrel
    by_cases hlt : k < n
    · have q0 : wr.cell? ⟨Q, k, none⟩ = some (.pointer (some ⟨q, k, none⟩)) := by rw [(HQ.out.far HOk.out HPQ.out).cell, ptrs_at hlt]
      have lq : Q < wr.heap.size := (HQ.out.far HOk.out HPQ.out).lt
      go_wp2_with fail
      refine (upto_nil 512 wr).mono ?_
      rintro e w1 ⟨rfl, hb⟩
      obtain ⟨l, hll, hx⟩ := HXk.out
      have hx1 := hx.later hb
      have HO1 := hide (HOk.out.trans (Only.of_below hb))
      clear hb q0 lq hx HXk
      obtain ⟨old, x0⟩ : ∃ old, w1.cell? ⟨q, k, none⟩ = some old := by
        have := HNL.out
        exact ⟨_, (hx1.cell k).trans (List.getElem?_eq_getElem (by omega))⟩
      have z0 := hx1.frozen k
      have l0 := hx1.lt
      have HX2 : Hid (∃ l, l.length = L.length ∧ Whole (w1.setCell ⟨q, k, none⟩ (.int .i64 0)) q t l) := ⟨_, by rw [List.length_set]; exact hll, hx1.put k _⟩
      have HO2 : Hid (Only q w (w1.setCell ⟨q, k, none⟩ (.int .i64 0))) := HO1.out.trans (Only.put k _)
      clear hx1 hll
      go_wp2
      go_roundw
      case rel => exact ⟨k + 1, by omega, by go_num, HX2, HO2⟩
      case measure => simp [intOf]; omega
    · obtain rfl : k = n := by omega
      go_wp2
      go_end0
      exact ⟨rfl, HOk.out⟩
theorem detake_nil (w : World) : Calls Tryz.prog 44 #[.pointer none] w fun e w' => e = .returned (.agg #[.int .i64 0, .int .i64 0, .int .i64 0, .int .i64 0, .slice none 0 0]) ∧ Below w.heap.size w w' := by
  obtain ⟨W0, hW0⟩ : ∃ W0, ((w.alloc (.cells #[.int .i64 0, .int .i64 0, .int .i64 0, .int .i64 0, .slice none 0 0] 25)).alloc (.cells #[.int .i64 0, .int .i64 0, .int .i64 0, .int .i64 0, .slice none 0 0] 25)).alloc (.cells #[.pointer (some ⟨w.heap.size + 1, 0, none⟩), .pointer (some ⟨w.heap.size + 1, 1, none⟩), .pointer (some ⟨w.heap.size + 1, 2, none⟩), .pointer (some ⟨w.heap.size + 1, 3, none⟩)] 127) = W0 := ⟨_, rfl⟩
  have HB0 : Hid (Below w.heap.size w W0) := by unfold Hid; rw [← hW0]; exact three_newW w _ _ _
  have HP0 : Hid (Whole W0 w.heap.size 25 [.int .i64 0, .int .i64 0, .int .i64 0, .int .i64 0, .slice none 0 0]) := by unfold Hid; rw [← hW0]; exact ((Whole.new w 25 [.int .i64 0, .int .i64 0, .int .i64 0, .int .i64 0, .slice none 0 0]).alloc _).alloc _
  have HX0 : Hid (Whole W0 (w.heap.size + 1) 25 [.int .i64 0, .int .i64 0, .int .i64 0, .int .i64 0, .slice none 0 0]) := by unfold Hid; rw [← hW0]; exact (whole_snd w _ 25 [.int .i64 0, .int .i64 0, .int .i64 0, .int .i64 0, .slice none 0 0]).alloc _
  have HQ0 : Hid (Whole W0 (w.heap.size + 1 + 1) 127 (ptrsTo (w.heap.size + 1) 4)) := by unfold Hid; rw [← hW0]; exact whole_thd w _ _ 127 [.pointer (some ⟨w.heap.size + 1, 0, none⟩), .pointer (some ⟨w.heap.size + 1, 1, none⟩), .pointer (some ⟨w.heap.size + 1, 2, none⟩), .pointer (some ⟨w.heap.size + 1, 3, none⟩)]
  have HW0 := hide hW0
  clear hW0
  go_enter Tryz.func44, Tryz.ntmps44
  go_wp2
  go_step3
  go_wp2_with fail
  rw [HW0.out]
  refine (takesides_nil (w.heap.size + 1) (w.heap.size + 1 + 1) 25 4 _ W0 HQ0.out HX0.out (by decide) (by decide) (by omega)).mono ?_
  rintro e w1 ⟨rfl, ho⟩
  have HP1 := hide (HP0.out.far ho (by omega))
  have HB1 : Hid (Below w.heap.size w w1) := only_fresh HB0.out ho (by omega)
  clear ho
  go_wp2_with fail
  refine (some_nil 512 w1).mono ?_
  rintro e w2 ⟨rfl, hb⟩
  have HP2 := hide (HP1.out.later hb)
  have HB2 := hide (HB1.out.trans (hb.mono HB1.out.size))
  clear hb
  go_wp2
  go_step3
  go_wp2
  go_loopw [4, 15, 20] (fun l _ _ wr => l = .int .i64 0 ∧ wr = w2) (fun _ _ _ _ => 0)
  case atStart => exact ⟨rfl, rfl⟩
  case round =>
    obtain ⟨rfl, rfl⟩ := hrel
    go_wp2_with fail
    refine (err_nil _).mono ?_
    rintro e wz ⟨rfl, rfl⟩
    obtain ⟨p0, p1, p2, p3, p4, lp⟩ := cells5 HP2.out
    have z0 := HP2.out.frozen
    go_wp2
    rw [Exit.noGoto_ret]
    refine retDf Tryz.results44 rfl rfl (put5 HP2.out _ _ _ _ _) ?_
    exact ⟨rfl, below_put5 HB2.out (Nat.le_refl _) _ _ _ _ _⟩

/-! ### Parse -/
theorem retDfE {R : Ending → World → Prop} {a : Act} {w : World} {fn : Func} {s z : Nat} {q : Nat} {x0 x1 x2 x3 x4 v : Value} (hr : fn.results = #[.cell s 25, .tmp z]) (h4 : a.tmps.getD s undef = .pointer (some ⟨q, 0, none⟩)) (h6 : a.tmps.getD z undef = v) (hd : a.defers = [])
    (hw : Whole w q 25 [x0, x1, x2, x3, x4]) (hR : R (.returned (.tuple #[.agg #[x0, x1, x2, x3, x4], v])) w) : bodyPost Tryz.prog fn R .ret a w := by
  have c0 : w.cell? ⟨q, 0, none⟩ = some x0 := hw.cell 0
  have c1 : w.cell? ⟨q, 1, none⟩ = some x1 := hw.cell 1
  have c2 : w.cell? ⟨q, 2, none⟩ = some x2 := hw.cell 2
  have c3 : w.cell? ⟨q, 3, none⟩ = some x3 := hw.cell 3
  have c4 : w.cell? ⟨q, 4, none⟩ = some x4 := hw.cell 4
  clear hw
  rw [Array.getD_eq_getD_getElem?] at h4 h6
  exact bodyPost_ret (v := .tuple #[.agg #[x0, x1, x2, x3, x4], v]) (by simp [results, hr, h4, h6, c0, c1, c2, c3, c4, go_sem]) hd hR
/-- What Parse leaves. -/
def ParseDS (w : World) (x : Df × Int) (e : Ending) (w' : World) : Prop :=
  ∃ A c, e = .returned (.tuple #[.agg #[.int .i64 x.1.rows, .int .i64 x.1.cols, .int .i64 x.1.row, .int .i64 x.1.col, .slice A x.1.ss.length c], .int .i64 x.2]) ∧ DfOk 0 68 105 .i32 w' x.1 A c ∧ Below w.heap.size w w'
/-- 'append(row, src...)', src whatever; what it left, and where the new row lies. -/
theorem wpList_catAt {P : Program} {T e : TypeId} {k : IntKind} {bytes : Nat} (E : Elem P T e k bytes) {ops : Array Oper} {rest : List Oper} {o : Oper} {a : Act} {Q : Exit → Act → World → Prop} {B : Nat} {w wr : World} {v : Value} {bs ns : List Int} {A : Option Addr} {n c : Nat}
    (hgd : Region.wanted o (yielded ops a.tmps) = true) (s y : Operand) (ho : o.op = .call { callee := .builtin .append, args := #[s, y], argTypes := #[T, T] })
    (hs : a.eval s = v) (hy : a.eval y = .slice A n c) (hown : Own e k B w wr v bs) (hns : Ints k wr A ns) (hn : ns.length = n) (hc : A = none → c = 0) (hlen : bs.length + n ≤ 1000000) (hby : bytes ≤ 1000)
    (h : ∀ v' w1, Own e k B w w1 v' (bs ++ ns) → wr.grownBy w1 v.ownBlock → (v'.ownBlock = v.ownBlock ∨ v'.ownBlock = some wr.heap.size) → wpList P ops Q rest (a.put o.dst v') w1) : wpList P ops Q (o :: rest) a wr := by
  subst hn
  obtain ⟨i0, hi, hz0, hz1, hz2⟩ := info_parts E.info
  have hb : (bs.length + ns.length) * bytes ≤ 1000000 * 1000 := Nat.mul_le_mul hlen hby
  refine wpList_want hgd fun K hK => ?_
  cases A with
  | none =>
    have hn : ns = [] := by
      rcases hns with h | ⟨_, _, h, _⟩
      · exact h
      · cases h
    subst hn
    obtain rfl : c = 0 := hc rfl
    have hrun := run_append_owned_none (P := P) (w := wr) B T o.type e i0 1 E.under hi v bs.length _ hown.own
    unfold Oper.wp
    simp [execOp, ho, resolve, invoke, builtin, hs, hy, hrun, Result.andThen]
    exact hK _ _ (h v wr (by simpa using hown) ⟨rfl, rfl, rfl, Nat.le_refl _, fun _ _ _ => rfl⟩ (.inl rfl))
  | some ad =>
    have hnews : ∀ j u, (ns.map (Value.int k))[j]? = some u → wr.cell? (ad.add j) = some u := by
      intro j u hu
      have hj : j < ns.length := by have := (List.getElem?_eq_some_iff.1 hu).1; simpa using this
      obtain ⟨b, off, e1, hcell, _⟩ := hns.at hj
      cases e1
      have : (⟨b, off, none⟩ : Addr).add j = ⟨b, off + j, none⟩ := by unfold Addr.add; split <;> simp_all
      rw [this, hcell]
      simp [List.getElem?_eq_getElem hj] at hu ⊢
      exact hu
    obtain ⟨v', w', hr, h2, h3, _, h5⟩ := run_append_own_at (P := P) wr B T o.type e i0 (.int k 0) 1 bytes E.under hi hz0 hz1 hz2 rfl (by decide) v bs.length _ hown.own ad ns.length c (ns.map (Value.int k)) (by simp) hnews (oneCells k ns) (by unfold maxLen; omega) (by omega) hown.le
    unfold Oper.wp execOp
    simp only [ho, resolve, invoke, builtin, Sem.run_bind, Sem.run_pure, Result.andThen_ok, List.map_toArray, List.map_cons, List.map_nil, hs, hy, hr]
    exact hK _ _ (h v' w' (hown.grown h2 h3) h3 h5)
theorem Whole.neq {w : World} {a b : Nat} {t t' : TypeId} {l l' : List Value} (h : Whole w a t l) (k : Whole w b t' l') (ht : t ≠ t') : a ≠ b := by
  rintro rfl
  unfold Whole at h k
  rw [h] at k
  simp only [Option.some.injEq, Obj.cells.injEq] at k
  exact ht k.2.1
/-- The variable p holds these bytes, in a row from B on that isn't the block x. -/
structure Ptx (B p x : Nat) (w : World) (bs : List Int) : Prop where
  ex : ∃ v, Whole w p 36 [v] ∧ Own 5 .u8 B w w v bs ∧ v.ownBlock ≠ some x
  ge : B ≤ p
  ne : x ≠ p
  lt : x < w.heap.size
theorem Ptx.pt {B p x : Nat} {w : World} {bs : List Int} (h : Ptx B p x w bs) : Pt B p w bs := by
  obtain ⟨v, h1, h2, -⟩ := h.ex
  exact ⟨⟨v, h1, h2⟩, h.ge⟩
/-- What puts bytes leaves: the block x too is as it was. -/
structure Px (B p x : Nat) (w w' : World) : Prop where
  ap : Ap B p w w'
  x : w'.heap[x]? = w.heap[x]?
theorem Px.refl {B p x : Nat} {w : World} : Px B p x w w := ⟨Ap.refl, rfl⟩
theorem Px.trans {B p x : Nat} {w w' w'' : World} (h : Px B p x w w') (k : Px B p x w' w'') : Px B p x w w'' := ⟨h.ap.trans k.ap, k.x.trans h.x⟩

theorem deput_any (B p x Q n : Nat) (bs zs : List Int) (w : World) (h : Ptx B p x w bs) (hQ : Whole w Q 3 (zs.map (Value.int .i64))) (hn : zs.length = n) (hn2 : n ≤ 100) (hz : ∀ z ∈ zs, 0 ≤ z ∧ z < 9223372036854775808) (hl : bs.length ≤ 400000) :
    Calls Tryz.prog 35 #[.slice (some ⟨Q, 0, none⟩) n n, .pointer (some ⟨p, 0, none⟩)] w fun e w' => e = .returned (.tuple #[]) ∧ Ptx B p x w' (bs ++ encAll zs) ∧ Px B p x w w' := by
  have HP := hide h
  have HQ0 := hide hQ
  have HN := hide hn
  have HZ := hide hz
  have HQP : Hid (Q ≠ p) := by
    obtain ⟨v, hv, -⟩ := h.ex
    exact hQ.neq hv (by decide)
  have HBP : Hid (B ≤ p) := h.ge
  have HXP : Hid (x ≠ p) := h.ne
  clear h hQ hn hz
  go_enter Tryz.func35, Tryz.ntmps35
  go_wp2
  go_loopw [4, 7] (fun _ i wr => ∃ k : Nat, k ≤ n ∧ i = .int .i64 k ∧ Hid (Ptx B p x wr (bs ++ encAll (zs.take k))) ∧ Hid (Px B p x w wr)) (fun _ i _ => n - (intOf i).toNat)
  case atStart => exact ⟨0, Nat.zero_le _, rfl, by unfold Hid; rw [List.take_zero, encAll_nil, List.append_nil]; exact HP.out, Px.refl⟩
  case round =>
    obtain ⟨k, hk, rfl, HPk, HXk⟩ := hrel
    by_cases hlt : k < n
    · have hkz : k < zs.length := by rw [HN.out]; exact hlt
      obtain ⟨z, hzk⟩ : ∃ z, zs[k] = z := ⟨_, rfl⟩
      obtain ⟨z0, z1⟩ := HZ.out z (by rw [← hzk]; exact List.getElem_mem hkz)
      obtain ⟨N, rfl⟩ : ∃ N : Nat, z = (N : Int) := ⟨z.toNat, by omega⟩
      have hN : N < 9223372036854775808 := by omega
      have hwrap : IntKind.u64.wrap (N : Int) = (N : Int) := by rw [IntKind.wrap_u64]; omega
      have hQk := HXk.out.ap.whole HQ0.out HQP.out (by decide)
      have q0 : wr.cell? ⟨Q, k, none⟩ = some (.int .i64 (N : Int)) := by rw [hQk.cell, List.getElem?_map, List.getElem?_eq_getElem hkz, hzk]; rfl
      have lq := hQk.lt
      have hnx : encAll (zs.take (k + 1)) = encAll (zs.take k) ++ enc N := by rw [List.take_succ_eq_append_getElem hkz, hzk, encAll_append, encAll_one, Int.toNat_natCast]
      have hcl : (bs ++ encAll (zs.take k)).length ≤ 500000 := by have := encAll_len (zs.take k); rw [List.length_take] at this; rw [List.length_append]; omega
      have hel := (enc_len N).2
      have HNX : Hid (bs ++ encAll (zs.take (k + 1)) = (bs ++ encAll (zs.take k)) ++ enc N) := by unfold Hid; rw [hnx, List.append_assoc]
      obtain ⟨cs, hcs⟩ : ∃ cs, bs ++ encAll (zs.take k) = cs := ⟨_, rfl⟩
      rw [hcs] at HPk HNX hcl
      have HLX : Hid (x < wr.heap.size) := HPk.out.lt
      obtain ⟨v, hv, ho, hnb⟩ := HPk.out.ex
      have HNB := hide hnb
      have HV := hide hv
      have HO := hide ho
      have hv0 : Whole wr.drew p 36 [v] := hv.drew
      have HV0 := hide hv0
      clear hv ho hnb hcs hnx hQk hzk hkz
      go_wp2
      refine rgL (fun w' => w'.cell? ⟨p, 0, none⟩ = some v) 6 [(0, 1), (0, 2), (0, 0), (1, 3), (1, 4), (1, 5), (3, 6)] (hv0.cell 0) ?_
      refine stL (h := ?_)
      refine stL (hy := fun w hS => by have hN := hN; go_simp <;> with_reducible rfl) (h := ?_)
      refine stL (hy := fun w hS => by have hS := hS; go_simp <;> with_reducible rfl) (h := ?_)
      refine alL fun K hK => ?_
      go_wp2
      refine hK.out _ _ ((HV0.out.alloc _).cell 0) ?_
      clear hK K
      refine alL fun K hK => ?_
      go_wp2_with fail
      refine (nu_bytes_any _ _ _ [(N : Int)] _ (Ints.new .u64 wr.drew 22 [(N : Int)]) rfl (by simp) (by simp; omega)).mono ?_
      rintro e w2 ⟨x2, rfl, hx⟩
      obtain ⟨A2, c2, rfl, i2, n2, z2, -⟩ := hx.form2
      rw [encAll_one, Int.toNat_natCast] at i2 n2 ⊢
      have hb2 : Below wr.heap.size wr w2 := (((Below.refl wr.heap.size wr).drewN 1).alloc (Nat.le_refl _) (.cells #[.int .u64 (N : Int)] 22)).trans (hx.bel.mono (by simp))
      have HV2 := hide (HV.out.later hb2)
      have HO2 := hide ((HO.out.later hb2).now)
      have HI2 := hide i2
      have HZ2 := hide z2
      have HB2 := hide hb2
      clear hx i2 z2 hb2
      go_wp2
      refine hK.out _ _ (HV2.out.cell 0) ?_
      clear hK K
      refine alL fun K hK => ?_
      refine wpList_catAt elemBytes rfl _ _ rfl rfl rfl HO2.out HI2.out rfl HZ2.out (by omega) (by omega) ?_
      intro v3 w3 hown st hat
      have hbl3 : Below B w2 w3 := hown.bel
      have HA3 := hide (Ap.row (p := p) HO2.out hbl3 st)
      have HV3 := hide (Others.of HO2.out st p 36 _ (by decide) HV2.out)
      have HX3 : Hid (w3.heap[x]? = wr.heap[x]?) := (st.block x (Nat.lt_of_lt_of_le HLX.out HB2.out.size) (Ne.symm HNB.out)).trans (HB2.out.block x HLX.out)
      have HNB3 : Hid (v3.ownBlock ≠ some x) := by
        unfold Hid
        rcases hat with q | q
        · rw [q]; exact HNB.out
        · rw [q]; intro z; have := HB2.out.size; have := HLX.out; simp only [Option.some.injEq] at z; omega
      obtain ⟨A3, c3, hv3, -, -, -⟩ := hown.form
      obtain ⟨L3, hL3⟩ : ∃ L3, (cs ++ enc N).length = L3 := ⟨_, rfl⟩
      rw [hL3] at hv3
      subst hv3
      have HO3 := hide hown.now
      clear hown st hat hbl3
      go_wp2
      refine hK.out _ _ (HV3.out.cell 0) ?_
      clear hK K
      have e1 : w3.cell? ⟨p, 0, none⟩ = some v := HV3.out.cell 0
      have z1 := HV3.out.frozen 0
      have l3 := HV3.out.lt
      refine laL fun K hK => ?_
      go_wp2
      refine hK.out _ _ ?_
      clear hK K
      refine chainL_nil ?_
      have hst : Stay5 w3 (w3.setCell ⟨p, 0, none⟩ (.slice A3 L3 c3)) := Stay5.put HV3.out
      have HP4 : Hid (Ptx B p x (w3.setCell ⟨p, 0, none⟩ (.slice A3 L3 c3)) (cs ++ enc N)) := ⟨⟨_, HV3.out.put 0 _, hst.own HO3.out (by simp [World.setCell]), HNB3.out⟩, HBP.out, HXP.out, by show x < (w3.setCell ⟨p, 0, none⟩ (.slice A3 L3 c3)).heap.size; have := HLX.out; have := HB2.out.size; have := HA3.out.size; simp [World.setCell]; omega⟩
      have HX4 : Hid (Px B p x w (w3.setCell ⟨p, 0, none⟩ (.slice A3 L3 c3))) := by
        refine HXk.out.trans ⟨((Ap.of_below HB2.out HO.out.le).trans HA3.out).trans (Ap.put HBP.out), ?_⟩
        exact (Below.heap_setCell w3 ⟨p, 0, none⟩ (.slice A3 L3 c3) x HXP.out).trans HX3.out
      clear hst hv0
      go_wp2
      go_roundw
      case rel => exact ⟨k + 1, by omega, by go_num, by rw [HNX.out]; exact HP4, HX4⟩
      case measure => simp [intOf]; omega
    · obtain rfl : k = n := by omega
      have HF : Hid (zs.take k = zs) := by unfold Hid; rw [← HN.out]; exact List.take_length
      go_wp2
      go_end0
      rw [HF.out] at HPk
      exact ⟨rfl, HPk.out, HXk.out⟩
/-! ### what may be told is within bounds -/
structure SpIn (s : Sp) : Prop where
  r0 : 0 ≤ s.row
  r1 : s.row ≤ 512
  c0 : 0 ≤ s.col
  c1 : s.col ≤ 512
  len : s.cs.length ≤ 512
structure DfBd (d : Df) : Prop where
  a0 : 0 ≤ d.rows
  a1 : d.rows ≤ 512
  b0 : 0 ≤ d.cols
  b1 : d.cols ≤ 512
  c0 : 0 ≤ d.row
  c1 : d.row ≤ 512
  d0 : 0 ≤ d.col
  d1 : d.col ≤ 512
  many : d.ss.length ≤ 512
  each : ∀ i, i < d.ss.length → SpIn (sAt d.ss i)
theorem check_bd {d : Df} (hE : checkD d = 0) : DfBd d := by
  unfold checkD at hE
  split at hE
  · cases hE
  · rename_i hs
    split at hE
    · cases hE
    · rename_i hp
      have hs : sizeN d.rows d.cols := Classical.not_not.1 hs
      obtain ⟨⟨h1, h2⟩, h3, h4⟩ := hs
      have hu := rows_up (errTo_zero hE)
      refine ⟨by omega, by omega, by omega, by omega, by omega, by omega, by omega, by omega, ?_, fun i hi => ?_⟩
      · rcases Nat.eq_zero_or_pos d.ss.length with z | z
        · omega
        · have := hu (d.ss.length - 1) (by omega); omega
      · have h5 := hu i hi
        exact ⟨by omega, by omega, by omega, by omega, by omega⟩
theorem bytesSs_take (ss : List Sp) (k : Nat) : (bytesSs (ss.take k)).length ≤ (bytesSs ss).length := by
  have := bytesSs_append (ss.take k) (ss.drop k)
  rw [List.take_append_drop] at this
  rw [this, List.length_append]
  omega
theorem bytesSs_next (ss : List Sp) (k : Nat) (h : k < ss.length) : bytesSs (ss.take (k + 1)) = bytesSs (ss.take k) ++ (encAll [(sAt ss k).row, (sAt ss k).col] ++ bytesR (sAt ss k).cs) := by
  rw [take_nextS ss k h, bytesSs_append]
  congr 1
  unfold bytesSs bytesS
  simp [encAll]
def headB (d : Df) : List Int := encAll [d.rows, d.cols, d.row, d.col, (d.ss.length : Int)]
theorem bytesDe_head (d : Df) : bytesDe d = headB d ++ bytesSs d.ss := by unfold bytesDe headB; simp [encAll]
theorem headB_len (d : Df) : (headB d).length ≤ 50 := encAll_len _
theorem own_blk {e : TypeId} {k : IntKind} {B : Nat} {w wr : World} {v : Value} {bs : List Int} (h : Own e k B w wr v bs) {g : Nat} (hg : v.ownBlock = some g) : g < wr.heap.size := by
  rcases h.own.2 with ⟨rfl, _⟩ | ⟨g', cap, cur, rfl, _, hh, _⟩
  · cases hg
  · obtain rfl : g' = g := by simpa [Value.ownBlock] using hg
    exact (Array.getElem?_eq_some_iff.1 hh).1
theorem bytesR_pos (cs : List Cel) : 1 ≤ (bytesR cs).length := by
  unfold bytesR
  rw [List.length_append]
  have : 1 ≤ (enc (countR cs)).length := by unfold enc encF; split <;> simp
  omega
theorem Pt.ptx {B p x : Nat} {w w' : World} {bs : List Int} (h : Pt B p w bs) (hb : Below w.heap.size w w') (h1 : w.heap.size ≤ x) (h2 : x < w'.heap.size) : Ptx B p x w' bs := by
  obtain ⟨v, hv, ho⟩ := h.ex
  refine ⟨⟨v, hv.later hb, (ho.later hb).now, fun e => ?_⟩, h.ge, ?_, h2⟩
  · have := own_blk ho e; omega
  · have := hv.lt; omega
theorem Own.from0 {e : TypeId} {k : IntKind} {w w1 : World} (hb : Below w.heap.size w w1) : Own e k w.heap.size w w1 (.slice none 0 0) [] := ⟨World.ownsRow_nil _ _ _ _, hb, hb.size⟩
/-- What Bytes leaves. -/
def GaveX (Y : Int) (X : List Int) (w : World) (e : Ending) (w' : World) : Prop := ∃ v, e = .returned (.tuple #[v, .int .i64 Y]) ∧ Own 5 .u8 w.heap.size w w' v (if Y = 0 then X else [])
def GaveDB (d : Df) (w : World) (e : Ending) (w' : World) : Prop := GaveX (checkDe d) (bytesDe d) w e w'

theorem debytes_any (C : Nat) (te t : TypeId) (d : Df) (A : Option Addr) (n c : Nat) (w : World) (h : Sps C te t .i32 w A d.ss) (hC : C ≤ w.heap.size) (hn : d.ss.length = n) (hl : n ≤ 1000000) (hlb : ∀ s ∈ d.ss, LB s.cs) (hsz : (bytesSs d.ss).length ≤ 300000) (hS : Spans w) :
    Calls Tryz.prog 20 #[.agg #[.int .i64 d.rows, .int .i64 d.cols, .int .i64 d.row, .int .i64 d.col, .slice A n c]] w (GaveDB d w) := by
  have hbdf := @check_bd d
  have hhd := bytesDe_head d
  have hhl := headB_len d
  have hun : headB d = encAll [d.rows, d.cols, d.row, d.col, (d.ss.length : Int)] := rfl
  rw [hn] at hun
  have hcd : checkDe d = if checkD d = 0 then errTo (fun i => checkR (sAt d.ss i).cs) n else checkD d := by unfold checkDe; rw [hn]
  obtain ⟨hd0, hhd0⟩ : ∃ l, headB d = l := ⟨_, rfl⟩
  rw [hhd0] at hun hhl hhd
  unfold GaveDB
  obtain ⟨X, hX⟩ : ∃ X, bytesDe d = X := ⟨_, rfl⟩
  rw [hX] at hhd ⊢
  obtain ⟨Y, hY⟩ : ∃ Y, checkDe d = Y := ⟨_, rfl⟩
  rw [hY] at hcd ⊢
  have CHK := dfcheck_any C te t d A n c
  obtain ⟨E, hE⟩ : ∃ E, checkD d = E := ⟨_, rfl⟩
  rw [hE] at hbdf hcd CHK
  clear hX hY hE hhd0
  obtain ⟨R, K, r0, l0, ss⟩ := d
  simp only at h hn hlb hsz hhd hun hcd CHK ⊢
  obtain ⟨W0, hW0⟩ : ∃ W0, w.alloc (.cells #[.int .i64 R, .int .i64 K, .int .i64 r0, .int .i64 l0, .slice A n c] 25) = W0 := ⟨_, rfl⟩
  have HB0 : Hid (Below w.heap.size w W0) := by unfold Hid; rw [← hW0]; exact new1W _ _
  have HX0 : Hid (Whole W0 w.heap.size 25 [.int .i64 R, .int .i64 K, .int .i64 r0, .int .i64 l0, .slice A n c]) := by unfold Hid; rw [← hW0]; exact Whole.new w 25 [.int .i64 R, .int .i64 K, .int .i64 r0, .int .i64 l0, .slice A n c]
  have KEY := hide (CHK W0 (h.below HB0.out hC) (Nat.le_trans hC HB0.out.size) hn hl)
  have HW0 := hide hW0
  have HA := hide h
  have HC := hide hC
  have HN := hide hn
  have HLB := hide hlb
  have HS := hide hS
  have HSZ := hide hsz
  have HHD := hide hhd
  have HUN := hide hun
  have HCD := hide hcd
  clear hW0 h hC hn hlb hS hsz hhd hun hcd CHK
  obtain ⟨d0, d1, d2, d3, d4, ld⟩ := cells5 HX0.out
  go_enter Tryz.func20, Tryz.ntmps20
  go_wp2_with fail
  rw [HW0.out]
  refine KEY.out.mono ?_
  rintro e w1 ⟨rfl, hb1⟩
  have HX1 := hide (HX0.out.later hb1)
  have HB1 := hide (HB0.out.trans (hb1.mono HB0.out.size))
  clear hb1 d0 d1 d2 d3 d4 ld
  by_cases hz : E = 0
  · have e0 : (E != 0) = false := by simpa using hz
    have hb := hbdf hz
    have HCD2 : Hid (Y = errTo (fun i => checkR (sAt ss i).cs) n) := by unfold Hid; rw [HCD.out, if_pos hz]
    obtain ⟨a0, a1, b0, b1, c0, c1, f0, f1, hm, heach⟩ := hb
    simp only at a0 a1 b0 b1 c0 c1 f0 f1 hm heach
    rw [HN.out] at hm heach
    have HEA := hide heach
    clear hz hbdf heach
    obtain ⟨W2, hW2⟩ : ∃ W2, (w1.alloc (.cells #[.slice none 0 0] 36)).alloc (.cells #[.int .i64 R, .int .i64 K, .int .i64 r0, .int .i64 l0, .int .i64 (n : Int)] 3) = W2 := ⟨_, rfl⟩
    have hb2 : Below w1.heap.size w1 W2 := by rw [← hW2]; exact below2 w1 _ _
    have hp2 : Whole W2 w1.heap.size 36 [.slice none 0 0] := by rw [← hW2]; exact (Whole.new w1 36 [.slice none 0 0]).alloc _
    have hq2 : Whole W2 (w1.heap.size + 1) 3 ([R, K, r0, l0, (n : Int)].map (Value.int .i64)) := by rw [← hW2]; exact whole_snd w1 _ 3 [.int .i64 R, .int .i64 K, .int .i64 r0, .int .i64 l0, .int .i64 (n : Int)]
    have HX2 := hide (HX1.out.later hb2)
    have HB2 := hide (HB1.out.trans (hb2.mono HB1.out.size))
    have hx1 := HX1.out.lt
    have HP2 : Hid (Ptx w.heap.size w1.heap.size w.heap.size W2 []) := ⟨⟨_, hp2, Own.start HB2.out.size, by simp [Value.ownBlock]⟩, HB1.out.size, by omega, HX2.out.lt⟩
    obtain ⟨p, hp⟩ : ∃ p, w1.heap.size = p := ⟨_, rfl⟩
    rw [hp] at HP2 hq2
    have HPUT := hide (deput_any w.heap.size p w.heap.size (p + 1) 5 [] [R, K, r0, l0, (n : Int)] W2 HP2.out hq2 rfl (by omega) (by simp; omega) (by simp))
    have HW2 := hide hW2
    have HPB : Hid (w.heap.size < p) := by unfold Hid; omega
    have HPN := hide hp
    clear hb2 hp2 hq2 hW2
    clear hx1
    obtain ⟨d0, d1, d2, d3, d4, ld⟩ := cells5 HX1.out
    have lp := HPB.out
    go_wp2_with fail
    rw [HW2.out]
    refine HPUT.out.mono ?_
    rw [List.nil_append, ← HUN.out]
    rintro e w3 ⟨rfl, hpx, hx3⟩
    have HP3 := hide hpx.pt
    have HX3 : Hid (Whole w3 w.heap.size 25 [.int .i64 R, .int .i64 K, .int .i64 r0, .int .i64 l0, .slice A n c]) := HX2.out.same hx3.x
    have HB3 : Hid (Below w.heap.size w w3) := HB2.out.trans hx3.ap.bel
    clear hpx hx3 HPUT HP2 HW2 d0 d1 d2 d3 d4 ld hp lp
    obtain ⟨d0, d1, d2, d3, d4, ld⟩ := cells5 HX3.out
    go_wp2
    clear d0 d1 d2 d3 d4 ld
    go_loopw [8, 9, 10, 34] (fun _ _ _ i wr => ∃ k : Nat, k ≤ n ∧ i = .int .i64 k ∧ Hid (errTo (fun i => checkR (sAt ss i).cs) k = 0) ∧ Hid (Pt w.heap.size p wr (hd0 ++ bytesSs (ss.take k))) ∧ Hid (Below w.heap.size w wr)) (fun _ _ _ i _ => n - (intOf i).toNat)
    case atStart => exact ⟨0, Nat.zero_le _, rfl, rfl, by unfold Hid; rw [List.take_zero, show bytesSs [] = [] from rfl, List.append_nil]; exact HP3.out, HB3.out⟩
    case round =>
      obtain ⟨k, hk, rfl, HER, HPk, HBk⟩ := hrel
      by_cases hlt : k < n
      · have hks : k < ss.length := by rw [HN.out]; exact hlt
        obtain ⟨b, off, A1, c1', rfl, lb, x0, x1, x2, xi, hcap, hnone⟩ := (HA.out.below HBk.out HC.out).at (i := k) hks
        have hin := HEA.out k hlt
        have hlk : LB (sAt ss k).cs := HLB.out _ (mem_sAt ss k hks)
        have hnx := bytesSs_next ss k hks
        have hnl := bytesSs_take ss (k + 1)
        have hkl := bytesSs_take ss k
        have hbad := errTo_first (fun i => checkR (sAt ss i).cs) k n hlt HER.out
        have hgood := errTo_next (fun i => checkR (sAt ss i).cs) k HER.out
        rw [hnx] at hnl
        obtain ⟨x, hx⟩ : ∃ x, sAt ss k = x := ⟨_, rfl⟩
        rw [hx] at x0 x1 x2 xi hcap hin hlk hnx hnl
        simp only [hx] at hbad hgood
        obtain ⟨r, l, cs⟩ := x
        simp only at x0 x1 x2 xi hcap hlk hnx hnl hbad hgood
        obtain ⟨g0, g1, g2, g3, g4⟩ := hin
        simp only at g0 g1 g2 g3 g4
        obtain ⟨u, hu⟩ : ∃ u, cs.length = u := ⟨_, rfl⟩
        rw [hu] at x2 hcap g4
        have hsz := HSZ.out
        have HNX : Hid (hd0 ++ bytesSs (ss.take (k + 1)) = (hd0 ++ bytesSs (ss.take k)) ++ (encAll [r, l]) ++ bytesR cs) := by unfold Hid; rw [hnx]; simp only [List.append_assoc]
        obtain ⟨hk0, hhk0⟩ : ∃ l, hd0 ++ bytesSs (ss.take k) = l := ⟨_, rfl⟩
        rw [hhk0] at HPk HNX
        have hk0l : hk0.length ≤ 300100 := by rw [← hhk0, List.length_append]; omega
        have hrl : (bytesR cs).length ≤ 300000 := by simp only [List.length_append] at hnl; omega
        clear hnx hnl hkl hx hks hhk0
        obtain ⟨W4, hW4⟩ : ∃ W4, wr.alloc (.cells #[.int .i64 r, .int .i64 l, .slice A1 u c1'] 68) = W4 := ⟨_, rfl⟩
        have hb4 : Below wr.heap.size wr W4 := by rw [← hW4]; exact new1W _ _
        have hq4 : Whole W4 wr.heap.size 68 [.int .i64 r, .int .i64 l, .slice A1 u c1'] := by rw [← hW4]; exact Whole.new wr 68 [.int .i64 r, .int .i64 l, .slice A1 u c1']
        have HQ4 := hide hq4
        have HB4 := hide hb4
        have hSw : Spans W4 := (HS.out.below HBk.out).below hb4
        have BKEY := hide (runbytes_any A1 u c1' cs W4 (xi.cels.below hb4) hu (by omega) hcap (fun i hi => (hlk i (by omega)).2.2.2) hSw)
        have HW4 := hide hW4
        have HBAD := hide hbad
        have HGOOD := hide hgood
        clear hb4 hq4 hW4 hSw hlk xi hu hbad hgood
        go_wp2_with fail
        rw [HW4.out]
        clear x0 x1 x2 lb
        refine BKEY.out.mono ?_
        rintro e w5 ⟨v9, rfl, ho9⟩
        by_cases hR : checkR cs = 0
        · rw [if_pos hR] at ho9
          rw [hR]
          have HNE := hide (HGOOD.out hR)
          obtain ⟨b0, cap9, rfl, hb0l, hb0u⟩ := World.ownsRow.form ho9.own (bytesR_pos cs)
          have hi9 : Ints .u8 w5 (some ⟨b0, 0, none⟩) (bytesR cs) := by
            obtain ⟨A', c', e1, h1, -⟩ := ho9.form2
            cases e1
            exact h1
          obtain ⟨L9, hL9⟩ : ∃ L9, (bytesR cs).length = L9 := ⟨_, rfl⟩
          rw [hL9] at hrl ⊢
          have HL9 := hide hL9
          have HI9 := hide hi9
          have HB5 := hide (HB4.out.trans (ho9.bel.mono HB4.out.size))
          have HBL : Hid (wr.heap.size ≤ b0) := Nat.le_trans HB4.out.size hb0l
          have HQ5 := hide (HQ4.out.later ho9.bel)
          clear ho9 hi9 hL9 hb0l hR HBAD HGOOD
          obtain ⟨W6, hW6⟩ : ∃ W6, w5.alloc (.cells #[.int .i64 r, .int .i64 l] 3) = W6 := ⟨_, rfl⟩
          obtain ⟨q6, hq6⟩ : ∃ q6, w5.heap.size = q6 := ⟨_, rfl⟩
          have hb6 : Below w5.heap.size w5 W6 := by rw [← hW6]; exact new1W _ _
          have hw6 : Whole W6 q6 3 ([r, l].map (Value.int .i64)) := by rw [← hW6, ← hq6]; exact Whole.new w5 3 [.int .i64 r, .int .i64 l]
          have HB6 := hide (HB5.out.trans (hb6.mono HB5.out.size))
          have hpt6 : Ptx w.heap.size p b0 W6 hk0 := HPk.out.ptx HB6.out HBL.out (Nat.lt_of_lt_of_le hb0u hb6.size)
          have PKEY := hide (deput_any w.heap.size p b0 q6 2 hk0 [r, l] W6 hpt6 hw6 rfl (by omega) (by simp; omega) (by omega))
          have HI6 := hide (HI9.out.below hb6)
          have HW6 := hide hW6
          have HQ6 := hide hq6
          clear hb6 hw6 hpt6 hW6 hq6 hb0u
          obtain ⟨x0, x1, x2, lx⟩ := cells3 HQ5.out
          go_wp2_with fail
          rw [HW6.out, HQ6.out]
          refine PKEY.out.mono ?_
          rintro e w7 ⟨rfl, hpx, hx7⟩
          have HI7 : Hid (Ints .u8 w7 (some ⟨b0, 0, none⟩) (bytesR cs)) := by
            unfold Hid
            rcases HI6.out with z | ⟨b', off', ha, hc⟩
            · exact .inl z
            · cases ha
              exact .inr ⟨_, _, rfl, fun i hi => (tk_heap hx7.x).trans (hc i hi)⟩
          have HB7 : Hid (Below w.heap.size w w7) := (HBk.out.trans (HB6.out.mono HBk.out.size)).trans hx7.ap.bel
          obtain ⟨v7, hv7, ho7, -⟩ := hpx.ex
          have HV7 := hide hv7
          have HO7 := hide ho7
          obtain ⟨A7, c7, hf7, -⟩ := ho7.form2
          obtain ⟨L7, hL7⟩ : ∃ L7, (hk0 ++ encAll [r, l]).length = L7 := ⟨_, rfl⟩
          have hL7l : L7 ≤ 300200 := by
            have := encAll_len [r, l]
            rw [← hL7, List.length_append]
            simp only [List.length_cons, List.length_nil] at this
            omega
          rw [hL7] at hf7
          subst hf7
          have HL7 := hide hL7
          clear hpx hx7 hv7 ho7 hL7 x0 x1 x2 lx HI6
          have y0 : w7.cell? ⟨p, 0, none⟩ = some (.slice A7 L7 c7) := HV7.out.cell 0
          have yl := HV7.out.lt
          go_wp2_with (at_builtin; refine stopw ?_)
          unfold Hid
          refine wpList_catG elemBytes rfl _ _ rfl rfl rfl HO7.out HI7.out HL9.out (fun z => by cases z) (by rw [HL7.out]; omega) (by omega) ?_
          intro v8 w8 hown st
          have HV8 := hide (Others.of HO7.out st p 36 _ (by decide) HV7.out)
          have HB8 := hide (HB7.out.trans hown.bel)
          obtain ⟨A8, c8, hf8, -⟩ := hown.form2
          obtain ⟨L8, hL8⟩ : ∃ L8, (hk0 ++ encAll [r, l] ++ bytesR cs).length = L8 := ⟨_, rfl⟩
          rw [hL8] at hf8
          subst hf8
          have HO8 := hide hown.now
          clear hown st hL8 y0 yl
          have y0 : w8.cell? ⟨p, 0, none⟩ = some (.slice A7 L7 c7) := HV8.out.cell 0
          have yl := HV8.out.lt
          have yz := HV8.out.frozen 0
          have hst : Stay5 w8 (w8.setCell ⟨p, 0, none⟩ (.slice A8 L8 c8)) := Stay5.put HV8.out
          have HP9 : Hid (Pt w.heap.size p (w8.setCell ⟨p, 0, none⟩ (.slice A8 L8 c8)) (hk0 ++ encAll [r, l] ++ bytesR cs)) := ⟨⟨_, HV8.out.put 0 _, hst.own HO8.out (by simp [World.setCell])⟩, Nat.le_of_lt HPB.out⟩
          have HB9 : Hid (Below w.heap.size w (w8.setCell ⟨p, 0, none⟩ (.slice A8 L8 c8))) := HB8.out.setCell (p := ⟨p, 0, none⟩) (Nat.le_of_lt HPB.out) _
          clear hst
          go_wp2
          go_roundw
          case rel => exact ⟨k + 1, by omega, by go_num, HNE, by rw [HNX.out]; exact HP9, HB9⟩
          case measure => simp [intOf]; omega
        · obtain ⟨F, hF⟩ : ∃ F, checkR cs = F := ⟨_, rfl⟩
          have HYF : Hid (Y = F) := by unfold Hid; rw [HCD2.out, HBAD.out hR, hF]
          rw [hF] at hR ⊢
          have e1 : (F != 0) = true := by simpa using hR
          have HB5 := hide (HBk.out.trans ((HB4.out.trans (ho9.bel.mono HB4.out.size)).mono HBk.out.size))
          have HFZ := hide hR
          obtain ⟨A9, c9, hf9, -⟩ := ho9.form2
          obtain ⟨L9, hL9⟩ : ∃ L9, (if F = 0 then bytesR cs else []).length = L9 := ⟨_, rfl⟩
          rw [hF, hL9] at hf9
          subst hf9
          clear ho9 hF hR hL9
          go_wp2
          go_ret2
          exact ⟨.slice none 0 0, by rw [HYF.out]; rfl, by rw [HYF.out, if_neg HFZ.out]; exact (Own.from0 HB5.out)⟩
      · obtain rfl : k = n := by omega
        have HY : Hid (Y = 0) := by unfold Hid; rw [HCD2.out]; exact HER.out
        have HF : Hid (hd0 ++ bytesSs (ss.take k) = X) := by unfold Hid; rw [← HN.out, List.take_length, HHD.out]
        rw [HF.out] at HPk
        obtain ⟨v, hv, ho⟩ := HPk.out.ex
        obtain ⟨A7, c7, hf7, -⟩ := ho.form2
        obtain ⟨L7, hL7⟩ : ∃ L7, X.length = L7 := ⟨_, rfl⟩
        rw [hL7] at hf7
        subst hf7
        have HO := hide ho
        have y0 : wr.cell? ⟨p, 0, none⟩ = some (.slice A7 L7 c7) := hv.cell 0
        have yl := hv.lt
        clear hv ho hL7
        go_wp2
        go_ret2
        exact ⟨_, by rw [HY.out]; rfl, by rw [HY.out, if_pos rfl]; exact ⟨HO.out.own, HBk.out, HO.out.le⟩⟩
  · have e0 : (E != 0) = true := by simpa using hz
    have HY : Hid (Y = E) := by unfold Hid; rw [HCD.out, if_neg hz]
    have HZ := hide hz
    clear hz hbdf
    go_wp2
    go_ret2
    exact ⟨.slice none 0 0, by rw [HY.out]; rfl, by rw [HY.out, if_neg HZ.out]; exact (Own.from0 HB1.out)⟩
theorem rdecheck_any (C : Nat) (te t : TypeId) (d : Df) (A : Option Addr) (n c : Nat) (w : World) (h : Sps C te t .i64 w A d.ss) (hC : C ≤ w.heap.size) (hn : d.ss.length = n) (hl : n ≤ 1000000) (hlb : ∀ s ∈ d.ss, LB s.cs) (hbd : ∀ s ∈ d.ss, s.cs.length ≤ 1000000) :
    Calls Tryz.prog 17 #[.agg #[.int .i64 d.rows, .int .i64 d.cols, .int .i64 d.row, .int .i64 d.col, .slice A n c]] w (Num .i64 (checkDe d) w) := by
  have hcd : checkDe d = if checkD d = 0 then errTo (fun i => checkR (sAt d.ss i).cs) n else checkD d := by unfold checkDe; rw [hn]
  obtain ⟨Y, hY⟩ : ∃ Y, checkDe d = Y := ⟨_, rfl⟩
  rw [hY] at hcd ⊢
  have CHK := rdcheck_any C te t d A n c
  obtain ⟨E, hE⟩ : ∃ E, checkD d = E := ⟨_, rfl⟩
  rw [hE] at hcd CHK
  clear hY hE
  obtain ⟨R, K, r0, l0, ss⟩ := d
  simp only at h hn hlb hbd hcd CHK ⊢
  obtain ⟨W0, hW0⟩ : ∃ W0, w.alloc (.cells #[.int .i64 R, .int .i64 K, .int .i64 r0, .int .i64 l0, .slice A n c] 32) = W0 := ⟨_, rfl⟩
  have HB0 : Hid (Below w.heap.size w W0) := by unfold Hid; rw [← hW0]; exact new1W _ _
  have HX0 : Hid (Whole W0 w.heap.size 32 [.int .i64 R, .int .i64 K, .int .i64 r0, .int .i64 l0, .slice A n c]) := by unfold Hid; rw [← hW0]; exact Whole.new w 32 [.int .i64 R, .int .i64 K, .int .i64 r0, .int .i64 l0, .slice A n c]
  have KEY := hide (CHK W0 (h.below HB0.out hC) (Nat.le_trans hC HB0.out.size) hn hl)
  have HW0 := hide hW0
  have HA := hide h
  have HC := hide hC
  have HN := hide hn
  have HLB := hide hlb
  have HBD := hide hbd
  have HCD := hide hcd
  clear hW0 h hC hn hlb hbd hcd CHK
  obtain ⟨d0, d1, d2, d3, d4, ld⟩ := cells5 HX0.out
  go_enter Tryz.func17, Tryz.ntmps17
  go_wp2_with fail
  rw [HW0.out]
  refine KEY.out.mono ?_
  rintro e w1 ⟨rfl, hb1⟩
  have HX1 := hide (HX0.out.later hb1)
  have HB1 := hide (HB0.out.trans (hb1.mono HB0.out.size))
  clear hb1 d0 d1 d2 d3 d4 ld
  go_wp2
  go_loopw [3, 4] (fun v i wr => ∃ (k : Nat) (x : Int), k ≤ n ∧ i = .int .i64 k ∧ v = .int .i64 x ∧ Hid (x = if E = 0 then errTo (fun i => checkR (sAt ss i).cs) k else E) ∧ Hid (Below w1.heap.size w1 wr)) (fun _ i _ => n - (intOf i).toNat)
  case atStart => exact ⟨0, E, Nat.zero_le _, rfl, rfl, by unfold Hid; by_cases q : E = 0; rw [if_pos q, q]; rfl; rw [if_neg q], Below.refl _ _⟩
  case round =>
    obtain ⟨k, x, hk, rfl, rfl, HX, HBk⟩ := hrel
    have HXk := hide (HX1.out.later HBk.out)
    obtain ⟨d0, d1, d2, d3, d4, ld⟩ := cells5 HXk.out
    by_cases hlt : k < n
    · by_cases hx : x = 0
      · have e0 : (x == 0) = true := by simpa using hx
        have hE : E = 0 := by
          have := HX.out
          by_cases q : E = 0
          · exact q
          · rw [if_neg q] at this; omega
        have her : errTo (fun i => checkR (sAt ss i).cs) k = 0 := by have := HX.out; rw [if_pos hE] at this; omega
        have hks : k < ss.length := by rw [HN.out]; exact hlt
        have hbw := HB1.out.trans (HBk.out.mono HB1.out.size)
        obtain ⟨b, off, A1, c1', rfl, lb, x0, x1, x2, xi, -⟩ := (HA.out.below hbw HC.out).at (i := k) hks
        have hlk : LB (sAt ss k).cs := HLB.out _ (mem_sAt ss k hks)
        have hlu : (sAt ss k).cs.length ≤ 1000000 := HBD.out _ (mem_sAt ss k hks)
        have HNX : Hid (checkR (sAt ss k).cs = if E = 0 then errTo (fun i => checkR (sAt ss i).cs) (k + 1) else E) := by
          unfold Hid
          rw [if_pos hE]
          show _ = (if errTo (fun i => checkR (sAt ss i).cs) k = 0 then checkR (sAt ss k).cs else errTo (fun i => checkR (sAt ss i).cs) k)
          rw [if_pos her]
        obtain ⟨s, hs⟩ : ∃ s, sAt ss k = s := ⟨_, rfl⟩
        rw [hs] at x0 x1 x2 xi hlk hlu HNX
        obtain ⟨r, l, cs⟩ := s
        simp only at x0 x1 x2 xi hlk hlu HNX
        obtain ⟨u, hu⟩ : ∃ u, cs.length = u := ⟨_, rfl⟩
        rw [hu] at x2 hlu
        have KEY2 := hide (rrcheck_any A1 u c1' cs wr xi.cels hu hlu (fun i hi => (hlk i (by omega)).2.2.2))
        clear hx hE her hks hbw xi hlk hs hu
        go_wp2_with fail
        refine KEY2.out.mono ?_
        rintro e w2 ⟨rfl, hb2⟩
        obtain ⟨y, hy⟩ : ∃ y, checkR cs = y := ⟨_, rfl⟩
        rw [hy] at HNX ⊢
        have HB2 := hide (HBk.out.trans (hb2.mono HBk.out.size))
        clear hb2 hy x0 x1 x2 lb d0 d1 d2 d3 d4 ld
        go_wp2
        go_roundw
        case rel => exact ⟨k + 1, y, by omega, by go_num, rfl, HNX, HB2⟩
        case measure => simp [intOf]; omega
      · have e0 : (x == 0) = false := by simpa using hx
        have HF : Hid (x = Y) := by
          unfold Hid
          have h1 := HX.out
          rw [HCD.out]
          by_cases q : E = 0
          · rw [if_pos q] at h1 ⊢
            rw [h1]
            exact (errTo_stays _ k n (by omega) (by rw [← h1]; exact hx)).symm
          · rw [if_neg q] at h1 ⊢; exact h1
        clear hx
        go_wp2
        go_ret
        exact ⟨by rw [← HF.out]; rfl, HB1.out.trans (HBk.out.mono HB1.out.size)⟩
    · obtain rfl : k = n := by omega
      have HF : Hid (x = Y) := by unfold Hid; rw [HCD.out]; exact HX.out
      go_wp2
      go_ret
      exact ⟨by rw [← HF.out]; rfl, HB1.out.trans (HBk.out.mono HB1.out.size)⟩
end
end Go.Proofs.YtcbdokocnjoilaaGreatDoor
