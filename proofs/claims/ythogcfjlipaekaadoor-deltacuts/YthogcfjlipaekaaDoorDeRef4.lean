/-
  Contracts: the difference of bytes (the document's Parse); whether a difference is the document's (the law's Same).
-/
import Derived.Test.YthogcfjlipaekaaDoorDeRef3
import Derived.Test.YthogcfjlipaekaaDoorB19
import Derived.Test.YthogcfjlipaekaaDoorB18
import Derived.BigQuiet
namespace Go.Proofs.YthogcfjlipaekaaDoor
set_option maxRecDepth 100000
open Go.ChangeShapes Go.WideShapes Go.ChangeAt Go.RowKit
set_option linter.unusedVariables false

theorem retD1E {R : Ending → World → Prop} {a : Act} {w : World} {fn : Func} {s z : Nat} {q : Nat} {x0 x1 x2 x3 x4 v : Value} (hr : fn.results = #[.cell s 29, .tmp z]) (h4 : a.tmps.getD s undef = .pointer (some ⟨q, 0, none⟩)) (h6 : a.tmps.getD z undef = v) (hd : a.defers = [])
    (hw : Whole w q 29 [x0, x1, x2, x3, x4]) (hR : R (.returned (.tuple #[.agg #[x0, x1, x2, x3, x4], v])) w) : bodyPost Tryd.prog fn R .ret a w := by
  have c0 : w.cell? ⟨q, 0, none⟩ = some x0 := hw.cell 0
  have c1 : w.cell? ⟨q, 1, none⟩ = some x1 := hw.cell 1
  have c2 : w.cell? ⟨q, 2, none⟩ = some x2 := hw.cell 2
  have c3 : w.cell? ⟨q, 3, none⟩ = some x3 := hw.cell 3
  have c4 : w.cell? ⟨q, 4, none⟩ = some x4 := hw.cell 4
  clear hw
  rw [Array.getD_eq_getD_getElem?] at h4 h6
  exact bodyPost_ret (v := .tuple #[.agg #[x0, x1, x2, x3, x4], v]) (by simp [results, hr, h4, h6, c0, c1, c2, c3, c4, go_sem]) hd hR
/-- What the document's Parse leaves. -/
def ParseDN (w : World) (x : Df × Int) (e : Ending) (w' : World) : Prop :=
  ∃ A c, e = .returned (.tuple #[.agg #[.int .i64 x.1.rows, .int .i64 x.1.cols, .int .i64 x.1.row, .int .i64 x.1.col, .slice A x.1.ss.length c], .int .i64 x.2]) ∧ DfOk 0 68 109 .i64 w' x.1 A c ∧ Below w.heap.size w w'
set_option maxHeartbeats 2000000 in
theorem rdeparse_any (A : Option Addr) (n c : Nat) (xs : List Int) (w : World) (h : Ints .u8 w A xs) (hn : xs.length = n) (hc : n ≤ c) (hlen : n ≤ 1000000) (hb : Byte xs) :
    Calls Tryd.prog 15 #[.slice A n c] w (ParseDN w (parseDe xs)) := by
  obtain ⟨W0, hW0⟩ : ∃ W0, w.alloc (.cells #[.int .i64 0, .int .i64 0, .int .i64 0, .int .i64 0, .slice none 0 0] 29) = W0 := ⟨_, rfl⟩
  have hb0 : Below w.heap.size w W0 := by rw [← hW0]; exact new1W _ _
  have HP0 : Hid (Whole W0 w.heap.size 29 [.int .i64 0, .int .i64 0, .int .i64 0, .int .i64 0, .slice none 0 0]) := by unfold Hid; rw [← hW0]; exact Whole.new w 29 [.int .i64 0, .int .i64 0, .int .i64 0, .int .i64 0, .slice none 0 0]
  have KEY := hide (rdetake_any A n c xs (0, 0) W0 (h.below hb0) hn hb hlen hc (Nat.zero_le _))
  have HB0 := hide hb0
  have HN := hide hn
  have HW0 := hide hW0
  obtain ⟨⟨⟨T, E⟩, d⟩, hX⟩ : ∃ X, takeDe xs (0, 0) = X := ⟨_, rfl⟩
  rw [hX] at KEY
  obtain ⟨D, hD⟩ : ∃ D, dVal xs T E = D := ⟨_, rfl⟩
  have HD := hide hD
  have HP : Hid (parseDe xs = if D = 0 then (d, 0) else (zeroD, D)) := by
    unfold Hid parseDe
    simp only [hX, hD]
  clear h hn hX hD hW0 hb0
  go_enter Tryd.func15, Tryd.ntmps15
  go_wp2_with fail
  rw [HW0.out]
  refine KEY.out.mono ?_
  rintro e w2 ⟨A2, c2, rfl, hd2, hb2⟩
  simp only at hd2
  obtain ⟨a1, a2, a3, a4, ss⟩ := d
  obtain ⟨k2, hk2⟩ : ∃ k2, ss.length = k2 := ⟨_, rfl⟩
  simp only
  rw [hk2]
  have HK2 := hide hk2
  have HBW := hide (HB0.out.trans (hb2.mono HB0.out.size))
  have HP2 := hide (HP0.out.later hb2)
  obtain ⟨w3, hw3⟩ : ∃ w3, (w2.alloc (.cells #[.slice A n c, .int .i64 (T : Int), .int .i64 E] 49)).alloc (.cells #[.int .i64 a1, .int .i64 a2, .int .i64 a3, .int .i64 a4, .slice A2 k2 c2] 29) = w3 := ⟨_, rfl⟩
  have hb3 : Below w2.heap.size w2 w3 := by rw [← hw3]; exact below2 w2 _ _
  have HR3 : Hid (Whole w3 w2.heap.size 49 [.slice A n c, .int .i64 (T : Int), .int .i64 E]) := by unfold Hid; rw [← hw3]; exact (Whole.new w2 49 [.slice A n c, .int .i64 (T : Int), .int .i64 E]).alloc _
  have HQ3 : Hid (Whole w3 (w2.heap.size + 1) 29 [.int .i64 a1, .int .i64 a2, .int .i64 a3, .int .i64 a4, .slice A2 k2 c2]) := by unfold Hid; rw [← hw3]; exact whole_snd w2 _ 29 [.int .i64 a1, .int .i64 a2, .int .i64 a3, .int .i64 a4, .slice A2 k2 c2]
  have HP3 := hide (HP2.out.later hb3)
  have HB3 := hide (HBW.out.trans (hb3.mono HBW.out.size))
  have HD3 := hide (hd2.below hb3)
  have HW3 := hide hw3
  clear hd2 hb2 hk2 hw3 hb3
  go_wp2_with fail
  rw [HW3.out]
  refine (rdone A n c xs T E w3 HN.out).mono ?_
  rw [HD.out]
  rintro e w4 ⟨rfl, hb4⟩
  have HR4 := hide (HR3.out.later hb4)
  have HQ4 := hide (HQ3.out.later hb4)
  have HP4 := hide (HP3.out.later hb4)
  have HB4 := hide (HB3.out.trans (hb4.mono HB3.out.size))
  have HD4 := hide (HD3.out.below hb4)
  clear hb4
  by_cases hz : D = 0
  · have hq : (D != 0) = false := by simpa using hz
    have HF : Hid (parseDe xs = (⟨a1, a2, a3, a4, ss⟩, 0)) := by unfold Hid; rw [HP.out, if_pos hz]
    clear hz
    obtain ⟨p0, p1, p2, p3, p4, lp⟩ := cells5 HP4.out
    have z0 := HP4.out.frozen
    obtain ⟨d0, d1, d2, d3, d4, ld⟩ := cells5 HQ4.out
    go_wp2
    refine retD1E Tryd.results15 rfl rfl rfl (put5 HP4.out _ _ _ _ _) ?_
    rw [HF.out]
    have hd := HD4.out
    exact ⟨A2, c2, by rw [← HK2.out]; rfl, ⟨hd.sps.keep (fun b => nob b) (stays_put5 HP4.out (by decide) _ _ _ _ _) (stays_put5 HP4.out (by decide) _ _ _ _ _), hd.cap, hd.none, Nat.zero_le _⟩, below_put5 HB4.out (Nat.le_refl _) _ _ _ _ _⟩
  · have hq : (D != 0) = true := by simpa using hz
    have HF : Hid (parseDe xs = (zeroD, D)) := by unfold Hid; rw [HP.out, if_neg hz]
    clear hz
    obtain ⟨d0, d1, d2, ld⟩ := cells3 HR4.out
    go_wp2_with fail
    refine (rdone A n c xs T E w4 HN.out).mono ?_
    rw [HD.out]
    rintro e w5 ⟨rfl, hb5⟩
    have HP5 := hide (HP4.out.later hb5)
    have HB5 := hide (HB4.out.trans (hb5.mono HB4.out.size))
    clear hb5 d0 d1 d2 ld
    obtain ⟨p0, p1, p2, p3, p4, lp⟩ := cells5 HP5.out
    have z0 := HP5.out.frozen
    go_wp2
    refine retD1E Tryd.results15 rfl rfl rfl (put5 HP5.out _ _ _ _ _) ?_
    rw [HF.out]
    exact ⟨none, 0, rfl, ⟨.nil, Nat.le_refl _, fun _ => rfl, Nat.zero_le _⟩, below_put5 HB5.out (Nat.le_refl _) _ _ _ _ _⟩

/-! ### the law's Same -/
set_option maxHeartbeats 2000000 in
theorem desame_any (C C' : Nat) (te t te' t' : TypeId) (x y : Df) (A A' : Option Addr) (n m c d : Nat) (w : World) (ha : Sps C te t .i32 w A x.ss) (hb : Sps C' te' t' .i64 w A' y.ss) (hC : C ≤ w.heap.size) (hC' : C' ≤ w.heap.size) (hn : x.ss.length = n) (hm : y.ss.length = m) (hl : n ≤ 1000000) (hbd : ∀ s ∈ x.ss, s.cs.length ≤ 1000000) (hlb : ∀ s ∈ x.ss, LB s.cs) {bo : Bool} (hbo : decide (x = y) = bo) :
    Calls Tryd.prog 16 #[.agg #[.int .i64 x.rows, .int .i64 x.cols, .int .i64 x.row, .int .i64 x.col, .slice A n c], .agg #[.int .i64 y.rows, .int .i64 y.cols, .int .i64 y.row, .int .i64 y.col, .slice A' m d]] w (Said bo w) := by
  have hsame := rdsame_any (C' := C') (te' := te') (t' := t') (y := y) (A' := A') (m := m) (d := d) (x := x)
  have hof := ldof_any C te t x A n c
  rw [hbo] at hsame
  clear hbo
  obtain ⟨a1, a2, a3, a4, ss⟩ := x
  obtain ⟨b1, b2, b3, b4, ts⟩ := y
  simp only at ha hb hn hm hbd hlb hsame hof ⊢
  obtain ⟨W0, hW0⟩ : ∃ W0, (w.alloc (.cells #[.int .i64 a1, .int .i64 a2, .int .i64 a3, .int .i64 a4, .slice A n c] 24)).alloc (.cells #[.int .i64 b1, .int .i64 b2, .int .i64 b3, .int .i64 b4, .slice A' m d] 29) = W0 := ⟨_, rfl⟩
  have HB0 : Hid (Below w.heap.size w W0) := by unfold Hid; rw [← hW0]; exact below2 w _ _
  have HX0 : Hid (Whole W0 w.heap.size 24 [.int .i64 a1, .int .i64 a2, .int .i64 a3, .int .i64 a4, .slice A n c]) := by unfold Hid; rw [← hW0]; exact (Whole.new w 24 [.int .i64 a1, .int .i64 a2, .int .i64 a3, .int .i64 a4, .slice A n c]).alloc _
  have HY0 : Hid (Whole W0 (w.heap.size + 1) 29 [.int .i64 b1, .int .i64 b2, .int .i64 b3, .int .i64 b4, .slice A' m d]) := by unfold Hid; rw [← hW0]; exact whole_snd w _ 29 [.int .i64 b1, .int .i64 b2, .int .i64 b3, .int .i64 b4, .slice A' m d]
  have HOF := hide (hof W0.drew (ha.below (HB0.out.drewN 1) hC) hn hl hbd hlb)
  have HSM := hide (fun (k1 : World) (h : Below W0.heap.size W0 k1) (B : Option Addr) (cb : Nat) (hk : Sps W0.heap.size 68 109 .i64 k1 B ss) => hsame W0.heap.size 68 109 B n cb k1 hk (hb.below (HB0.out.trans (h.mono HB0.out.size)) hC') h.size (Nat.le_trans hC' (Nat.le_trans HB0.out.size h.size)) hn hm hl hbd)
  have HN := hide hn
  have HW0 := hide hW0
  clear hW0 ha hb hC hC' hn hm hl hbd hlb hsame hof
  go_enter Tryd.func16, Tryd.ntmps16
  go_upto_region 1 with fail
  rw [HW0.out]
  refine rgH (fun w' => Below W0.heap.size W0 w') [(true, 0), (true, 2), (false, 1), (false, 3), (false, 4)] ((Below.refl _ _).drewN 1) ?_
  refine stH (hy := fun w hS => by obtain ⟨f0, f1, f2, f3, f4, -⟩ := cells5 (HX0.out.later hS); go_simp <;> with_reducible rfl) (h := ?_)
  refine stH (hy := fun w hS => by obtain ⟨f0, f1, f2, f3, f4, -⟩ := cells5 (HY0.out.later hS); go_simp <;> with_reducible rfl) (h := ?_)
  refine alH fun K hK => ?_
  go_wp2_with fail
  refine (HOF.out).mono ?_
  rintro e k1 ⟨B, cb, rfl, hd1, hb1⟩
  simp only
  rw [HN.out]
  have B1 : Below W0.heap.size W0 k1 := ((Below.refl W0.heap.size W0).drewN 1).trans hb1
  have HD1 := hide hd1.sps
  clear hd1 hb1
  go_wp2
  refine hK.out _ _ (B1) ?_
  clear hK K
  refine alH fun K hK => ?_
  go_wp2_with fail
  refine (HSM.out k1 B1 B cb HD1.out).mono ?_
  rintro e k2 ⟨rfl, hb2⟩
  have B2 : Below W0.heap.size W0 k2 := B1.trans (hb2.mono B1.size)
  clear hb2
  go_wp2
  refine hK.out _ _ (B2) ?_
  clear hK K
  refine alH fun K hK => ?_
  go_wp2
  refine hK.out _ _ (B2) ?_
  clear hK K
  refine chainH_nil ?_
  have HBf : Hid (Below w.heap.size w k2) := HB0.out.trans (B2.mono HB0.out.size)
  clear B1 B2
  go_wp2
  go_ret
  exact ⟨rfl, HBf.out⟩
end Go.Proofs.YthogcfjlipaekaaDoor
