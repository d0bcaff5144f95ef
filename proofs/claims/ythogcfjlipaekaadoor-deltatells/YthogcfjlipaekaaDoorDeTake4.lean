/-
  Contracts: a nil reader tells no difference; the difference of bytes (the program's Take and Parse).
-/
import Derived.Test.YthogcfjlipaekaaDoorDeTake3
import Derived.Test.YthogcfjlipaekaaDoorB16
namespace Go.Proofs.YthogcfjlipaekaaDoor
set_option maxRecDepth 100000
open Go.ChangeShapes Go.WideShapes Go.ChangeAt Go.RowKit
set_option linter.unusedVariables false

set_option maxHeartbeats 400000 in
theorem upto_nil (n : Int) (w : World) : Calls Tryd.prog 71 #[.pointer none, .int .i64 n] w fun e w' => e = .returned (.int .i64 0) ∧ Below w.heap.size w w' := by
  go_enter Tryd.func71, Tryd.ntmps71
  go_wp2_with (first | (go_at_call 73; go_in) | (refine (next_nil _ _).mono ?_; rintro e w1 ⟨rfl, rfl⟩))
  go_ret
  exact ⟨rfl, ((Below.refl _ _).alloc (Nat.le_refl _) _).alloc (by simp) _⟩
set_option maxHeartbeats 400000 in
theorem err_nil (w : World) : Calls Tryd.prog 22 #[.pointer none] w fun e w' => e = .returned (.int .i64 1) ∧ w = w' := by
  go_enter Tryd.func22, Tryd.ntmps22
  go_wp2
  go_ret
  exact ⟨rfl, rfl⟩
set_option maxHeartbeats 1000000 in
theorem takesides_nil (q Q : Nat) (t : TypeId) (n : Nat) (L : List Value) (w : World) (hQ : Whole w Q 101 (ptrsTo q n)) (hq : Whole w q t L) (hn : n ≤ L.length) (hn2 : n ≤ 1000) (hQq : Q ≠ q) :
    Calls Tryd.prog 46 #[.pointer none, .slice (some ⟨Q, 0, none⟩) n n] w fun e w' => e = .returned (.tuple #[]) ∧ Only q w w' := by
  have HQ := hide hQ
  have HX := hide hq
  have HNL := hide hn
  have HPQ := hide hQq
  clear hQ hq hn hQq
  go_enter Tryd.func46, Tryd.ntmps46
  go_wp2
  go_loopw [5, 8] (fun _ i wr => ∃ k : Nat, k ≤ n ∧ i = .int .i64 k ∧ Hid (∃ l, l.length = L.length ∧ Whole wr q t l) ∧ Hid (Only q w wr)) (fun _ i _ => n - (intOf i).toNat)
  case atStart => exact ⟨0, Nat.zero_le _, rfl, ⟨L, rfl, HX.out⟩, Only.refl⟩
  case round =>
    obtain ⟨k, hk, rfl, HXk, HOk⟩ := hrel
    by_cases hlt : k < n
    · have q0 : wr.cell? ⟨Q, k, none⟩ = some (.pointer (some ⟨q, k, none⟩)) := by rw [(HQ.out.far HOk.out HPQ.out).cell, ptrs_at hlt]
      have lq : Q < wr.heap.size := (HQ.out.far HOk.out HPQ.out).lt
      go_wp2_with fail
      refine (upto_nil 512 wr).mono ?_
      rintro e w1 ⟨rfl, hb⟩
      obtain ⟨l, hll, hx⟩ := HXk.out
      have hx1 := hx.later hb
      have HO1 := hide (HOk.out.trans (Only.of_below hb))
      clear hb q0 lq hx HXk
      obtain ⟨old, x0⟩ : ∃ old, w1.cell? ⟨q, k, none⟩ = some old := by
        have := HNL.out
        exact ⟨_, (hx1.cell k).trans (List.getElem?_eq_getElem (by omega))⟩
      have z0 := hx1.frozen k
      have l0 := hx1.lt
      have HX2 : Hid (∃ l, l.length = L.length ∧ Whole (w1.setCell ⟨q, k, none⟩ (.int .i64 0)) q t l) := ⟨_, by rw [List.length_set]; exact hll, hx1.put k _⟩
      have HO2 : Hid (Only q w (w1.setCell ⟨q, k, none⟩ (.int .i64 0))) := HO1.out.trans (Only.put k _)
      clear hx1 hll
      go_wp2
      go_roundw
      case rel => exact ⟨k + 1, by omega, by go_num, HX2, HO2⟩
      case measure => simp [intOf]; omega
    · obtain rfl : k = n := by omega
      go_wp2
      go_end0
      exact ⟨rfl, HOk.out⟩
set_option maxHeartbeats 1000000 in
theorem detake_nil (w : World) : Calls Tryd.prog 21 #[.pointer none] w fun e w' => e = .returned (.agg #[.int .i64 0, .int .i64 0, .int .i64 0, .int .i64 0, .slice none 0 0]) ∧ Below w.heap.size w w' := by
  obtain ⟨W0, hW0⟩ : ∃ W0, ((w.alloc (.cells #[.int .i64 0, .int .i64 0, .int .i64 0, .int .i64 0, .slice none 0 0] 24)).alloc (.cells #[.int .i64 0, .int .i64 0, .int .i64 0, .int .i64 0, .slice none 0 0] 24)).alloc (.cells #[.pointer (some ⟨w.heap.size + 1, 0, none⟩), .pointer (some ⟨w.heap.size + 1, 1, none⟩), .pointer (some ⟨w.heap.size + 1, 2, none⟩), .pointer (some ⟨w.heap.size + 1, 3, none⟩)] 101) = W0 := ⟨_, rfl⟩
  have HB0 : Hid (Below w.heap.size w W0) := by unfold Hid; rw [← hW0]; exact three_newW w _ _ _
  have HP0 : Hid (Whole W0 w.heap.size 24 [.int .i64 0, .int .i64 0, .int .i64 0, .int .i64 0, .slice none 0 0]) := by unfold Hid; rw [← hW0]; exact ((Whole.new w 24 [.int .i64 0, .int .i64 0, .int .i64 0, .int .i64 0, .slice none 0 0]).alloc _).alloc _
  have HX0 : Hid (Whole W0 (w.heap.size + 1) 24 [.int .i64 0, .int .i64 0, .int .i64 0, .int .i64 0, .slice none 0 0]) := by unfold Hid; rw [← hW0]; exact (whole_snd w _ 24 [.int .i64 0, .int .i64 0, .int .i64 0, .int .i64 0, .slice none 0 0]).alloc _
  have HQ0 : Hid (Whole W0 (w.heap.size + 1 + 1) 101 (ptrsTo (w.heap.size + 1) 4)) := by unfold Hid; rw [← hW0]; exact whole_thd w _ _ 101 [.pointer (some ⟨w.heap.size + 1, 0, none⟩), .pointer (some ⟨w.heap.size + 1, 1, none⟩), .pointer (some ⟨w.heap.size + 1, 2, none⟩), .pointer (some ⟨w.heap.size + 1, 3, none⟩)]
  have HW0 := hide hW0
  clear hW0
  go_enter Tryd.func21, Tryd.ntmps21
  go_wp2
  go_step3
  go_wp2_with fail
  rw [HW0.out]
  refine (takesides_nil (w.heap.size + 1) (w.heap.size + 1 + 1) 24 4 _ W0 HQ0.out HX0.out (by decide) (by decide) (by omega)).mono ?_
  rintro e w1 ⟨rfl, ho⟩
  have HP1 := hide (HP0.out.far ho (by omega))
  have HB1 : Hid (Below w.heap.size w w1) := only_fresh HB0.out ho (by omega)
  clear ho
  go_wp2_with fail
  refine (some_nil 512 w1).mono ?_
  rintro e w2 ⟨rfl, hb⟩
  have HP2 := hide (HP1.out.later hb)
  have HB2 := hide (HB1.out.trans (hb.mono HB1.out.size))
  clear hb
  go_wp2
  go_step3
  go_wp2
  go_loopw [4, 15, 20] (fun l _ _ wr => l = .int .i64 0 ∧ wr = w2) (fun _ _ _ _ => 0)
  case atStart => exact ⟨rfl, rfl⟩
  case round =>
    obtain ⟨rfl, rfl⟩ := hrel
    go_wp2_with fail
    refine (err_nil _).mono ?_
    rintro e wz ⟨rfl, rfl⟩
    obtain ⟨p0, p1, p2, p3, p4, lp⟩ := cells5 HP2.out
    have z0 := HP2.out.frozen
    go_wp2
    rw [Exit.noGoto_ret]
    refine retDf Tryd.results21 rfl rfl (put5 HP2.out _ _ _ _ _) ?_
    exact ⟨rfl, below_put5 HB2.out (Nat.le_refl _) _ _ _ _ _⟩

/-! ### Parse -/
theorem retDfE {R : Ending → World → Prop} {a : Act} {w : World} {fn : Func} {s z : Nat} {q : Nat} {x0 x1 x2 x3 x4 v : Value} (hr : fn.results = #[.cell s 24, .tmp z]) (h4 : a.tmps.getD s undef = .pointer (some ⟨q, 0, none⟩)) (h6 : a.tmps.getD z undef = v) (hd : a.defers = [])
    (hw : Whole w q 24 [x0, x1, x2, x3, x4]) (hR : R (.returned (.tuple #[.agg #[x0, x1, x2, x3, x4], v])) w) : bodyPost Tryd.prog fn R .ret a w := by
  have c0 : w.cell? ⟨q, 0, none⟩ = some x0 := hw.cell 0
  have c1 : w.cell? ⟨q, 1, none⟩ = some x1 := hw.cell 1
  have c2 : w.cell? ⟨q, 2, none⟩ = some x2 := hw.cell 2
  have c3 : w.cell? ⟨q, 3, none⟩ = some x3 := hw.cell 3
  have c4 : w.cell? ⟨q, 4, none⟩ = some x4 := hw.cell 4
  clear hw
  rw [Array.getD_eq_getD_getElem?] at h4 h6
  exact bodyPost_ret (v := .tuple #[.agg #[x0, x1, x2, x3, x4], v]) (by simp [results, hr, h4, h6, c0, c1, c2, c3, c4, go_sem]) hd hR
/-- What Parse leaves. -/
def ParseDS (w : World) (x : Df × Int) (e : Ending) (w' : World) : Prop :=
  ∃ A c, e = .returned (.tuple #[.agg #[.int .i64 x.1.rows, .int .i64 x.1.cols, .int .i64 x.1.row, .int .i64 x.1.col, .slice A x.1.ss.length c], .int .i64 x.2]) ∧ DfOk 0 63 79 .i32 w' x.1 A c ∧ Below w.heap.size w w'
set_option maxHeartbeats 2000000 in
theorem deparse_s (A : Option Addr) (n c : Nat) (xs : List Int) (w : World) (h : Ints .u8 w A xs) (hn : xs.length = n) (hc : A = none → c = 0) (hlen : n ≤ 1000000) (hb : Byte xs) (hS : Spans w) :
    Calls Tryd.prog 11 #[.slice A n c] w (ParseDS w (parseDe xs)) := by
  obtain ⟨W0, hW0⟩ : ∃ W0, w.alloc (.cells #[.int .i64 0, .int .i64 0, .int .i64 0, .int .i64 0, .slice none 0 0] 24) = W0 := ⟨_, rfl⟩
  have hb0 : Below w.heap.size w W0 := by rw [← hW0]; exact new1W _ _
  have HP0 : Hid (Whole W0 w.heap.size 24 [.int .i64 0, .int .i64 0, .int .i64 0, .int .i64 0, .slice none 0 0]) := by unfold Hid; rw [← hW0]; exact Whole.new w 24 [.int .i64 0, .int .i64 0, .int .i64 0, .int .i64 0, .slice none 0 0]
  have KEY := hide (new_s A n c xs W0 (h.below hb0) hn hc hlen)
  have HB0 := hide hb0
  have HS0 := hide (hS.below hb0)
  have HN := hide hn
  have HW0 := hide hW0
  obtain ⟨⟨⟨T, E⟩, d⟩, hX⟩ : ∃ X, takeDe xs (0, 0) = X := ⟨_, rfl⟩
  have HX := hide hX
  obtain ⟨D, hD⟩ : ∃ D, dVal xs T E = D := ⟨_, rfl⟩
  have HD := hide hD
  have HP : Hid (parseDe xs = if D = 0 then (d, 0) else (zeroD, D)) := by
    unfold Hid parseDe
    simp only [hX, hD]
  clear h hn hS hX hD hW0 hb0
  go_enter Tryd.func11, Tryd.ntmps11
  go_wp2_with fail
  rw [HW0.out]
  refine KEY.out.mono ?_
  rintro e w1 ⟨g, rfl, hr1, hg1, hb1⟩
  have HR1 := hide hr1
  have HG1 : Hid (W0.heap.size ≤ g) := hg1
  have HPG : Hid (w.heap.size ≠ g) := by unfold Hid; have := HP0.out.lt; omega
  have HB1 := hide hb1
  have HP1 := hide (HP0.out.later hb1)
  clear hr1 hg1 hb1
  go_wp2_with fail
  refine (detake_s g xs (0, 0) w1 HR1.out hb (by rw [HN.out]; exact hlen) (HS0.out.below HB1.out)).mono ?_
  rw [HX.out]
  rintro e w2 ⟨A2, c2, rfl, hd2, ho2, hr2⟩
  simp only at hd2 hr2
  obtain ⟨a1, a2, a3, a4, ss⟩ := d
  obtain ⟨k2, hk2⟩ : ∃ k2, ss.length = k2 := ⟨_, rfl⟩
  simp only
  rw [hk2]
  have HK2 := hide hk2
  have HBW : Hid (Below w.heap.size w w2) := HB0.out.trans ((only_fresh HB1.out ho2 HG1.out).mono HB0.out.size)
  have HP2 := hide (HP1.out.far ho2 HPG.out)
  obtain ⟨w3, hw3⟩ : ∃ w3, w2.alloc (.cells #[.int .i64 a1, .int .i64 a2, .int .i64 a3, .int .i64 a4, .slice A2 k2 c2] 24) = w3 := ⟨_, rfl⟩
  have hb3 : Below w2.heap.size w2 w3 := by rw [← hw3]; exact new1W _ _
  have HQ3 : Hid (Whole w3 w2.heap.size 24 [.int .i64 a1, .int .i64 a2, .int .i64 a3, .int .i64 a4, .slice A2 k2 c2]) := by unfold Hid; rw [← hw3]; exact Whole.new w2 24 [.int .i64 a1, .int .i64 a2, .int .i64 a3, .int .i64 a4, .slice A2 k2 c2]
  have HP3 := hide (HP2.out.later hb3)
  have HR3 := hide (hr2.later hb3)
  have HB3 := hide (HBW.out.trans (hb3.mono HBW.out.size))
  have HD3 := hide (hd2.below hb3)
  have HW3 := hide hw3
  clear hd2 hr2 ho2 hk2 hw3 hb3
  go_wp2_with fail
  rw [HW3.out]
  refine (done_s g xs (T, E) w3 HR3.out).mono ?_
  simp only
  rw [HD.out]
  rintro e wz ⟨rfl, rfl⟩
  obtain ⟨p0, p1, p2, p3, p4, lp⟩ := cells5 HP3.out
  have z0 := HP3.out.frozen
  have hl0 : (0 : Nat) ≤ w3.heap.size := Nat.zero_le _
  by_cases hz : D = 0
  · have hq : (D != 0) = false := by simpa using hz
    have HF : Hid (parseDe xs = (⟨a1, a2, a3, a4, ss⟩, 0)) := by unfold Hid; rw [HP.out, if_pos hz]
    clear hz
    obtain ⟨d0, d1, d2, d3, d4, ld⟩ := cells5 HQ3.out
    go_wp2
    refine retDfE Tryd.results11 rfl rfl rfl (put5 HP3.out _ _ _ _ _) ?_
    rw [HF.out]
    have hd := HD3.out
    exact ⟨A2, c2, by rw [← HK2.out]; rfl, ⟨hd.sps.keep (fun b hb => absurd hb (Nat.not_lt_zero b)) (stays_put5 HP3.out (by decide) _ _ _ _ _) (stays_put5 HP3.out (by decide) _ _ _ _ _), hd.cap, hd.none, Nat.zero_le _⟩, below_put5 HB3.out (Nat.le_refl _) _ _ _ _ _⟩
  · have hq : (D != 0) = true := by simpa using hz
    have HF : Hid (parseDe xs = (zeroD, D)) := by unfold Hid; rw [HP.out, if_neg hz]
    clear hz
    go_wp2
    refine retDfE Tryd.results11 rfl rfl rfl (put5 HP3.out _ _ _ _ _) ?_
    rw [HF.out]
    exact ⟨none, 0, rfl, ⟨.nil, Nat.le_refl _, fun _ => rfl, Nat.zero_le _⟩, below_put5 HB3.out (Nat.le_refl _) _ _ _ _ _⟩
end Go.Proofs.YthogcfjlipaekaaDoor
