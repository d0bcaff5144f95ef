/-
  Contracts: whether frames are the same (the program's, the document's).
-/
import Derived.Test.YtcbdokocnjoilaaGreatDoorFrBase
import Derived.Test.YtcbdokocnjoilaaGreatDoorH14
import Derived.Test.YtcbdokocnjoilaaGreatDoorH16
import Derived.Test.YtcbdokocnjoilaaGreatDoorH2
namespace Go.Proofs.YtcbdokocnjoilaaGreatDoor
set_option maxRecDepth 100000
open Go.ChangeShapes Go.WideShapes Go.ChangeAt Go.RowKit
set_option linter.unusedVariables false

theorem infoU64 : ∃ i, Tryz.prog.info? 22 = some i := Option.isSome_iff_exists.1 (by kernel_rfl)
theorem partU64 (xs : Array Value) (i : Nat) (x : Int) (h : xs[i]? = some (.int .u64 x)) (w : World) : (part 22 xs i).run Tryz.prog w = .ok (.int .u64 x) w := by
  unfold part
  simp [go_sem, h]
def eqA (a1 a2 a3 a4 b1 b2 b3 b4 : Int) : Bool := (a1 == b1) && ((a2 == b2) && ((a3 == b3) && (a4 == b4)))
theorem eqA_iff (a1 a2 a3 a4 b1 b2 b3 b4 : Int) : eqA a1 a2 a3 a4 b1 b2 b3 b4 = true ↔ a1 = b1 ∧ a2 = b2 ∧ a3 = b3 ∧ a4 = b4 := by unfold eqA; simp [beq_iff_eq]
theorem equalA4 (d : Nat) (w : World) (a1 a2 a3 a4 b1 b2 b3 b4 : Int) : (Op.equalIn (d + 2) 56 (.agg #[.int .u64 a1, .int .u64 a2, .int .u64 a3, .int .u64 a4]) (.agg #[.int .u64 b1, .int .u64 b2, .int .u64 b3, .int .u64 b4])).run Tryz.prog w = .ok (eqA a1 a2 a3 a4 b1 b2 b3 b4) w := by
  obtain ⟨i, hi⟩ := infoU64
  rw [run_equalIn_array w (d + 1) _ _ Tryz.underlying56 hi, cellsU64]
  have hr : List.range 4 = [0, 1, 2, 3] := rfl
  rw [hr]
  simp only [Op.eqItems, Sem.run_bind, Nat.mul_one, partU64 #[Value.int .u64 a1, .int .u64 a2, .int .u64 a3, .int .u64 a4] 0 a1 rfl, partU64 #[Value.int .u64 a1, .int .u64 a2, .int .u64 a3, .int .u64 a4] 1 a2 rfl, partU64 #[Value.int .u64 a1, .int .u64 a2, .int .u64 a3, .int .u64 a4] 2 a3 rfl, partU64 #[Value.int .u64 a1, .int .u64 a2, .int .u64 a3, .int .u64 a4] 3 a4 rfl, partU64 #[Value.int .u64 b1, .int .u64 b2, .int .u64 b3, .int .u64 b4] 0 b1 rfl, partU64 #[Value.int .u64 b1, .int .u64 b2, .int .u64 b3, .int .u64 b4] 1 b2 rfl, partU64 #[Value.int .u64 b1, .int .u64 b2, .int .u64 b3, .int .u64 b4] 2 b3 rfl, partU64 #[Value.int .u64 b1, .int .u64 b2, .int .u64 b3, .int .u64 b4] 3 b4 rfl, Result.andThen_ok, run_equalIn_int w d 22 .u64 .u64 _ _ Tryz.underlying22, Sem.run_ite, Sem.run_pure]
  unfold eqA
  cases a1 == b1 <;> cases a2 == b2 <;> cases a3 == b3 <;> cases a4 == b4 <;> simp
theorem partA4 (a b c d : Value) (W : World) : (part 56 #[a, b, c, d] 0).run Tryz.prog W = .ok (.agg #[a, b, c, d]) W := by kernel_rfl
theorem fieldsFHead : fieldsAre Tryz.prog 58 [(false, 56, 0)] := by unfold fieldsAre; kernel_rfl
theorem eqlFHead (a1 a2 a3 a4 b1 b2 b3 b4 : Int) (w : World) : (binOp .eql 58 (.agg #[.int .u64 a1, .int .u64 a2, .int .u64 a3, .int .u64 a4]) (.agg #[.int .u64 b1, .int .u64 b2, .int .u64 b3, .int .u64 b4])).run Tryz.prog w = .ok (.bool (eqA a1 a2 a3 a4 b1 b2 b3 b4)) w := by
  rw [run_eql_struct, run_equalIn_agg w 9999 58 _ _ Tryz.underlying58 Tryz.stoodInHeld58]
  have h3 := fieldsFHead
  unfold fieldsAre at h3
  generalize (Tryz.prog.fieldsOf 58).toList = fs at h3
  have hl : fs.length = 1 := by have := congrArg List.length h3; simpa using this
  match fs, hl with
  | [f0], _ =>
    simp only [List.map_cons, List.map_nil, List.cons.injEq, Prod.mk.injEq, beq_eq_false_iff_ne, ne_eq, and_true] at h3
    obtain ⟨n0, t0, o0⟩ := h3
    simp only [Op.eqFields, n0, t0, o0, ne_eq, not_false_eq_true, if_true, Sem.run_bind, partA4, Result.andThen_ok, equalA4 9997, Sem.run_ite, Sem.run_pure]
    cases eqA a1 a2 a3 a4 b1 b2 b3 b4 <;> simp
theorem Fm.same {a b : Fm} : a = b ↔ (a.num = b.num ∧ a.base = b.base ∧ a.echo = b.echo ∧ a.stamp = b.stamp) ∧ a.d = b.d := by
  cases a; cases b; simp [and_assoc]
instance : DecidableEq Fm := fun a b => decidable_of_iff _ (Fm.same (a := a) (b := b)).symm
set_option maxHeartbeats 4000000 in
theorem frsame_any (C C' : Nat) (te t te' t' : TypeId) (a b : Fm) (A A' : Option Addr) (n m c d : Nat) (w : World) (ha : Sps C te t .i32 w A a.d.ss) (hb : Sps C' te' t' .i32 w A' b.d.ss) (hC : C ≤ w.heap.size) (hC' : C' ≤ w.heap.size) (hn : a.d.ss.length = n) (hm : b.d.ss.length = m) (hl : n ≤ 1000000) (hbd : ∀ s ∈ a.d.ss, s.cs.length ≤ 1000000) :
    Calls Tryz.prog 9 #[.agg #[.int .u64 a.num, .int .u64 a.base, .int .u64 a.echo, .int .u64 a.stamp, .int .i64 a.d.rows, .int .i64 a.d.cols, .int .i64 a.d.row, .int .i64 a.d.col, .slice A n c], .agg #[.int .u64 b.num, .int .u64 b.base, .int .u64 b.echo, .int .u64 b.stamp, .int .i64 b.d.rows, .int .i64 b.d.cols, .int .i64 b.d.row, .int .i64 b.d.col, .slice A' m d]] w (Said (decide (a = b)) w) := by
  have eP := eqlFHead
  obtain ⟨W0, hW0⟩ : ∃ W0, (w.alloc (.cells #[.int .u64 a.num, .int .u64 a.base, .int .u64 a.echo, .int .u64 a.stamp, .int .i64 a.d.rows, .int .i64 a.d.cols, .int .i64 a.d.row, .int .i64 a.d.col, .slice A n c] 27)).alloc (.cells #[.int .u64 b.num, .int .u64 b.base, .int .u64 b.echo, .int .u64 b.stamp, .int .i64 b.d.rows, .int .i64 b.d.cols, .int .i64 b.d.row, .int .i64 b.d.col, .slice A' m d] 27) = W0 := ⟨_, rfl⟩
  have HB0 : Hid (Below w.heap.size w W0) := by unfold Hid; rw [← hW0]; exact below2 w _ _
  have HX0 : Hid (Whole W0 w.heap.size 27 [.int .u64 a.num, .int .u64 a.base, .int .u64 a.echo, .int .u64 a.stamp, .int .i64 a.d.rows, .int .i64 a.d.cols, .int .i64 a.d.row, .int .i64 a.d.col, .slice A n c]) := by unfold Hid; rw [← hW0]; exact (Whole.new w 27 [.int .u64 a.num, .int .u64 a.base, .int .u64 a.echo, .int .u64 a.stamp, .int .i64 a.d.rows, .int .i64 a.d.cols, .int .i64 a.d.row, .int .i64 a.d.col, .slice A n c]).alloc _
  have HY0 : Hid (Whole W0 (w.heap.size + 1) 27 [.int .u64 b.num, .int .u64 b.base, .int .u64 b.echo, .int .u64 b.stamp, .int .i64 b.d.rows, .int .i64 b.d.cols, .int .i64 b.d.row, .int .i64 b.d.col, .slice A' m d]) := by unfold Hid; rw [← hW0]; exact whole_snd w _ 27 [.int .u64 b.num, .int .u64 b.base, .int .u64 b.echo, .int .u64 b.stamp, .int .i64 b.d.rows, .int .i64 b.d.cols, .int .i64 b.d.row, .int .i64 b.d.col, .slice A' m d]
  have HI := hide (ha.below HB0.out hC)
  have HJ := hide (hb.below HB0.out hC')
  have HW0 := hide hW0
  have HN := hide hn
  have HM := hide hm
  have HBD := hide hbd
  replace hC := Nat.le_trans hC HB0.out.size
  replace hC' := Nat.le_trans hC' HB0.out.size
  clear hW0 ha hb hn hm hbd
  by_cases hq : a.num = b.num ∧ a.base = b.base ∧ a.echo = b.echo ∧ a.stamp = b.stamp
  · have e1 : eqA a.num a.base a.echo a.stamp b.num b.base b.echo b.stamp = true := (eqA_iff _ _ _ _ _ _ _ _).2 hq
    have HS : Hid (decide (a = b) = decide (a.d = b.d)) := by unfold Hid; rw [Bool.eq_iff_iff, decide_eq_true_iff, decide_eq_true_iff, Fm.same]; exact ⟨fun h => h.2, fun h => ⟨hq, h⟩⟩
    clear hq
    go_enter Tryz.func9, Tryz.ntmps9
    go_upto_region 1 with fail
    rw [HW0.out]
    refine rgH (fun w' => Below W0.heap.size W0 w') [(true, 0), (true, 2), (false, 1), (false, 3), (false, 4), (false, 5), (true, 6), (true, 8), (true, 7), (false, 9), (false, 10), (false, 11), (false, 12)] ((Below.refl _ _).drewN 1) ?_
    refine stH (hy := fun w hS => by obtain ⟨x0, x1, x2, x3, x4, x5, x6, x7, x8, -⟩ := cells9 (HX0.out.later hS); go_simp <;> with_reducible rfl) (h := ?_)
    refine stH (hy := fun w hS => by obtain ⟨x0, x1, x2, x3, x4, x5, x6, x7, x8, -⟩ := cells9 (HY0.out.later hS); go_simp <;> with_reducible rfl) (h := ?_)
    refine alH fun K hK => ?_
    go_wp2_with fail
    refine (frhead_any a A n c W0.drew).mono ?_
    rintro e k1 ⟨rfl, hb⟩
    have Bk1 : Below W0.heap.size W0 k1 := ((Below.refl W0.heap.size W0).drewN 1).trans hb
    clear hb
    go_wp2
    refine hK.out _ _ (Bk1) ?_
    clear hK K
    refine alH fun K hK => ?_
    go_wp2_with fail
    refine (frhead_any b A' m d k1).mono ?_
    rintro e k2 ⟨rfl, hb⟩
    have Bk2 : Below W0.heap.size W0 k2 := Bk1.trans (hb.mono Bk1.size)
    clear hb
    go_wp2
    refine hK.out _ _ (Bk2) ?_
    clear hK K
    refine alH fun K hK => ?_
    go_wp2
    refine hK.out _ _ (Bk2) ?_
    clear hK K
    refine alH fun K hK => ?_
    go_wp2
    refine hK.out _ _ (Bk2) ?_
    clear hK K
    iterate 2 refine stH (h := ?_)
    refine stH (hy := fun w hS => by obtain ⟨x0, x1, x2, x3, x4, x5, x6, x7, x8, -⟩ := cells9 (HX0.out.later hS); go_simp <;> with_reducible rfl) (h := ?_)
    obtain ⟨x0, x1, x2, x3, x4, x5, x6, x7, x8, lx⟩ := cells9 (HY0.out.later Bk2)
    refine alH fun K hK => ?_
    go_wp2
    refine hK.out _ _ (Bk2) ?_
    clear hK K
    clear x0 x1 x2 x3 x4 x5 x6 x7 x8 lx
    refine alH fun K hK => ?_
    go_wp2_with fail
    refine (dfsame_any C C' te t te' t' a.d b.d A A' n m c d k2 (HI.out.below Bk2 hC) (HJ.out.below Bk2 hC') (Nat.le_trans hC Bk2.size) (Nat.le_trans hC' Bk2.size) HN.out HM.out hl HBD.out).mono ?_
    rintro e k3 ⟨rfl, hb⟩
    have Bk3 : Below W0.heap.size W0 k3 := Bk2.trans (hb.mono Bk2.size)
    clear hb
    go_wp2
    refine hK.out _ _ (Bk3) ?_
    clear hK K
    refine alH fun K hK => ?_
    go_wp2
    refine hK.out _ _ (Bk3) ?_
    clear hK K
    refine alH fun K hK => ?_
    go_wp2
    refine hK.out _ _ (Bk3) ?_
    clear hK K
    refine chainH_nil ?_
    have HB3 := hide (HB0.out.trans (Bk3.mono HB0.out.size))
    clear Bk1 Bk2 Bk3
    go_wp2
    go_ret
    exact ⟨ret_bool HS.out.symm, HB3.out⟩
  · have e1 : eqA a.num a.base a.echo a.stamp b.num b.base b.echo b.stamp = false := by
      rw [Bool.eq_false_iff]; intro h; exact hq ((eqA_iff _ _ _ _ _ _ _ _).1 h)
    have HS : Hid (decide (a = b) = false) := by unfold Hid; rw [decide_eq_false_iff_not, Fm.same]; exact fun h => hq h.1
    clear hq
    go_enter Tryz.func9, Tryz.ntmps9
    go_upto_region 1 with fail
    rw [HW0.out]
    refine rgH (fun w' => Below W0.heap.size W0 w') [(true, 0), (true, 2), (false, 1), (false, 3), (false, 4), (false, 5), (true, 6), (true, 8), (true, 7), (false, 9), (false, 10), (false, 11), (false, 12)] ((Below.refl _ _).drewN 1) ?_
    refine stH (hy := fun w hS => by obtain ⟨x0, x1, x2, x3, x4, x5, x6, x7, x8, -⟩ := cells9 (HX0.out.later hS); go_simp <;> with_reducible rfl) (h := ?_)
    refine stH (hy := fun w hS => by obtain ⟨x0, x1, x2, x3, x4, x5, x6, x7, x8, -⟩ := cells9 (HY0.out.later hS); go_simp <;> with_reducible rfl) (h := ?_)
    refine alH fun K hK => ?_
    go_wp2_with fail
    refine (frhead_any a A n c W0.drew).mono ?_
    rintro e k1 ⟨rfl, hb⟩
    have Bk1 : Below W0.heap.size W0 k1 := ((Below.refl W0.heap.size W0).drewN 1).trans hb
    clear hb
    go_wp2
    refine hK.out _ _ (Bk1) ?_
    clear hK K
    refine alH fun K hK => ?_
    go_wp2_with fail
    refine (frhead_any b A' m d k1).mono ?_
    rintro e k2 ⟨rfl, hb⟩
    have Bk2 : Below W0.heap.size W0 k2 := Bk1.trans (hb.mono Bk1.size)
    clear hb
    go_wp2
    refine hK.out _ _ (Bk2) ?_
    clear hK K
    refine alH fun K hK => ?_
    go_wp2
    refine hK.out _ _ (Bk2) ?_
    clear hK K
    refine alH fun K hK => ?_
    go_wp2
    refine hK.out _ _ (Bk2) ?_
    clear hK K
    iterate 3 refine skH (h := ?_)
    iterate 2 refine paH (Bk2) (h := ?_)
    refine alH fun K hK => ?_
    go_wp2
    refine hK.out _ _ (Bk2) ?_
    clear hK K
    refine alH fun K hK => ?_
    go_wp2
    refine hK.out _ _ (Bk2) ?_
    clear hK K
    refine chainH_nil ?_
    have HB3 := hide (HB0.out.trans (Bk2.mono HB0.out.size))
    clear Bk1 Bk2
    go_wp2
    go_ret
    exact ⟨ret_bool HS.out.symm, HB3.out⟩
set_option maxHeartbeats 4000000 in
theorem rfrsame_any (C C' : Nat) (te t te' t' : TypeId) (a b : Fm) (A A' : Option Addr) (n m c d : Nat) (w : World) (ha : Sps C te t .i64 w A a.d.ss) (hb : Sps C' te' t' .i64 w A' b.d.ss) (hC : C ≤ w.heap.size) (hC' : C' ≤ w.heap.size) (hn : a.d.ss.length = n) (hm : b.d.ss.length = m) (hl : n ≤ 1000000) (hbd : ∀ s ∈ a.d.ss, s.cs.length ≤ 1000000) :
    Calls Tryz.prog 10 #[.agg #[.int .u64 a.num, .int .u64 a.base, .int .u64 a.echo, .int .u64 a.stamp, .int .i64 a.d.rows, .int .i64 a.d.cols, .int .i64 a.d.row, .int .i64 a.d.col, .slice A n c], .agg #[.int .u64 b.num, .int .u64 b.base, .int .u64 b.echo, .int .u64 b.stamp, .int .i64 b.d.rows, .int .i64 b.d.cols, .int .i64 b.d.row, .int .i64 b.d.col, .slice A' m d]] w (Said (decide (a = b)) w) := by
  obtain ⟨W0, hW0⟩ : ∃ W0, (w.alloc (.cells #[.int .u64 a.num, .int .u64 a.base, .int .u64 a.echo, .int .u64 a.stamp, .int .i64 a.d.rows, .int .i64 a.d.cols, .int .i64 a.d.row, .int .i64 a.d.col, .slice A n c] 34)).alloc (.cells #[.int .u64 b.num, .int .u64 b.base, .int .u64 b.echo, .int .u64 b.stamp, .int .i64 b.d.rows, .int .i64 b.d.cols, .int .i64 b.d.row, .int .i64 b.d.col, .slice A' m d] 34) = W0 := ⟨_, rfl⟩
  have HB0 : Hid (Below w.heap.size w W0) := by unfold Hid; rw [← hW0]; exact below2 w _ _
  have HX0 : Hid (Whole W0 w.heap.size 34 [.int .u64 a.num, .int .u64 a.base, .int .u64 a.echo, .int .u64 a.stamp, .int .i64 a.d.rows, .int .i64 a.d.cols, .int .i64 a.d.row, .int .i64 a.d.col, .slice A n c]) := by unfold Hid; rw [← hW0]; exact (Whole.new w 34 [.int .u64 a.num, .int .u64 a.base, .int .u64 a.echo, .int .u64 a.stamp, .int .i64 a.d.rows, .int .i64 a.d.cols, .int .i64 a.d.row, .int .i64 a.d.col, .slice A n c]).alloc _
  have HY0 : Hid (Whole W0 (w.heap.size + 1) 34 [.int .u64 b.num, .int .u64 b.base, .int .u64 b.echo, .int .u64 b.stamp, .int .i64 b.d.rows, .int .i64 b.d.cols, .int .i64 b.d.row, .int .i64 b.d.col, .slice A' m d]) := by unfold Hid; rw [← hW0]; exact whole_snd w _ 34 [.int .u64 b.num, .int .u64 b.base, .int .u64 b.echo, .int .u64 b.stamp, .int .i64 b.d.rows, .int .i64 b.d.cols, .int .i64 b.d.row, .int .i64 b.d.col, .slice A' m d]
  have HI := hide (ha.below HB0.out hC)
  have HJ := hide (hb.below HB0.out hC')
  have HW0 := hide hW0
  have HN := hide hn
  have HM := hide hm
  have HBD := hide hbd
  replace hC := Nat.le_trans hC HB0.out.size
  replace hC' := Nat.le_trans hC' HB0.out.size
  clear hW0 ha hb hn hm hbd
  by_cases q0 : a.num = b.num
  · have e0 : (a.num == b.num) = true := by simpa using q0
    by_cases q1 : a.base = b.base
    · have e1 : (a.base == b.base) = true := by simpa using q1
      by_cases q2 : a.echo = b.echo
      · have e2 : (a.echo == b.echo) = true := by simpa using q2
        by_cases q3 : a.stamp = b.stamp
        · have e3 : (a.stamp == b.stamp) = true := by simpa using q3
          have HS : Hid (decide (a = b) = decide (a.d = b.d)) := by unfold Hid; rw [Bool.eq_iff_iff, decide_eq_true_iff, decide_eq_true_iff, Fm.same]; exact ⟨fun h => h.2, fun h => ⟨⟨q0, q1, q2, q3⟩, h⟩⟩
          clear q0 q1 q2 q3
          go_enter Tryz.func10, Tryz.ntmps10
          go_upto_region 1 with fail
          rw [HW0.out]
          obtain ⟨x0, x1, x2, x3, x4, x5, x6, x7, x8, lx⟩ := cells9 HX0.out
          obtain ⟨y0, y1, y2, y3, y4, y5, y6, y7, y8, ly⟩ := cells9 HY0.out
          go_wp2_with fail
          refine (rdsame_any C C' te t te' t' a.d b.d A A' n m c d W0 HI.out HJ.out hC hC' HN.out HM.out hl HBD.out).mono ?_
          rintro e k3 ⟨rfl, hb⟩
          have HB3 := hide (HB0.out.trans (hb.mono HB0.out.size))
          clear hb x0 x1 x2 x3 x4 x5 x6 x7 x8 lx y0 y1 y2 y3 y4 y5 y6 y7 y8 ly
          go_wp2
          go_ret
          exact ⟨ret_bool HS.out.symm, HB3.out⟩
        · have e3 : (a.stamp == b.stamp) = false := by simpa using q3
          have HS : Hid (decide (a = b) = false) := by unfold Hid; rw [decide_eq_false_iff_not, Fm.same]; exact fun h => q3 h.1.2.2.2
          clear q0 q1 q2 q3
          go_enter Tryz.func10, Tryz.ntmps10
          go_upto_region 1 with fail
          rw [HW0.out]
          obtain ⟨x0, x1, x2, x3, x4, x5, x6, x7, x8, lx⟩ := cells9 HX0.out
          obtain ⟨y0, y1, y2, y3, y4, y5, y6, y7, y8, ly⟩ := cells9 HY0.out
          go_wp2
          go_ret
          exact ⟨ret_bool HS.out.symm, HB0.out⟩
      · have e2 : (a.echo == b.echo) = false := by simpa using q2
        have HS : Hid (decide (a = b) = false) := by unfold Hid; rw [decide_eq_false_iff_not, Fm.same]; exact fun h => q2 h.1.2.2.1
        clear q0 q1 q2
        go_enter Tryz.func10, Tryz.ntmps10
        go_upto_region 1 with fail
        rw [HW0.out]
        obtain ⟨x0, x1, x2, x3, x4, x5, x6, x7, x8, lx⟩ := cells9 HX0.out
        obtain ⟨y0, y1, y2, y3, y4, y5, y6, y7, y8, ly⟩ := cells9 HY0.out
        go_wp2
        go_ret
        exact ⟨ret_bool HS.out.symm, HB0.out⟩
    · have e1 : (a.base == b.base) = false := by simpa using q1
      have HS : Hid (decide (a = b) = false) := by unfold Hid; rw [decide_eq_false_iff_not, Fm.same]; exact fun h => q1 h.1.2.1
      clear q0 q1
      go_enter Tryz.func10, Tryz.ntmps10
      go_upto_region 1 with fail
      rw [HW0.out]
      obtain ⟨x0, x1, x2, x3, x4, x5, x6, x7, x8, lx⟩ := cells9 HX0.out
      obtain ⟨y0, y1, y2, y3, y4, y5, y6, y7, y8, ly⟩ := cells9 HY0.out
      go_wp2
      go_ret
      exact ⟨ret_bool HS.out.symm, HB0.out⟩
  · have e0 : (a.num == b.num) = false := by simpa using q0
    have HS : Hid (decide (a = b) = false) := by unfold Hid; rw [decide_eq_false_iff_not, Fm.same]; exact fun h => q0 h.1.1
    clear q0
    go_enter Tryz.func10, Tryz.ntmps10
    go_upto_region 1 with fail
    rw [HW0.out]
    obtain ⟨x0, x1, x2, x3, x4, x5, x6, x7, x8, lx⟩ := cells9 HX0.out
    obtain ⟨y0, y1, y2, y3, y4, y5, y6, y7, y8, ly⟩ := cells9 HY0.out
    go_wp2
    go_ret
    exact ⟨ret_bool HS.out.symm, HB0.out⟩
end Go.Proofs.YtcbdokocnjoilaaGreatDoor
