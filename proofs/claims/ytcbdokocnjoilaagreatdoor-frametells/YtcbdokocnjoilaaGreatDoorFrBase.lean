/-
  Contracts: do bytes begin as a frame's; is a frame ordered; its head; a frame of a head and a difference.
-/
import Derived.Test.YtcbdokocnjoilaaGreatDoorFrMem
namespace Go.Proofs.YtcbdokocnjoilaaGreatDoor
set_option maxRecDepth 100000
open Go.ChangeShapes Go.WideShapes Go.ChangeAt Go.RowKit
set_option linter.unusedVariables false

set_option maxHeartbeats 1000000 in
theorem fris_any (A : Option Addr) (n c : Nat) (bs : List Int) (w : World) (h : Ints .u8 w A bs) (hn : bs.length = n) : Calls Tryz.prog 15 #[.slice A n c] w fun e w' => e = .returned (.bool (decide (bs.head? = some 70))) ∧ w = w' := by
  cases bs with
  | nil =>
    subst hn
    go_enter Tryz.func15, Tryz.ntmps15
    go_wp2
    go_ret
    exact ⟨rfl, rfl⟩
  | cons x l =>
    obtain ⟨b, off, rfl, hc, hb⟩ := h.at (i := 0) (by simp)
    rw [Nat.add_zero] at hc
    have hx : (x :: l).getD 0 0 = x := rfl
    rw [hx] at hc
    have hn1 : 0 < n := by rw [← hn]; simp
    have hb0 : decide ((0 : Int) < (n : Int)) = true := by simp; omega
    have HV : Hid (decide ((x :: l).head? = some 70) = (x == 70)) := by unfold Hid; simp [Bool.beq_eq_decide_eq]
    clear h hn hx
    obtain ⟨q, hq⟩ : ∃ q, (x == 70) = q := ⟨_, rfl⟩
    rw [hq] at HV
    go_enter Tryz.func15, Tryz.ntmps15
    go_wp2
    go_ret
    exact ⟨by rw [HV.out]; rfl, rfl⟩
set_option maxHeartbeats 1000000 in
theorem frordered_any (f : Fm) (A : Option Addr) (n c : Nat) (w : World) : Calls Tryz.prog 19 #[.agg #[.int .u64 f.num, .int .u64 f.base, .int .u64 f.echo, .int .u64 f.stamp, .int .i64 f.d.rows, .int .i64 f.d.cols, .int .i64 f.d.row, .int .i64 f.d.col, .slice A n c]] w (Said (decide (f.base < f.num)) w) := by
  obtain ⟨a, b, c1, d1, ⟨e1, e2, e3, e4, ss⟩⟩ := f
  simp only
  obtain ⟨q, hq⟩ : ∃ q, decide (b < a) = q := ⟨_, rfl⟩
  rw [hq]
  go_enter Tryz.func19, Tryz.ntmps19
  go_wp2
  go_ret
  exact ⟨rfl, new1W _ _⟩
set_option maxHeartbeats 2000000 in
theorem frhead_any (f : Fm) (A : Option Addr) (n c : Nat) (w : World) : Calls Tryz.prog 23 #[.agg #[.int .u64 f.num, .int .u64 f.base, .int .u64 f.echo, .int .u64 f.stamp, .int .i64 f.d.rows, .int .i64 f.d.cols, .int .i64 f.d.row, .int .i64 f.d.col, .slice A n c]] w fun e w' => e = .returned (.agg #[.int .u64 f.num, .int .u64 f.base, .int .u64 f.echo, .int .u64 f.stamp]) ∧ Below w.heap.size w w' := by
  obtain ⟨a, b, c1, d1, ⟨e1, e2, e3, e4, ss⟩⟩ := f
  simp only
  obtain ⟨W0, hW0⟩ : ∃ W0, (w.alloc (.cells #[.int .u64 a, .int .u64 b, .int .u64 c1, .int .u64 d1, .int .i64 e1, .int .i64 e2, .int .i64 e3, .int .i64 e4, .slice A n c] 27)).alloc (.cells #[.int .u64 0, .int .u64 0, .int .u64 0, .int .u64 0] 58) = W0 := ⟨_, rfl⟩
  have HB0 : Hid (Below w.heap.size w W0) := by unfold Hid; rw [← hW0]; exact below2 w _ _
  have HX0 : Hid (Whole W0 w.heap.size 27 [.int .u64 a, .int .u64 b, .int .u64 c1, .int .u64 d1, .int .i64 e1, .int .i64 e2, .int .i64 e3, .int .i64 e4, .slice A n c]) := by unfold Hid; rw [← hW0]; exact (Whole.new w 27 [.int .u64 a, .int .u64 b, .int .u64 c1, .int .u64 d1, .int .i64 e1, .int .i64 e2, .int .i64 e3, .int .i64 e4, .slice A n c]).alloc _
  have HR0 : Hid (Whole W0 (w.heap.size + 1) 58 [.int .u64 0, .int .u64 0, .int .u64 0, .int .u64 0]) := by unfold Hid; rw [← hW0]; exact whole_snd w _ 58 [.int .u64 0, .int .u64 0, .int .u64 0, .int .u64 0]
  have HW0 := hide hW0
  clear hW0
  obtain ⟨f0, f1, f2, f3, f4, f5, f6, f7, f8, lf⟩ := cells9 HX0.out
  obtain ⟨r0, r1, r2, r3, rl⟩ := cells4 HR0.out
  have rz := HR0.out.frozen
  go_enter Tryz.func23, Tryz.ntmps23
  go_upto_region 1 with fail
  rw [HW0.out]
  go_wp2
  refine retA4 Tryz.results23 rfl rfl ((((HR0.out.put 0 _).put 1 _).put 2 _).put 3 _) ?_
  have hq : w.heap.size ≤ w.heap.size + 1 := Nat.le_succ _
  exact ⟨rfl, (((HB0.out.setCell (p := ⟨w.heap.size + 1, 0, none⟩) hq _).setCell (p := ⟨w.heap.size + 1, 1, none⟩) hq _).setCell (p := ⟨w.heap.size + 1, 2, none⟩) hq _).setCell (p := ⟨w.heap.size + 1, 3, none⟩) hq _⟩
theorem whole_fif (w : World) (o o2 o3 : Obj) (t : TypeId) (l : List Value) : Whole ((((w.alloc o).alloc o2).alloc o3).alloc (.cells l.toArray t)) (w.heap.size + 1 + 1 + 1) t l := by
  have h := Whole.new (((w.alloc o).alloc o2).alloc o3) t l
  have e : (((w.alloc o).alloc o2).alloc o3).heap.size = w.heap.size + 1 + 1 + 1 := by simp
  rw [e] at h
  exact h
set_option maxHeartbeats 4000000 in
theorem frwith_any (a1 a2 a3 a4 : Int) (d : Df) (A : Option Addr) (n c : Nat) (w : World) : Calls Tryz.prog 43 #[.agg #[.int .u64 a1, .int .u64 a2, .int .u64 a3, .int .u64 a4], .agg #[.int .i64 d.rows, .int .i64 d.cols, .int .i64 d.row, .int .i64 d.col, .slice A n c]] w fun e w' => e = .returned (.agg #[.int .u64 a1, .int .u64 a2, .int .u64 a3, .int .u64 a4, .int .i64 d.rows, .int .i64 d.cols, .int .i64 d.row, .int .i64 d.col, .slice A n c]) ∧ Below w.heap.size w w' := by
  obtain ⟨e1, e2, e3, e4, ss⟩ := d
  simp only
  obtain ⟨W0, hW0⟩ : ∃ W0, ((w.alloc (.cells #[.int .u64 a1, .int .u64 a2, .int .u64 a3, .int .u64 a4] 58)).alloc (.cells #[.int .i64 e1, .int .i64 e2, .int .i64 e3, .int .i64 e4, .slice A n c] 25)).alloc (.cells #[.int .u64 0, .int .u64 0, .int .u64 0, .int .u64 0, .int .i64 0, .int .i64 0, .int .i64 0, .int .i64 0, .slice none 0 0] 27) = W0 := ⟨_, rfl⟩
  have HB0 : Hid (Below w.heap.size w W0) := by unfold Hid; rw [← hW0]; exact three_newW w _ _ _
  have HX0 : Hid (Whole W0 w.heap.size 58 [.int .u64 a1, .int .u64 a2, .int .u64 a3, .int .u64 a4]) := by unfold Hid; rw [← hW0]; exact ((Whole.new w 58 [.int .u64 a1, .int .u64 a2, .int .u64 a3, .int .u64 a4]).alloc _).alloc _
  have HD0 : Hid (Whole W0 (w.heap.size + 1) 25 [.int .i64 e1, .int .i64 e2, .int .i64 e3, .int .i64 e4, .slice A n c]) := by unfold Hid; rw [← hW0]; exact (whole_snd w _ 25 [.int .i64 e1, .int .i64 e2, .int .i64 e3, .int .i64 e4, .slice A n c]).alloc _
  have HR0 : Hid (Whole W0 (w.heap.size + 1 + 1) 27 [.int .u64 0, .int .u64 0, .int .u64 0, .int .u64 0, .int .i64 0, .int .i64 0, .int .i64 0, .int .i64 0, .slice none 0 0]) := by unfold Hid; rw [← hW0]; exact whole_thd w _ _ 27 [.int .u64 0, .int .u64 0, .int .u64 0, .int .u64 0, .int .i64 0, .int .i64 0, .int .i64 0, .int .i64 0, .slice none 0 0]
  have HW0 := hide hW0
  clear hW0
  obtain ⟨x0, x1, x2, x3, xl⟩ := cells4 HX0.out
  go_enter Tryz.func43, Tryz.ntmps43
  go_upto_region 1 with fail
  rw [HW0.out]
  obtain ⟨W1, hW1⟩ : ∃ W1, W0.alloc (.cells #[.int .u64 a1, .int .u64 a2, .int .u64 a3, .int .u64 a4] 56) = W1 := ⟨_, rfl⟩
  have hb1 : Below W0.heap.size W0 W1 := by rw [← hW1]; exact new1W _ _
  have HA1 : Hid (Whole W1 W0.heap.size 56 [.int .u64 a1, .int .u64 a2, .int .u64 a3, .int .u64 a4]) := by unfold Hid; rw [← hW1]; exact Whole.new W0 56 [.int .u64 a1, .int .u64 a2, .int .u64 a3, .int .u64 a4]
  have HD1 := hide (HD0.out.later hb1)
  have HR1 := hide (HR0.out.later hb1)
  have HB1 := hide (HB0.out.trans (hb1.mono HB0.out.size))
  have HW1 := hide hW1
  clear hW1 hb1
  go_upto_region 2 with fail
  rw [HW1.out]
  clear x0 x1 x2 x3 xl
  obtain ⟨x0, x1, x2, x3, xl⟩ := cells4 HA1.out
  obtain ⟨d0, d1, d2, d3, d4, dl⟩ := cells5 HD1.out
  obtain ⟨r0, r1, r2, r3, r4, r5, r6, r7, r8, rl⟩ := cells9 HR1.out
  have rz := HR1.out.frozen
  go_wp2
  refine ret9 Tryz.results43 (.inl rfl) rfl rfl (put9 HR1.out _ _ _ _ _ _ _ _ _) ?_
  exact ⟨rfl, below_put9 HB1.out (by omega) _ _ _ _ _ _ _ _ _⟩
end Go.Proofs.YtcbdokocnjoilaaGreatDoor
