/-
  Contracts and plain mathematics of EOps1, EOps3.
-/
import Derived.Test.YtkijclgbpbhglaaGreatDoorQd25
import Derived.Test.YtkijclgbpbhglaaGreatDoorQd22
import Derived.Test.YtkijclgbpbhglaaGreatDoorQd20
import Derived.Test.YtkijclgbpbhglaaGreatDoorQd23
import Derived.Test.YtkijclgbpbhglaaGreatDoorQd12
namespace Go.Proofs.YtkijclgbpbhglaaGreatDoor
set_option maxRecDepth 100000
set_option linter.unusedVariables false
set_option maxHeartbeats 8000000
section
open Go.ChangeShapes Go.WideShapes Go.ChangeAt Go.RowKit
section
variable {w : World} {b : Bl} {L R C : Nat} {e : Em}
theorem eblank_any (h : Emu w b L R C e) : Calls Tryz.prog 100 #[.pointer (some ⟨b.E, 0, none⟩)] w (Penned (blankP e.pen) w) := by
 have hb := h.later ((Below.refl _ _).alloc (Nat.le_refl _) (.cells #[.int .u8 0, .int .u8 0, .int .u8 0] 65))
 obtain ⟨c0, c1, c2, c3, c4, c5, lE⟩ := hb.six
 have HP := hide (Whole.new w 65 [.int .u8 0, .int .u8 0, .int .u8 0])
 have HB : Hid (Below w.heap.size w (w.alloc (.cells #[.int .u8 0, .int .u8 0, .int .u8 0] 65))) := (Below.refl _ _).alloc (Nat.le_refl _) _
 clear h hb
 go_enter Tryz.func100, Tryz.ntmps100
 go_wp2
 exact ret3 Tryz.results100 (.inl rfl) rfl rfl (Whole.new w 65 [.int .u8 0, .int .u8 0, .int .u8 e.pen.b]) ⟨rfl, (Below.refl _ _).alloc (Nat.le_refl _) _⟩
theorem ord_any (kd r : Int) (A : Option Addr) (n c : Nat) (ns : List Int) (at_ : Int) (w : World) (hi : Ints .i64 w A ns) (hn : ns.length = n) : Calls Tryz.prog 180 #[.agg #[.int .i64 kd, .int .i32 r, .slice A n c], .int .i64 at_] w (Num .i64 (ordN (numP ns at_ 1)) w) := by
 obtain ⟨W0, hW0⟩ := exq (w.alloc (.cells #[.int .i64 kd, .int .i32 r, .slice A n c] 56))
 have HB0 : Hid (Below w.heap.size w W0) := by unfold Hid; rw [← hW0]; exact (Below.refl _ _).alloc (Nat.le_refl _) _
 have HX0 : Hid (Whole W0 w.heap.size 56 [.int .i64 kd, .int .i32 r, .slice A n c]) := by unfold Hid; rw [← hW0]; exact Whole.new _ _ _
 have HW0 := hide hW0; clear hW0
 obtain ⟨x0, x1, x2, lX⟩ := cells3 HX0.out
 have HI := hide (hi.below HB0.out)
 have HN := hide hn; clear hi hn
 go_enter Tryz.func180, Tryz.ntmps180
 go_wp2_with fail
 rw [HW0.out]
 refine (pnum_any kd r at_ 1 A n c ns W0 HI.out HN.out).mono ?_
 rintro x k1 ⟨rfl, hb⟩
 have HB1 := hide (HB0.out.trans (hb.mono HB0.out.size))
 clear hb x0 x1 x2; go_wp2; go_ret
 exact ⟨rfl, HB1.out⟩
theorem part_any (kd r : Int) (A : Option Addr) (n c : Nat) (ns : List Int) (w : World) (hi : Ints .i64 w A ns) (hn : ns.length = n) : Calls Tryz.prog 182 #[.agg #[.int .i64 kd, .int .i32 r, .slice A n c]] w (Num .i64 (numP ns 0 0) w) := by
 obtain ⟨W0, hW0⟩ := exq (w.alloc (.cells #[.int .i64 kd, .int .i32 r, .slice A n c] 56))
 have HB0 : Hid (Below w.heap.size w W0) := by unfold Hid; rw [← hW0]; exact (Below.refl _ _).alloc (Nat.le_refl _) _
 have HX0 : Hid (Whole W0 w.heap.size 56 [.int .i64 kd, .int .i32 r, .slice A n c]) := by unfold Hid; rw [← hW0]; exact Whole.new _ _ _
 have HW0 := hide hW0; clear hW0
 obtain ⟨x0, x1, x2, lX⟩ := cells3 HX0.out
 have HI := hide (hi.below HB0.out)
 have HN := hide hn; clear hi hn
 go_enter Tryz.func182, Tryz.ntmps182
 go_wp2_with fail
 rw [HW0.out]
 refine (pnum_any kd r 0 0 A n c ns W0 HI.out HN.out).mono ?_
 rintro x k1 ⟨rfl, hb⟩
 have HB1 := hide (HB0.out.trans (hb.mono HB0.out.size))
 clear hb x0 x1 x2; go_wp2; go_ret
 exact ⟨rfl, HB1.out⟩
theorem walk_any (h : Emu w b L R C e) (rows cols : Int) (hr : -1000 ≤ rows ∧ rows ≤ 1000) (hc : -1000 ≤ cols ∧ cols ≤ 1000) : Calls Tryz.prog 179 #[.pointer (some ⟨b.E, 0, none⟩), .int .i64 rows, .int .i64 cols] w (DoneE b L R C { e with g := moveG e.g ((e.g.row : Int) + rows) ((e.g.col : Int) + cols) C, wrap := false } w) := by
 have hR1 := h.ok.g.r1
 have hR2 := h.ok.g.r2
 have hC1 := h.ok.g.c1
 have hC2 := h.ok.g.c2
 have hrow := h.ok.g.row
 have hcol := h.ok.g.col
 obtain ⟨c0, c1, c2, c3, c4, c5, lE⟩ := h.six
 have HE := hide h; clear h
 go_enter Tryz.func179, Tryz.ntmps179
 go_wp2_with fail
 refine (step_any HE.out rows cols hr hc).mono ?_
 rintro x k1 ⟨rfl, L1, ha⟩
 have HA := hide ha; clear ha c0 c1 c2 c3 c4 c5 lE
 obtain ⟨c0, c1, c2, c3, c4, c5, lE⟩ := HA.out.emu.six
 have hz := HA.out.emu.top.frozen
 go_wp2
 refine bodyPost_end (v := .tuple #[]) (by simp [results, Tryz.results179]) rfl ⟨rfl, _, HA.out.trans (HA.out.emu.wrap false)⟩
theorem eup_any (h : Emu w b L R C e) (kd r : Int) (A : Option Addr) (n c : Nat) (ns : List Int) (hi : Ints .i64 w A ns) (hn : ns.length = n) : Calls Tryz.prog 149 #[.pointer (some ⟨b.E, 0, none⟩), .agg #[.int .i64 kd, .int .i32 r, .slice A n c]] w (DoneE b L R C (moveE e C ((e.g.row : Int) - oneN (nAt ns 0 1)) (e.g.col : Int)) w) := by
 obtain ⟨W0, hW0⟩ := exq (w.alloc (.cells #[.int .i64 kd, .int .i32 r, .slice A n c] 56))
 have HB0 : Hid (Below w.heap.size w W0) := by unfold Hid; rw [← hW0]; exact (Below.refl _ _).alloc (Nat.le_refl _) _
 have HX0 : Hid (Whole W0 w.heap.size 56 [.int .i64 kd, .int .i32 r, .slice A n c]) := by unfold Hid; rw [← hW0]; exact Whole.new _ _ _
 have HW0 := hide hW0; clear hW0
 obtain ⟨x0, x1, x2, lX⟩ := cells3 HX0.out
 have HI := hide (hi.below HB0.out)
 have HN := hide hn
 have HE := hide (h.later HB0.out)
 have HM := hide (move_up h.ok.g (nAt ns 0 1))
 obtain ⟨o, ho⟩ := exq (ordN (numP ns 0 1))
 have hor := ordN_range (numP ns 0 1)
 rw [ho] at hor
 have HO : Hid (o = ordN (nAt ns 0 1)) := by unfold Hid; rw [← ho]; exact congrArg ordN (numP_nAt ns 0 1)
 have HQ := hide ho; clear hi hn h ho
 go_enter Tryz.func149, Tryz.ntmps149
 go_wp2_with fail
 rw [HW0.out]
 refine (ord_any kd r A n c ns 0 W0 HI.out HN.out).mono ?_
 rintro x k1 ⟨rfl, hb⟩
 rw [HQ.out]
 have HB1 := hide hb; clear hb x0 x1 x2; go_wp2_with fail
 refine (walk_any (HE.out.later HB1.out) (-o) 0 (by omega) (by omega)).mono ?_
 rintro x k2 ⟨rfl, L1, ha⟩
 rw [HO.out, HM.out] at ha
 have HA := hide (At.first HB0.out (At.first HB1.out ha))
 clear ha; go_wp2
 refine bodyPost_end (v := .tuple #[]) (by simp [results, Tryz.results149]) rfl ⟨rfl, _, HA.out⟩
theorem edown_any (h : Emu w b L R C e) (kd r : Int) (A : Option Addr) (n c : Nat) (ns : List Int) (hi : Ints .i64 w A ns) (hn : ns.length = n) : Calls Tryz.prog 150 #[.pointer (some ⟨b.E, 0, none⟩), .agg #[.int .i64 kd, .int .i32 r, .slice A n c]] w (DoneE b L R C (moveE e C ((e.g.row : Int) + oneN (nAt ns 0 1)) (e.g.col : Int)) w) := by
 obtain ⟨W0, hW0⟩ := exq (w.alloc (.cells #[.int .i64 kd, .int .i32 r, .slice A n c] 56))
 have HB0 : Hid (Below w.heap.size w W0) := by unfold Hid; rw [← hW0]; exact (Below.refl _ _).alloc (Nat.le_refl _) _
 have HX0 : Hid (Whole W0 w.heap.size 56 [.int .i64 kd, .int .i32 r, .slice A n c]) := by unfold Hid; rw [← hW0]; exact Whole.new _ _ _
 have HW0 := hide hW0; clear hW0
 obtain ⟨x0, x1, x2, lX⟩ := cells3 HX0.out
 have HI := hide (hi.below HB0.out)
 have HN := hide hn
 have HE := hide (h.later HB0.out)
 have HM := hide (move_dn h.ok.g (nAt ns 0 1))
 obtain ⟨o, ho⟩ := exq (ordN (numP ns 0 1))
 have hor := ordN_range (numP ns 0 1)
 rw [ho] at hor
 have HO : Hid (o = ordN (nAt ns 0 1)) := by unfold Hid; rw [← ho]; exact congrArg ordN (numP_nAt ns 0 1)
 have HQ := hide ho; clear hi hn h ho
 go_enter Tryz.func150, Tryz.ntmps150
 go_wp2_with fail
 rw [HW0.out]
 refine (ord_any kd r A n c ns 0 W0 HI.out HN.out).mono ?_
 rintro x k1 ⟨rfl, hb⟩
 rw [HQ.out]
 have HB1 := hide hb; clear hb x0 x1 x2; go_wp2_with fail
 refine (walk_any (HE.out.later HB1.out) o 0 (by omega) (by omega)).mono ?_
 rintro x k2 ⟨rfl, L1, ha⟩
 rw [HO.out, HM.out] at ha
 have HA := hide (At.first HB0.out (At.first HB1.out ha))
 clear ha; go_wp2
 refine bodyPost_end (v := .tuple #[]) (by simp [results, Tryz.results150]) rfl ⟨rfl, _, HA.out⟩
theorem eright_any (h : Emu w b L R C e) (kd r : Int) (A : Option Addr) (n c : Nat) (ns : List Int) (hi : Ints .i64 w A ns) (hn : ns.length = n) : Calls Tryz.prog 151 #[.pointer (some ⟨b.E, 0, none⟩), .agg #[.int .i64 kd, .int .i32 r, .slice A n c]] w (DoneE b L R C (moveE e C (e.g.row : Int) ((e.g.col : Int) + oneN (nAt ns 0 1))) w) := by
 obtain ⟨W0, hW0⟩ := exq (w.alloc (.cells #[.int .i64 kd, .int .i32 r, .slice A n c] 56))
 have HB0 : Hid (Below w.heap.size w W0) := by unfold Hid; rw [← hW0]; exact (Below.refl _ _).alloc (Nat.le_refl _) _
 have HX0 : Hid (Whole W0 w.heap.size 56 [.int .i64 kd, .int .i32 r, .slice A n c]) := by unfold Hid; rw [← hW0]; exact Whole.new _ _ _
 have HW0 := hide hW0; clear hW0
 obtain ⟨x0, x1, x2, lX⟩ := cells3 HX0.out
 have HI := hide (hi.below HB0.out)
 have HN := hide hn
 have HE := hide (h.later HB0.out)
 have HM := hide (move_rt h.ok.g (nAt ns 0 1))
 obtain ⟨o, ho⟩ := exq (ordN (numP ns 0 1))
 have hor := ordN_range (numP ns 0 1)
 rw [ho] at hor
 have HO : Hid (o = ordN (nAt ns 0 1)) := by unfold Hid; rw [← ho]; exact congrArg ordN (numP_nAt ns 0 1)
 have HQ := hide ho; clear hi hn h ho
 go_enter Tryz.func151, Tryz.ntmps151
 go_wp2_with fail
 rw [HW0.out]
 refine (ord_any kd r A n c ns 0 W0 HI.out HN.out).mono ?_
 rintro x k1 ⟨rfl, hb⟩
 rw [HQ.out]
 have HB1 := hide hb; clear hb x0 x1 x2; go_wp2_with fail
 refine (walk_any (HE.out.later HB1.out) 0 o (by omega) (by omega)).mono ?_
 rintro x k2 ⟨rfl, L1, ha⟩
 rw [HO.out, HM.out] at ha
 have HA := hide (At.first HB0.out (At.first HB1.out ha))
 clear ha; go_wp2
 refine bodyPost_end (v := .tuple #[]) (by simp [results, Tryz.results151]) rfl ⟨rfl, _, HA.out⟩
theorem eleft_any (h : Emu w b L R C e) (kd r : Int) (A : Option Addr) (n c : Nat) (ns : List Int) (hi : Ints .i64 w A ns) (hn : ns.length = n) : Calls Tryz.prog 152 #[.pointer (some ⟨b.E, 0, none⟩), .agg #[.int .i64 kd, .int .i32 r, .slice A n c]] w (DoneE b L R C (moveE e C (e.g.row : Int) ((e.g.col : Int) - oneN (nAt ns 0 1))) w) := by
 obtain ⟨W0, hW0⟩ := exq (w.alloc (.cells #[.int .i64 kd, .int .i32 r, .slice A n c] 56))
 have HB0 : Hid (Below w.heap.size w W0) := by unfold Hid; rw [← hW0]; exact (Below.refl _ _).alloc (Nat.le_refl _) _
 have HX0 : Hid (Whole W0 w.heap.size 56 [.int .i64 kd, .int .i32 r, .slice A n c]) := by unfold Hid; rw [← hW0]; exact Whole.new _ _ _
 have HW0 := hide hW0; clear hW0
 obtain ⟨x0, x1, x2, lX⟩ := cells3 HX0.out
 have HI := hide (hi.below HB0.out)
 have HN := hide hn
 have HE := hide (h.later HB0.out)
 have HM := hide (move_lf h.ok.g (nAt ns 0 1))
 obtain ⟨o, ho⟩ := exq (ordN (numP ns 0 1))
 have hor := ordN_range (numP ns 0 1)
 rw [ho] at hor
 have HO : Hid (o = ordN (nAt ns 0 1)) := by unfold Hid; rw [← ho]; exact congrArg ordN (numP_nAt ns 0 1)
 have HQ := hide ho; clear hi hn h ho
 go_enter Tryz.func152, Tryz.ntmps152
 go_wp2_with fail
 rw [HW0.out]
 refine (ord_any kd r A n c ns 0 W0 HI.out HN.out).mono ?_
 rintro x k1 ⟨rfl, hb⟩
 rw [HQ.out]
 have HB1 := hide hb; clear hb x0 x1 x2; go_wp2_with fail
 refine (walk_any (HE.out.later HB1.out) 0 (-o) (by omega) (by omega)).mono ?_
 rintro x k2 ⟨rfl, L1, ha⟩
 rw [HO.out, HM.out] at ha
 have HA := hide (At.first HB0.out (At.first HB1.out ha))
 clear ha; go_wp2
 refine bodyPost_end (v := .tuple #[]) (by simp [results, Tryz.results152]) rfl ⟨rfl, _, HA.out⟩
theorem eplace_any (h : Emu w b L R C e) (kd r : Int) (A : Option Addr) (n c : Nat) (ns : List Int) (hi : Ints .i64 w A ns) (hn : ns.length = n) : Calls Tryz.prog 153 #[.pointer (some ⟨b.E, 0, none⟩), .agg #[.int .i64 kd, .int .i32 r, .slice A n c]] w (DoneE b L R C (moveE e C (oneN (nAt ns 0 1) - 1) (oneN (nAt ns 1 1) - 1)) w) := by
 have hR1 := h.ok.g.r1
 have hR2 := h.ok.g.r2
 have hC1 := h.ok.g.c1
 have hC2 := h.ok.g.c2
 obtain ⟨W0, hW0⟩ := exq (w.alloc (.cells #[.int .i64 kd, .int .i32 r, .slice A n c] 56))
 have HB0 : Hid (Below w.heap.size w W0) := by unfold Hid; rw [← hW0]; exact (Below.refl _ _).alloc (Nat.le_refl _) _
 have HX0 : Hid (Whole W0 w.heap.size 56 [.int .i64 kd, .int .i32 r, .slice A n c]) := by unfold Hid; rw [← hW0]; exact Whole.new _ _ _
 have HW0 := hide hW0; clear hW0
 obtain ⟨x0, x1, x2, lX⟩ := cells3 HX0.out
 have HI := hide (hi.below HB0.out)
 have HN := hide hn
 have HE := hide (h.later HB0.out)
 have HM := hide (move_at h.ok.g (nAt ns 0 1) (nAt ns 1 1))
 obtain ⟨o, ho⟩ := exq (ordN (numP ns 0 1))
 have hor := ordN_range (numP ns 0 1)
 rw [ho] at hor
 have HO : Hid (o = ordN (nAt ns 0 1)) := by unfold Hid; rw [← ho]; exact congrArg ordN (numP_nAt ns 0 1)
 have HQ := hide ho
 obtain ⟨o2, ho2⟩ : ∃ o, ordN (numP ns 1 1) = o := ⟨_, rfl⟩
 have hor2 := ordN_range (numP ns 1 1)
 rw [ho2] at hor2
 have HO2 : Hid (o2 = ordN (nAt ns 1 1)) := by unfold Hid; rw [← ho2]; exact congrArg ordN (numP_nAt ns 1 1)
 have HQ2 := hide ho2; clear hi hn h ho ho2
 go_enter Tryz.func153, Tryz.ntmps153
 go_wp2; rw [HW0.out]
 refine rgL (fun w' => Below W0.heap.size W0 w') 11 [(0, 0), (0, 1), (0, 2), (0, 3), (0, 4), (0, 5), (0, 8), (1, 6), (0, 7), (1, 9), (1, 10), (3, 11)] bd1 ?_
 iterate 4 refine stL (h := ?_)
 refine stL (hy := fun w hS => by obtain ⟨y0, y1, y2, -⟩ := cells3 (HX0.out.later hS); obtain ⟨c0, c1, c2, c3, c4, c5, -⟩ := (HE.out.later hS).six; go_simp <;> with_reducible rfl) (h := ?_)
 refine stL (hy := fun w hS => by obtain ⟨y0, y1, y2, -⟩ := cells3 (HX0.out.later hS); obtain ⟨c0, c1, c2, c3, c4, c5, -⟩ := (HE.out.later hS).six; go_simp <;> with_reducible rfl) (h := ?_)
 refine stL (hy := fun w hS => by obtain ⟨y0, y1, y2, -⟩ := cells3 (HX0.out.later hS); obtain ⟨c0, c1, c2, c3, c4, c5, -⟩ := (HE.out.later hS).six; go_simp <;> with_reducible rfl) (h := ?_)
 refine alL fun K hK => ?_
 go_wp2_with fail
 refine (ord_any kd r A n c ns 0 _ (HI.out.drewN 1) HN.out).mono ?_
 rintro x k1 ⟨rfl, hb⟩
 rw [HQ.out]
 have B1 : Below W0.heap.size W0 k1 := bd1.trans hb
 clear hb; go_wp2
 refine hK.out _ _ (B1) ?_
 clear hK K
 refine stL (h := ?_)
 refine alL fun K hK => ?_
 go_wp2_with fail
 refine (ord_any kd r A n c ns 1 _ (HI.out.below B1) HN.out).mono ?_
 rintro x k2 ⟨rfl, hb⟩
 rw [HQ2.out]
 have B2 : Below W0.heap.size W0 k2 := B1.trans (hb.mono B1.size)
 clear hb; go_wp2
 refine hK.out _ _ (B2) ?_
 clear hK K
 refine alL fun K hK => ?_
 go_wp2
 refine hK.out _ _ (B2) ?_
 clear hK K
 refine laL fun K hK => ?_
 go_wp2_with fail
 refine (move_any (HE.out.later B2).grd hR1 hR2 hC1 hC2 (o - 1) (o2 - 1)).mono ?_
 rintro x k3 ⟨rfl, hg, hon⟩
 have HA := hide (At.first HB0.out (At.first B2 ((HE.out.later B2).trn0 hg (Trn.of_onlyG hon) (HE.out.ok.g.move _ _))))
 rw [HO.out, HO2.out, HM.out] at HA
 clear hg hon B1 B2; go_wp2
 refine hK.out _ _ ?_
 clear hK K
 refine chainL_nil ?_
 clear x0 x1 x2 lX
 obtain ⟨c0, c1, c2, c3, c4, c5, lE⟩ := HA.out.emu.six
 have hz := HA.out.emu.top.frozen
 go_wp2
 refine bodyPost_end (v := .tuple #[]) (by simp [results, Tryz.results153]) rfl ⟨rfl, _, HA.out.trans (HA.out.emu.wrap false)⟩
theorem addmark_any (h : Emu w b L R C e) (r : Int) (hr : R32 r) : Calls Tryz.prog 95 #[.pointer (some ⟨b.E, 0, none⟩), .int .i32 r] w (DoneE b L R C { e with g := markG e.g (e.g.row : Int) (if e.wrap = true then (e.g.col : Int) else (e.g.col : Int) - 1) r } w) := by
 have hR1 := h.ok.g.r1
 have hR2 := h.ok.g.r2
 have hC1 := h.ok.g.c1
 have hC2 := h.ok.g.c2
 have hrow := h.ok.g.row
 have hcol := h.ok.g.col
 obtain ⟨c0, c1, c2, c3, c4, c5, lE⟩ := h.six
 have HE := hide h; have HR := hide hr; clear h
 cases hw : e.wrap
 ·rw [hw] at c5
  have HW := hide hw; clear hw
  go_enter Tryz.func95, Tryz.ntmps95
  go_wp2_with fail
  refine (col_any HE.out.grd).mono ?_
  rintro x k1 ⟨rfl, rfl⟩
  go_wp2_with fail
  refine (smark_any HE.out ((e.g.col : Int) - 1) r HR.out).mono ?_
  rintro x k1 ⟨rfl, L1, ha⟩
  have HA := hide ha; clear ha c0 c1 c2 c3 c4 c5; go_wp2
  refine bodyPost_end (v := .tuple #[]) (by simp [results, Tryz.results95]) rfl ⟨rfl, _, HA.out.eq (by simp [HW.out])⟩
 ·rw [hw] at c5
  have HW := hide hw; clear hw
  go_enter Tryz.func95, Tryz.ntmps95
  go_wp2_with fail
  refine (col_any HE.out.grd).mono ?_
  rintro x k1 ⟨rfl, rfl⟩
  go_wp2_with fail
  refine (smark_any HE.out (e.g.col : Int) r HR.out).mono ?_
  rintro x k1 ⟨rfl, L1, ha⟩
  have HA := hide ha; clear ha c0 c1 c2 c3 c4 c5; go_wp2
  refine bodyPost_end (v := .tuple #[]) (by simp [results, Tryz.results95]) rfl ⟨rfl, _, HA.out.eq (by simp [HW.out])⟩
theorem control_any (h : Emu w b L R C e) (r : Int) : Calls Tryz.prog 51 #[.pointer (some ⟨b.E, 0, none⟩), .int .i32 r] w (DoneE b L R C (doE e C ⟨2, r, []⟩) w) := by
 have hR1 := h.ok.g.r1
 have hR2 := h.ok.g.r2
 have hC1 := h.ok.g.c1
 have hC2 := h.ok.g.c2
 have hrow := h.ok.g.row
 have hcol := h.ok.g.col
 obtain ⟨c0, c1, c2, c3, c4, c5, lE⟩ := h.six
 have HE := hide h; clear h
 by_cases h1 : r = 13
 ·subst h1
  go_enter Tryz.func51, Tryz.ntmps51
  go_wp2_with fail
  refine (tocol_any HE.out 0).mono ?_
  rintro x k1 ⟨rfl, L1, ha⟩
  have HA := hide ha; clear ha; clear c0 c1 c2 c3 c4 c5 lE
  obtain ⟨c0, c1, c2, c3, c4, c5, lE⟩ := HA.out.emu.six
  have hz := HA.out.emu.top.frozen
  go_wp2
  refine bodyPost_end (v := .tuple #[]) (by simp [results, Tryz.results51]) rfl ⟨rfl, _, (HA.out.trans (HA.out.emu.wrap false)).eq ?_⟩
  rfl
 ·have q1 : (r == 13) = false := by simp [h1]
  by_cases h2 : r = 10
  ·subst h2
   go_enter Tryz.func51, Tryz.ntmps51
   go_wp2
   refine rgL (fun w' => Below w.heap.size w w') 5 [(0, 0), (0, 3), (0, 1), (0, 2), (1, 4), (3, 5)] bd1 ?_
   iterate 4 refine stL (h := ?_)
   refine alL fun K hK => ?_
   go_wp2_with fail
   refine (eblank_any (HE.out.later bd1)).mono ?_
   rintro x k1 ⟨rfl, hb⟩
   have B1 : Below w.heap.size w k1 := bd1.trans hb
   clear hb; go_wp2
   refine hK.out _ _ (B1) ?_
   clear hK K
   refine laL fun K hK => ?_
   go_wp2_with fail
   refine (sfeed_any (HE.out.later B1) (blankP e.pen)).mono ?_
   rintro x k2 ⟨rfl, L1, ha⟩
   have HA := hide (At.first B1 ha)
   clear ha B1; go_wp2
   refine hK.out _ _ ?_
   clear hK K
   refine chainL_nil ?_
   clear c0 c1 c2 c3 c4 c5 lE
   obtain ⟨c0, c1, c2, c3, c4, c5, lE⟩ := HA.out.emu.six
   have hz := HA.out.emu.top.frozen
   go_wp2
   refine bodyPost_end (v := .tuple #[]) (by simp [results, Tryz.results51]) rfl ⟨rfl, _, (HA.out.trans (HA.out.emu.wrap false)).eq ?_⟩
   rfl
  ·have q2 : (r == 10) = false := by simp [h2]
   by_cases h3 : r = 8
   ·subst h3
    have HM : Hid (moveG e.g ((e.g.row : Int) + 0) ((e.g.col : Int) + -1) C = moveG e.g (e.g.row : Int) ((e.g.col : Int) - 1) C) := by unfold Hid; rw [Int.add_zero]; rfl
    go_enter Tryz.func51, Tryz.ntmps51
    go_wp2_with fail
    refine (step_any HE.out 0 (-1) (by omega) (by omega)).mono ?_
    rintro x k1 ⟨rfl, L1, ha⟩
    rw [HM.out] at ha
    have HA := hide ha; clear ha; clear c0 c1 c2 c3 c4 c5 lE
    obtain ⟨c0, c1, c2, c3, c4, c5, lE⟩ := HA.out.emu.six
    have hz := HA.out.emu.top.frozen
    go_wp2
    refine bodyPost_end (v := .tuple #[]) (by simp [results, Tryz.results51]) rfl ⟨rfl, _, (HA.out.trans (HA.out.emu.wrap false)).eq ?_⟩
    rfl
   ·have q3 : (r == 8) = false := by simp [h3]
    have HD : Hid (doE e C ⟨2, r, []⟩ = e) := by unfold Hid doE; simp [h1, h2, h3]
    clear c0 c1 c2 c3 c4 c5
    go_enter Tryz.func51, Tryz.ntmps51
    go_wp2
    exact bodyPost_ret (v := .tuple #[]) (by simp [results, Tryz.results51]) rfl ⟨rfl, _, by rw [HD.out]; exact At.refl HE.out⟩
end
def mzE (v : Int) : Int := if v = -1 then 0 else v
def numTo (ns : List Int) (k : Nat) : List Int := (ns.take k).map mzE ++ List.replicate (ns.length - k) 0
theorem numTo_0 (ns : List Int) : numTo ns 0 = List.replicate ns.length 0 := by simp [numTo]
theorem numTo_all (ns : List Int) : numTo ns ns.length = ns.map mzE := by simp [numTo]
theorem numTo_len (ns : List Int) (k : Nat) (h : k ≤ ns.length) : (numTo ns k).length = ns.length := by unfold numTo; rw [List.length_append, List.length_map, List.length_take, List.length_replicate]; omega
theorem numTo_next (ns : List Int) (k : Nat) (h : k < ns.length) : (numTo ns k).set k (mzE (ns.getD k 0)) = numTo ns (k + 1) := by
 have h1 : ((ns.take k).map mzE).length = k := by rw [List.length_map, List.length_take]; omega
 unfold numTo
 rw [List.set_append_right _ _ (by omega), h1, Nat.sub_self, take_snoc ns k (ns.getD k 0) h rfl, List.map_append, List.append_assoc]
 congr 1
 rw [show ns.length - k = (ns.length - (k + 1)) + 1 by omega]
 rfl
theorem num_mz (ns : List Int) (k : Nat) (h : k < ns.length) : numP ns (k : Int) 0 = mzE (ns.getD k 0) := by
 rw [numP_nAt]
 unfold nAt mzE
 by_cases h1 : ns.getD k 0 = -1
 ·rw [if_pos (.inr h1), if_pos h1]
 ·rw [if_neg (by omega), if_neg h1]
theorem zeros_i (n : Nat) : (madeCells #[Value.int .i64 0] n).toList = (List.replicate n (0 : Int)).map (Value.int .i64) := by
 apply List.ext_getElem?
 intro j
 by_cases hj : j < n
 ·simp only [madeCells, Array.toList_map, List.getElem?_map, Array.toList_range, List.getElem?_range hj, Option.map_some, List.getElem?_replicate, if_pos hj]
  simp [Nat.mod_one]
 ·rw [List.getElem?_eq_none (by rw [Array.length_toList, size_madeCells]; omega), List.getElem?_eq_none (by simp; omega)]
theorem wpList_makeI {ops : Array Oper} {rest : List Oper} {o : Oper} {a : Act} {w : World} {Q : Exit → Act → World → Prop} (hg : o.guard = none) (x y : Operand) (hop : o.op = .makeSlice 33 x y)
  (n : Nat) (hx : a.eval x = .int .i64 n) (hy : a.eval y = .int .i64 n) (hn : n ≤ 1000000)
  (h : ∀ w', Whole w' w.heap.size 3 ((List.replicate n (0 : Int)).map (Value.int .i64)) → Below w.heap.size w w' → wpList Tryz.prog ops Q rest (a.put o.dst (.slice (some ⟨w.heap.size, 0, none⟩) n n)) w') : wpList Tryz.prog ops Q (o :: rest) a w := by
 obtain ⟨i0, hi, hz0, hz1, hz2⟩ := info_parts info3
 have hb : 8 * n ≤ 8 * 1000000 := Nat.mul_le_mul (Nat.le_refl _) hn
 refine wpList_make_full w hg x y 33 hop w.heap.size 3 i0 _ 1 Tryz.underlying33 hi hz0 hz1 .i64 .i64 n n n hx hy rfl rfl (by rw [hz2]; omega) (by unfold maxLen; omega) (Nat.le_refl _) ?_
 intro w' ho hgr
 have hw := whole_owned1 ho
 rw [show (Value.int .i64 0).cells = #[Value.int .i64 0] from rfl, Nat.mul_one, zeros_i] at hw
 exact h w' hw ⟨hgr.os, hgr.tape, hgr.output, hgr.size, fun i hi => hgr.block i hi (by simp)⟩
theorem Whole.ints {w : World} {q : Nat} {zs : List Int} {k : IntKind} {t : TypeId} (h : Whole w q t (zs.map (Value.int k))) : Ints k w (some ⟨q, 0, none⟩) zs := by
 refine .inr ⟨q, 0, rfl, fun i hi => ?_⟩
 rw [h.cell (0 + i), List.getElem?_map]
 simp [List.getD_eq_getElem?_getD, List.getElem?_eq_getElem hi]
theorem right_ok {p : Pn} (h : rightN p = true) : Pn.ok p := by
 unfold rightN at h
 simp at h
 exact ⟨by omega, by omega, by omega⟩
section
variable {w : World} {b : Bl} {L R C : Nat} {e : Em}
theorem eturn_any (h : Emu w b L R C e) (kd r : Int) (A : Option Addr) (n c : Nat) (ns : List Int) (hi : Ints .i64 w A ns) (hn : ns.length = n) (hl : n ≤ 1000000) : Calls Tryz.prog 156 #[.pointer (some ⟨b.E, 0, none⟩), .agg #[.int .i64 kd, .int .i32 r, .slice A n c]] w (DoneE b L R C { e with pen := turnN e.pen (ns.map fun v => if v = -1 then 0 else v) } w) := by
 obtain ⟨W0, hW0⟩ := exq (w.alloc (.cells #[.int .i64 kd, .int .i32 r, .slice A n c] 56))
 have HB0 : Hid (Below w.heap.size w W0) := by unfold Hid; rw [← hW0]; exact (Below.refl _ _).alloc (Nat.le_refl _) _
 have HX0 : Hid (Whole W0 w.heap.size 56 [.int .i64 kd, .int .i32 r, .slice A n c]) := by unfold Hid; rw [← hW0]; exact Whole.new _ _ _
 have HW0 := hide hW0; clear hW0
 obtain ⟨x0, x1, x2, lX⟩ := cells3 HX0.out
 have HE := hide (h.later HB0.out)
 have HI := hide (hi.below HB0.out)
 have HN := hide hn
 obtain ⟨⟨f0, g0, b0⟩, hp0⟩ : ∃ P, e.pen = P := ⟨_, rfl⟩
 have hpr := h.ok.pen
 have HPR := hide hpr
 rw [hp0] at hpr
 have HPK := hide (right_ok hpr)
 obtain ⟨⟨F, G, Bk⟩, hQ⟩ : ∃ Q, turnN ⟨f0, g0, b0⟩ (ns.map mzE) = Q := ⟨_, rfl⟩
 have HQ := hide hQ
 have HR : Hid (rightN ⟨F, G, Bk⟩ = true) := by unfold Hid; rw [← hQ]; exact turnN_right _ _ hpr
 have HP0 := hide hp0; clear hi hn h hpr hQ hp0
 go_enter Tryz.func156, Tryz.ntmps156
 go_wp2_with (at_make; refine stopw ?_)
 unfold Hid; rw [HW0.out]
 refine wpList_makeI rfl _ _ rfl n rfl rfl (by omega) ?_
 intro k1 hw1 hb1
 obtain ⟨q, hq⟩ := exq (W0.heap.size)
 rw [hq] at hw1
 have HW1 : Hid (Whole k1 q 3 ((numTo ns 0).map (Value.int .i64))) := by unfold Hid; rw [numTo_0, HN.out]; exact hw1
 have HB1 : Hid (Below W0.heap.size W0 k1) := hb1
 have HQ0 := hide hq; clear hw1 hb1; go_wp2
 try rw [HQ0.out]
 clear hq x0 x1 x2 lX
 go_loopw [5, 12] (fun _ i wr => ∃ k : Nat, k ≤ n ∧ i = .int .i64 k ∧ Whole wr q 3 ((numTo ns k).map (Value.int .i64)) ∧ Below W0.heap.size W0 wr) (fun _ i _ => n - (intOf i).toNat)
 case atStart => exact ⟨0, Nat.zero_le _, rfl, HW1.out, HB1.out⟩
 case round =>
  obtain ⟨k, hk, rfl, hwk, hbk⟩ := hrel
  have HWK := hide hwk; have HBK := hide hbk; clear hwk hbk
  obtain ⟨x0, x1, x2, lX⟩ := cells3 (HX0.out.later HBK.out)
  by_cases hlt : k < n
  ·have HV := hide (num_mz ns k (by rw [HN.out]; exact hlt))
   have HNX := hide (numTo_next ns k (by rw [HN.out]; exact hlt))
   obtain ⟨v, hv⟩ := exq (mzE (ns.getD k 0))
   rw [hv] at HV HNX
   clear hv; go_wp2_with fail
   refine (pnum_any kd r (k : Int) 0 A n c ns wr (HI.out.below HBK.out) HN.out).mono ?_
   rintro x k2 ⟨rfl, hb⟩
   rw [HV.out]
   have HW2 := hide (HWK.out.later hb)
   have HB2 := hide (HBK.out.trans (hb.mono HBK.out.size))
   clear hb
   have hz := HW2.out.frozen
   have lq := HW2.out.lt
   obtain ⟨y0, hy0⟩ : ∃ x, k2.cell? ⟨q, k, none⟩ = some x := ⟨_, by rw [HW2.out.cell, List.getElem?_eq_getElem (by rw [List.length_map, numTo_len _ _ (by rw [HN.out]; exact hk), HN.out]; exact hlt)]⟩
   go_wp2
   go_roundw
   case rel => exact ⟨k + 1, by omega, by go_num, by have := HW2.out.put k (.int .i64 v); rwa [← List.map_set, HNX.out] at this, HB2.out.setCell (by rw [HQ0.out]; exact Nat.le_refl _) _⟩
   case measure => simp [intOf]; omega
  ·obtain rfl : k = n := by omega
   have HZ : Hid (numTo ns k = ns.map mzE) := by unfold Hid; rw [← HN.out]; exact numTo_all ns
   rw [HZ.out] at HWK
   have HE2 := hide (HE.out.later HBK.out)
   obtain ⟨c0, c1, c2, c3, c4, c5, lE⟩ := HE2.out.six
   rw [HP0.out] at c2 c3 c4
   simp only at c2 c3 c4
   have hzE := HE2.out.top.frozen
   have HL : Hid ((ns.map mzE).length = k) := by unfold Hid; rw [List.length_map, HN.out]
   clear HZ x0 x1 x2 lX; go_wp2_with fail
   refine (turn_any f0 g0 b0 HPK.out (some ⟨q, 0, none⟩) k k (ns.map mzE) _ HWK.out.ints HL.out (by omega)).mono ?_
   rintro x k3 ⟨rfl, hb⟩
   rw [HQ.out]
   have HE3 := hide (HE2.out.later hb)
   have HF : Hid (At b w L _ L R C { e with pen := turnN e.pen (ns.map fun v => if v = -1 then 0 else v) }) := At.first HB0.out (At.first (HBK.out.trans (hb.mono HBK.out.size)) ((HE3.out.pens ⟨F, G, Bk⟩ HR.out).eq (by rw [HP0.out]; show _ = { e with pen := turnN ⟨f0, g0, b0⟩ (ns.map mzE) }; rw [HQ.out])))
   clear c0 c1 c2 c3 c4 c5 lE hzE
   obtain ⟨c0, c1, c2, c3, c4, c5, lE⟩ := HE3.out.six
   have hzE := HE3.out.top.frozen
   clear hb; go_wp2
   refine bodyPost_end (v := .tuple #[]) (by simp [results, Tryz.results156]) rfl ⟨rfl, _, HF.out⟩
theorem show_any (h : Emu w b L R C e) (c : Cel) (hc : CelB c) (wd : Int) (w1 : 1 ≤ wd) (w2 : wd ≤ (C : Int)) (g1 : Gd) (hg : readyG e C wd = g1) : Calls Tryz.prog 97 #[.pointer (some ⟨b.E, 0, none⟩), .agg #[.int .i32 c.r, .int .i32 c.m, .int .i32 c.n, .int .u8 c.w, .int .u8 c.p.f, .int .u8 c.p.g, .int .u8 c.p.b], .int .i64 wd] w (DoneE b L R C { e with g := moveG (putG g1 (g1.row : Int) (g1.col : Int) c) ((g1.row : Int) + 0) ((g1.col : Int) + wd) C, wrap := decide (wd = (C : Int) - (g1.col : Int)) } w) := by
 have hR1 := h.ok.g.r1
 have hR2 := h.ok.g.r2
 have hC1 := h.ok.g.c1
 have hC2 := h.ok.g.c2
 have hrow := h.ok.g.row
 have hcol := h.ok.g.col
 obtain ⟨W0, hW0⟩ := exq (w.alloc (.cells #[.int .i32 c.r, .int .i32 c.m, .int .i32 c.n, .int .u8 c.w, .int .u8 c.p.f, .int .u8 c.p.g, .int .u8 c.p.b] 73))
 have HB0 : Hid (Below w.heap.size w W0) := by unfold Hid; rw [← hW0]; exact (Below.refl _ _).alloc (Nat.le_refl _) _
 have HX0 : Hid (Whole W0 w.heap.size 73 [.int .i32 c.r, .int .i32 c.m, .int .i32 c.n, .int .u8 c.w, .int .u8 c.p.f, .int .u8 c.p.g, .int .u8 c.p.b]) := by unfold Hid; rw [← hW0]; exact Whole.new _ _ _
 have HW0 := hide hW0; clear hW0
 have HE := hide (h.later HB0.out)
 have HNE : Hid (w.heap.size ∉ b.l L) := by unfold Hid; intro hx; exact Nat.lt_irrefl _ (h.lt _ hx)
 have HCB := hide hc; have HG := hide hg
 have hp := put_row g1 (g1.row : Int) (g1.col : Int) c
 have HPR : Hid ((putG g1 (g1.row : Int) (g1.col : Int) c).row = g1.row) := hp.1
 have HPC : Hid ((putG g1 (g1.row : Int) (g1.col : Int) c).col = g1.col) := hp.2.1
 have HRY := hide (fun q => ready_is h.ok wd q)
 have HRN := hide (fun q1 q2 => ready_no (e := e) (C := C) wd q1 q2)
 obtain ⟨c0, c1, c2, c3, c4, c5, lE⟩ := (h.later ((Below.refl _ _).alloc (Nat.le_refl _) (.cells #[.int .i32 c.r, .int .i32 c.m, .int .i32 c.n, .int .u8 c.w, .int .u8 c.p.f, .int .u8 c.p.g, .int .u8 c.p.b] 73))).six
 clear h hc hg hp
 cases hw : e.wrap
 ·have HW := hide hw
  rw [hw] at c5
  clear hw
  go_enter Tryz.func97, Tryz.ntmps97
  go_wp2_with fail
  rw [HW0.out]
  refine (room_any HE.out).mono ?_
  rintro x k0 ⟨rfl, hb⟩
  have HEc := hide (HE.out.later hb)
  have HA0 : Hid (At b W0 L k0 L R C e) := (At.refl HE.out).later hb
  clear hb
  by_cases hr : (C : Int) - (e.g.col : Int) < wd
  ·have HG1 : Hid (feedG (moveG e.g (e.g.row : Int) 0 C) C (blankP e.pen) = g1) := by unfold Hid; rw [← HG.out]; exact (HRY.out (.inr hr)).symm
   go_wp2_with fail
   refine (tocol_any HEc.out 0).mono ?_
   rintro x k1 ⟨rfl, L1, ha⟩
   have HA1 := hide (HA0.out.trans ha)
   have HE1 := hide ha.emu; clear ha c0 c1 c2 c3 c4 c5 lE; go_wp2
   refine rgL (fun w' => Below k1.heap.size k1 w') 5 [(0, 0), (0, 3), (0, 1), (0, 2), (1, 4), (3, 5)] bd1 ?_
   iterate 4 refine stL (h := ?_)
   refine alL fun K hK => ?_
   go_wp2_with fail
   refine (eblank_any (HE1.out.later bd1)).mono ?_
   rintro x k2 ⟨rfl, hb⟩
   have B1 : Below k1.heap.size k1 k2 := bd1.trans hb
   clear hb; go_wp2
   refine hK.out _ _ (B1) ?_
   clear hK K
   refine laL fun K hK => ?_
   go_wp2_with fail
   refine (sfeed_any (HE1.out.later B1) (blankP e.pen)).mono ?_
   rintro x k3 ⟨rfl, L2, ha⟩
   have HA2 : Hid (At b W0 L k3 L2 R C { e with g := g1 }) := (HA1.out.trans (At.first B1 ha)).eq (by rw [← HG1.out])
   clear ha B1; go_wp2
   refine hK.out _ _ ?_
   clear hK K
   refine chainL_nil ?_
   have HE2 := hide HA2.out.emu
   have HX2 := hide (HA2.out.ch.whole HX0.out HNE.out)
   obtain ⟨d0, d1, d2, d3, d4, d5, d6, ld⟩ := cells7 HX2.out
   go_wp2
   refine rgL (fun w' => Below k3.heap.size k3 w') 4 [(0, 0), (0, 1), (0, 2), (1, 3), (3, 4)] bd1 ?_
   iterate 3 refine stL (h := ?_)
   refine alL fun K hK => ?_
   go_wp2
   refine hK.out _ _ bd1 ?_
   clear hK K
   refine laL fun K hK => ?_
   go_wp2_with fail
   refine (sput_any (HE2.out.later bd1) c HCB.out).mono ?_
   rintro x y1 ⟨rfl, L9, ha⟩
   have HA3 := hide (HA2.out.trans (At.first bd1 ha))
   clear ha; go_wp2
   refine hK.out _ _ ?_
   clear hK K
   refine chainL_nil ?_
   clear d0 d1 d2 d3 d4 d5 d6 ld
   obtain ⟨c0, c1, c2, c3, c4, c5, lE⟩ := HA3.out.emu.six
   have hz := HA3.out.emu.top.frozen
   go_wp2_with fail
   refine (room_any HA3.out.emu).mono ?_
   rintro x y2 ⟨rfl, hb⟩
   have HA4 := hide (HA3.out.later hb)
   have HQC : Hid ((wd == (C : Int) - (((putG g1 (g1.row : Int) (g1.col : Int) c).col : Nat) : Int)) = decide (wd = (C : Int) - (g1.col : Int))) := by unfold Hid; rw [HPC.out]; rfl
   clear hb c0 c1 c2 c3 c4 c5 lE hz HA3
   obtain ⟨c0, c1, c2, c3, c4, c5, lE⟩ := HA4.out.emu.six
   have hz := HA4.out.emu.top.frozen
   go_wp2_with fail
   have HA5 := hide (HA4.out.trans (HA4.out.emu.wrap (decide (wd = (C : Int) - (g1.col : Int)))))
   clear c0 c1 c2 c3 c4 c5 lE hz
   rw [HQC.out]
   refine (step_any HA5.out.emu 0 wd (by omega) (by omega)).mono ?_
   rintro x y3 ⟨rfl, L8, ha⟩
   have HA6 := hide (At.first HB0.out (HA5.out.trans ha))
   clear ha; go_wp2
   refine bodyPost_end (v := .tuple #[]) (by simp [results, Tryz.results97]) rfl ⟨rfl, _, HA6.out.eq (by simp only [HPR.out, HPC.out])⟩
  ·have HG1 : Hid (e.g = g1) := by unfold Hid; rw [← HG.out]; exact (HRN.out HW.out (by omega)).symm
   have HA2 : Hid (At b W0 L k0 L R C { e with g := g1 }) := HA0.out.eq (by rw [← HG1.out])
   clear c0 c1 c2 c3 c4 c5 lE; have HE2 := hide HA2.out.emu
   have HX2 := hide (HA2.out.ch.whole HX0.out HNE.out)
   obtain ⟨d0, d1, d2, d3, d4, d5, d6, ld⟩ := cells7 HX2.out
   go_wp2
   refine rgL (fun w' => Below k0.heap.size k0 w') 4 [(0, 0), (0, 1), (0, 2), (1, 3), (3, 4)] bd1 ?_
   iterate 3 refine stL (h := ?_)
   refine alL fun K hK => ?_
   go_wp2
   refine hK.out _ _ bd1 ?_
   clear hK K
   refine laL fun K hK => ?_
   go_wp2_with fail
   refine (sput_any (HE2.out.later bd1) c HCB.out).mono ?_
   rintro x y1 ⟨rfl, L9, ha⟩
   have HA3 := hide (HA2.out.trans (At.first bd1 ha))
   clear ha; go_wp2
   refine hK.out _ _ ?_
   clear hK K
   refine chainL_nil ?_
   clear d0 d1 d2 d3 d4 d5 d6 ld
   obtain ⟨c0, c1, c2, c3, c4, c5, lE⟩ := HA3.out.emu.six
   have hz := HA3.out.emu.top.frozen
   go_wp2_with fail
   refine (room_any HA3.out.emu).mono ?_
   rintro x y2 ⟨rfl, hb⟩
   have HA4 := hide (HA3.out.later hb)
   have HQC : Hid ((wd == (C : Int) - (((putG g1 (g1.row : Int) (g1.col : Int) c).col : Nat) : Int)) = decide (wd = (C : Int) - (g1.col : Int))) := by unfold Hid; rw [HPC.out]; rfl
   clear hb c0 c1 c2 c3 c4 c5 lE hz HA3
   obtain ⟨c0, c1, c2, c3, c4, c5, lE⟩ := HA4.out.emu.six
   have hz := HA4.out.emu.top.frozen
   go_wp2_with fail
   have HA5 := hide (HA4.out.trans (HA4.out.emu.wrap (decide (wd = (C : Int) - (g1.col : Int)))))
   clear c0 c1 c2 c3 c4 c5 lE hz
   rw [HQC.out]
   refine (step_any HA5.out.emu 0 wd (by omega) (by omega)).mono ?_
   rintro x y3 ⟨rfl, L8, ha⟩
   have HA6 := hide (At.first HB0.out (HA5.out.trans ha))
   clear ha; go_wp2
   refine bodyPost_end (v := .tuple #[]) (by simp [results, Tryz.results97]) rfl ⟨rfl, _, HA6.out.eq (by simp only [HPR.out, HPC.out])⟩
 ·have HW := hide hw
  rw [hw] at c5
  clear hw
  have HA0 : Hid (At b W0 L W0 L R C e) := At.refl HE.out
  have HEc := hide HE.out
  go_enter Tryz.func97, Tryz.ntmps97
  go_wp2_with fail
  rw [HW0.out]
  have HG1 : Hid (feedG (moveG e.g (e.g.row : Int) 0 C) C (blankP e.pen) = g1) := by unfold Hid; rw [← HG.out]; exact (HRY.out (.inl HW.out)).symm
  refine (tocol_any HEc.out 0).mono ?_
  rintro x k1 ⟨rfl, L1, ha⟩
  have HA1 := hide (HA0.out.trans ha)
  have HE1 := hide ha.emu; clear ha c0 c1 c2 c3 c4 c5 lE; go_wp2
  refine rgL (fun w' => Below k1.heap.size k1 w') 5 [(0, 0), (0, 3), (0, 1), (0, 2), (1, 4), (3, 5)] bd1 ?_
  iterate 4 refine stL (h := ?_)
  refine alL fun K hK => ?_
  go_wp2_with fail
  refine (eblank_any (HE1.out.later bd1)).mono ?_
  rintro x k2 ⟨rfl, hb⟩
  have B1 : Below k1.heap.size k1 k2 := bd1.trans hb
  clear hb; go_wp2
  refine hK.out _ _ (B1) ?_
  clear hK K
  refine laL fun K hK => ?_
  go_wp2_with fail
  refine (sfeed_any (HE1.out.later B1) (blankP e.pen)).mono ?_
  rintro x k3 ⟨rfl, L2, ha⟩
  have HA2 : Hid (At b W0 L k3 L2 R C { e with g := g1 }) := (HA1.out.trans (At.first B1 ha)).eq (by rw [← HG1.out])
  clear ha B1; go_wp2
  refine hK.out _ _ ?_
  clear hK K
  refine chainL_nil ?_
  have HE2 := hide HA2.out.emu
  have HX2 := hide (HA2.out.ch.whole HX0.out HNE.out)
  obtain ⟨d0, d1, d2, d3, d4, d5, d6, ld⟩ := cells7 HX2.out
  go_wp2
  refine rgL (fun w' => Below k3.heap.size k3 w') 4 [(0, 0), (0, 1), (0, 2), (1, 3), (3, 4)] bd1 ?_
  iterate 3 refine stL (h := ?_)
  refine alL fun K hK => ?_
  go_wp2
  refine hK.out _ _ bd1 ?_
  clear hK K
  refine laL fun K hK => ?_
  go_wp2_with fail
  refine (sput_any (HE2.out.later bd1) c HCB.out).mono ?_
  rintro x y1 ⟨rfl, L9, ha⟩
  have HA3 := hide (HA2.out.trans (At.first bd1 ha))
  clear ha; go_wp2
  refine hK.out _ _ ?_
  clear hK K
  refine chainL_nil ?_
  clear d0 d1 d2 d3 d4 d5 d6 ld
  obtain ⟨c0, c1, c2, c3, c4, c5, lE⟩ := HA3.out.emu.six
  have hz := HA3.out.emu.top.frozen
  go_wp2_with fail
  refine (room_any HA3.out.emu).mono ?_
  rintro x y2 ⟨rfl, hb⟩
  have HA4 := hide (HA3.out.later hb)
  have HQC : Hid ((wd == (C : Int) - (((putG g1 (g1.row : Int) (g1.col : Int) c).col : Nat) : Int)) = decide (wd = (C : Int) - (g1.col : Int))) := by unfold Hid; rw [HPC.out]; rfl
  clear hb c0 c1 c2 c3 c4 c5 lE hz HA3
  obtain ⟨c0, c1, c2, c3, c4, c5, lE⟩ := HA4.out.emu.six
  have hz := HA4.out.emu.top.frozen
  go_wp2_with fail
  have HA5 := hide (HA4.out.trans (HA4.out.emu.wrap (decide (wd = (C : Int) - (g1.col : Int)))))
  clear c0 c1 c2 c3 c4 c5 lE hz
  rw [HQC.out]
  refine (step_any HA5.out.emu 0 wd (by omega) (by omega)).mono ?_
  rintro x y3 ⟨rfl, L8, ha⟩
  have HA6 := hide (At.first HB0.out (HA5.out.trans ha))
  clear ha; go_wp2
  refine bodyPost_end (v := .tuple #[]) (by simp [results, Tryz.results97]) rfl ⟨rfl, _, HA6.out.eq (by simp only [HPR.out, HPC.out])⟩
theorem wOf_other {r : Int} (h0 : ¬ wOf r = 0) (h1 : ¬ wOf r = 1) (h2 : ¬ wOf r = 2) : wOf r = -1 := by have := wOf_range r; omega
theorem print_any (h : Emu w b L R C e) (r : Int) (hr : R32 r) : Calls Tryz.prog 50 #[.pointer (some ⟨b.E, 0, none⟩), .int .i32 r] w (DoneE b L R C (typedE e C r) w) := by
 have hR1 := h.ok.g.r1
 have hR2 := h.ok.g.r2
 have hC1 := h.ok.g.c1
 have hC2 := h.ok.g.c2
 have hrow := h.ok.g.row
 have hcol := h.ok.g.col
 obtain ⟨⟨f0, g0, b0⟩, hp0⟩ : ∃ P, e.pen = P := ⟨_, rfl⟩
 obtain ⟨c0, c1, c2, c3, c4, c5, lE⟩ := h.six
 rw [hp0] at c2 c3 c4
 simp only at c2 c3 c4
 have HP0 := hide hp0; have HE := hide h; have HR := hide hr; have HS := hide h.sp; have HOK := hide h.ok; clear h hp0
 by_cases h0 : wOf r = 0
 ·have HQ0 : Hid ((wOf r == 0) = true) := by unfold Hid; simp [h0]
  have HT : Hid (typedE e C r = { e with g := markG e.g (e.g.row : Int) (if e.wrap = true then (e.g.col : Int) else (e.g.col : Int) - 1) r }) := by unfold Hid typedE; rw [if_pos h0]
  clear h0
  go_enter Tryz.func50, Tryz.ntmps50
  go_wp2_with fail
  refine (mark_any r w HS.out).mono ?_
  rintro x k1 ⟨rfl, hb⟩
  rw [HQ0.out]
  have HB1 := hide hb; clear hb; go_wp2_with fail
  refine (addmark_any (HE.out.later HB1.out) r HR.out).mono ?_
  rintro x k2 ⟨rfl, L1, ha⟩
  have HA := hide (At.first HB1.out ha)
  clear ha; go_wp2
  exact bodyPost_ret (v := .tuple #[]) (by simp [results, Tryz.results50]) rfl ⟨rfl, _, HA.out.eq HT.out.symm⟩
 ·have HQ0 : Hid ((wOf r == 0) = false) := by unfold Hid; simp [h0]
  by_cases hd : wOf r = 1
  ·have HO : Hid (ofC r ⟨f0, g0, b0⟩ = (⟨r, 0, 0, 1, ⟨f0, g0, b0⟩⟩, true)) := by unfold Hid ofC; simp [hd]
   have HO2 : Hid ((ofC r e.pen).1 = ⟨r, 0, 0, 1, ⟨f0, g0, b0⟩⟩) := by unfold Hid; rw [HP0.out, HO.out]
   go_enter Tryz.func50, Tryz.ntmps50
   go_wp2_with fail
   refine (mark_any r w HS.out).mono ?_
   rintro x k1 ⟨rfl, hb⟩
   rw [HQ0.out]
   have HB1 := hide hb
   have HE1 := hide (HE.out.later hb)
   clear hb c0 c1 c2 c3 c4 c5 lE
   obtain ⟨c0, c1, c2, c3, c4, c5, lE⟩ := HE1.out.six
   rw [HP0.out] at c2 c3 c4
   simp only at c2 c3 c4
   go_wp2_with fail
   refine (cof_v r f0 g0 b0 r 0 0 1 f0 g0 b0 true HO.out k1 HE1.out.sp).mono ?_
   rintro x k2 ⟨rfl, hb⟩
   obtain ⟨q, hq⟩ := exq (k2.heap.size)
   obtain ⟨W2, hW2⟩ := exq (k2.alloc (.cells #[.int .i32 r, .int .i32 0, .int .i32 0, .int .u8 1, .int .u8 f0, .int .u8 g0, .int .u8 b0] 73))
   have HB2 : Hid (Below k1.heap.size k1 W2) := by unfold Hid; rw [← hW2]; exact hb.alloc hb.size _
   have HX2 : Hid (Whole W2 q 73 [.int .i32 r, .int .i32 0, .int .i32 0, .int .u8 1, .int .u8 f0, .int .u8 g0, .int .u8 b0]) := by unfold Hid; rw [← hW2, ← hq]; exact Whole.new _ _ _
   have HW2 := hide hW2; have HQ := hide hq
   have HE2 := hide (HE1.out.later HB2.out)
   clear c0 c1 c2 c3 c4 c5 lE
   obtain ⟨c0, c1, c2, c3, c4, c5, lE⟩ := ((HE1.out.later hb).later ((Below.refl _ _).alloc (Nat.le_refl _) (.cells #[.int .i32 r, .int .i32 0, .int .i32 0, .int .u8 1, .int .u8 f0, .int .u8 g0, .int .u8 b0] 73))).six
   clear hb hW2 hq
   obtain ⟨z0, z1, z2, z3, z4, z5, z6, lq⟩ := cells7 HX2.out
   go_wp2_with fail
   rw [HW2.out, HQ.out]
   refine (cols_any HE2.out.grd hR1).mono ?_
   rintro x k3 ⟨rfl, rfl⟩
   have HT := hide (show_is HOK.out r h0 (by omega) _ rfl)
   rw [hd] at HT
   rw [HO2.out] at HT
   go_wp2_with fail
   refine (show_any HE2.out ⟨r, 0, 0, 1, ⟨f0, g0, b0⟩⟩ ⟨HR.out, r32_0, r32_0, (by show (1 : Nat) < 256; omega)⟩ 1 (by omega) (by omega) _ rfl).mono ?_
   rintro x k4 ⟨rfl, L1, ha⟩
   have HA := hide (At.first (HB1.out.trans (HB2.out.mono HB1.out.size)) ha)
   clear ha c0 c1 c2 c3 c4 c5 lE z0 z1 z2 z3 z4 z5 z6 lq; go_wp2
   refine bodyPost_end (v := .tuple #[]) (by simp [results, Tryz.results50]) rfl ⟨rfl, _, HA.out.eq HT.out.symm⟩
  ·by_cases hd : wOf r = 2
   ·have HO : Hid (ofC r ⟨f0, g0, b0⟩ = (⟨r, 0, 0, 2, ⟨f0, g0, b0⟩⟩, true)) := by unfold Hid ofC; simp [hd]
    have HO2 : Hid ((ofC r e.pen).1 = ⟨r, 0, 0, 2, ⟨f0, g0, b0⟩⟩) := by unfold Hid; rw [HP0.out, HO.out]
    go_enter Tryz.func50, Tryz.ntmps50
    go_wp2_with fail
    refine (mark_any r w HS.out).mono ?_
    rintro x k1 ⟨rfl, hb⟩
    rw [HQ0.out]
    have HB1 := hide hb
    have HE1 := hide (HE.out.later hb)
    clear hb c0 c1 c2 c3 c4 c5 lE
    obtain ⟨c0, c1, c2, c3, c4, c5, lE⟩ := HE1.out.six
    rw [HP0.out] at c2 c3 c4
    simp only at c2 c3 c4
    go_wp2_with fail
    refine (cof_v r f0 g0 b0 r 0 0 2 f0 g0 b0 true HO.out k1 HE1.out.sp).mono ?_
    rintro x k2 ⟨rfl, hb⟩
    obtain ⟨q, hq⟩ := exq (k2.heap.size)
    obtain ⟨W2, hW2⟩ := exq (k2.alloc (.cells #[.int .i32 r, .int .i32 0, .int .i32 0, .int .u8 2, .int .u8 f0, .int .u8 g0, .int .u8 b0] 73))
    have HB2 : Hid (Below k1.heap.size k1 W2) := by unfold Hid; rw [← hW2]; exact hb.alloc hb.size _
    have HX2 : Hid (Whole W2 q 73 [.int .i32 r, .int .i32 0, .int .i32 0, .int .u8 2, .int .u8 f0, .int .u8 g0, .int .u8 b0]) := by unfold Hid; rw [← hW2, ← hq]; exact Whole.new _ _ _
    have HW2 := hide hW2; have HQ := hide hq
    have HE2 := hide (HE1.out.later HB2.out)
    clear c0 c1 c2 c3 c4 c5 lE
    obtain ⟨c0, c1, c2, c3, c4, c5, lE⟩ := ((HE1.out.later hb).later ((Below.refl _ _).alloc (Nat.le_refl _) (.cells #[.int .i32 r, .int .i32 0, .int .i32 0, .int .u8 2, .int .u8 f0, .int .u8 g0, .int .u8 b0] 73))).six
    clear hb hW2 hq
    obtain ⟨z0, z1, z2, z3, z4, z5, z6, lq⟩ := cells7 HX2.out
    go_wp2_with fail
    rw [HW2.out, HQ.out]
    refine (cols_any HE2.out.grd hR1).mono ?_
    rintro x k3 ⟨rfl, rfl⟩
    by_cases hf : 2 ≤ (C : Int)
    ·have HT := hide (show_is HOK.out r h0 (by omega) _ rfl)
     rw [hd] at HT
     rw [HO2.out] at HT
     go_wp2_with fail
     refine (show_any HE2.out ⟨r, 0, 0, 2, ⟨f0, g0, b0⟩⟩ ⟨HR.out, r32_0, r32_0, (by show (2 : Nat) < 256; omega)⟩ 2 (by omega) (by omega) _ rfl).mono ?_
     rintro x k4 ⟨rfl, L1, ha⟩
     have HA := hide (At.first (HB1.out.trans (HB2.out.mono HB1.out.size)) ha)
     clear ha c0 c1 c2 c3 c4 c5 lE z0 z1 z2 z3 z4 z5 z6 lq; go_wp2
     refine bodyPost_end (v := .tuple #[]) (by simp [results, Tryz.results50]) rfl ⟨rfl, _, HA.out.eq HT.out.symm⟩
    ·have HT : Hid (typedE e C r = e) := by unfold Hid typedE; rw [if_neg h0, if_pos (by omega)]
     go_wp2
     refine bodyPost_end (v := .tuple #[]) (by simp [results, Tryz.results50]) rfl ⟨rfl, _, by rw [HT.out]; exact At.first (HB1.out.trans (HB2.out.mono HB1.out.size)) (At.refl HE2.out)⟩
   ·have HO : Hid (ofC r ⟨f0, g0, b0⟩ = (⟨0, 0, 0, 0, ⟨0, 0, 0⟩⟩, false)) := by unfold Hid ofC; simp [*, zeroC, zeroP]
    have hm1 := wOf_other h0 (by assumption) (by assumption)
    have HT : Hid (typedE e C r = e) := by unfold Hid typedE; rw [if_neg h0, if_pos (by omega)]
    go_enter Tryz.func50, Tryz.ntmps50
    go_wp2_with fail
    refine (mark_any r w HS.out).mono ?_
    rintro x k1 ⟨rfl, hb⟩
    rw [HQ0.out]
    have HB1 := hide hb
    have HE1 := hide (HE.out.later hb)
    clear hb c0 c1 c2 c3 c4 c5 lE
    obtain ⟨c0, c1, c2, c3, c4, c5, lE⟩ := HE1.out.six
    rw [HP0.out] at c2 c3 c4
    simp only at c2 c3 c4
    go_wp2_with fail
    refine (cof_v r f0 g0 b0 0 0 0 0 0 0 0 false HO.out k1 HE1.out.sp).mono ?_
    rintro x k2 ⟨rfl, hb⟩
    have HB2 : Hid (Below k1.heap.size k1 (k2.alloc (.cells #[.int .i32 0, .int .i32 0, .int .i32 0, .int .u8 0, .int .u8 0, .int .u8 0, .int .u8 0] 73))) := hb.alloc hb.size _
    clear hb; go_wp2
    refine bodyPost_end (v := .tuple #[]) (by simp [results, Tryz.results50]) rfl ⟨rfl, _, by rw [HT.out]; exact At.first (HB1.out.trans (HB2.out.mono HB1.out.size)) (At.refl (HE1.out.later HB2.out))⟩
end
end
end Go.Proofs.YtkijclgbpbhglaaGreatDoor
