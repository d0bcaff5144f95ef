/-
  Contracts: an emulator's screen (the program's): how much room, the cursor's steps, to feed, to put, to mark, what erases.
  Contracts: what is held in the end, a copy, all that bytes tell (the program's); a nil parser's.
-/
import Derived.Test.YtkijclgbpbhglaaGreatDoorQa18
import Derived.Test.YtkijclgbpbhglaaGreatDoorQa9
import Derived.Test.YtkijclgbpbhglaaGreatDoorQa17
namespace Go.Proofs.YtkijclgbpbhglaaGreatDoor
set_option maxRecDepth 100000
open Go.ChangeShapes Go.WideShapes Go.ChangeAt Go.RowKit
set_option linter.unusedVariables false

/-- The call is done; the emulator is e' now. -/
def DoneE (b : Bl) (L R C : Nat) (e' : Em) (w : World) (x : Ending) (w' : World) : Prop := x = .returned (.tuple #[]) ∧ ∃ L', At b w L w' L' R C e'
section
variable {w : World} {b : Bl} {L R C : Nat} {e : Em}
set_option maxHeartbeats 2000000 in
theorem room_any (h : Emu w b L R C e) : Calls Tryz.prog 146 #[.pointer (some ⟨b.E, 0, none⟩)] w (Num .i64 ((C : Int) - (e.g.col : Int)) w) := by
  have hR1 := h.ok.g.r1
  have hR2 := h.ok.g.r2
  have hC1 := h.ok.g.c1
  have hC2 := h.ok.g.c2
  have hrow := h.ok.g.row
  have hcol := h.ok.g.col
  obtain ⟨c0, c1, c2, c3, c4, c5, lE⟩ := h.six
  have HE := hide h
  clear h
  go_enter Tryz.func146, Tryz.ntmps146
  go_wp2
  refine wp_region_chainL (fun w' => Below w.heap.size w w') 11 [(0, 0), (0, 5), (0, 1), (0, 2), (0, 6), (0, 7), (0, 3), (0, 8), (1, 4), (1, 9), (1, 10), (3, 11)] (by kernel_rfl) (by kernel_rfl) (by kernel_rfl) (fun _ _ _ _ _ h => h) ?_ ?_
  · exact (Below.refl _ _).drewN 1
  refine chainL_take (v := ?_) (by simp only [List.getElem?_toArray, List.getElem?_cons_zero]; rfl) (by rfl) (fun w hS => ?_) ?_
  rotate_left
  · go_simp <;> with_reducible rfl
  simp only [Act.put, List.setIfInBounds_toArray, List.set_cons_zero, List.set_cons_succ]
  refine chainL_take (v := ?_) (by simp only [List.getElem?_toArray, List.getElem?_cons_zero, List.getElem?_cons_succ]; rfl) (by rfl) (fun w hS => ?_) ?_
  rotate_left
  · go_simp <;> with_reducible rfl
  simp only [Act.put, List.setIfInBounds_toArray, List.set_cons_zero, List.set_cons_succ]
  refine chainL_take (v := ?_) (by simp only [List.getElem?_toArray, List.getElem?_cons_zero, List.getElem?_cons_succ]; rfl) (by rfl) (fun w hS => ?_) ?_
  rotate_left
  · go_simp <;> with_reducible rfl
  simp only [Act.put, List.setIfInBounds_toArray, List.set_cons_zero, List.set_cons_succ]
  refine chainL_take (v := ?_) (by simp only [List.getElem?_toArray, List.getElem?_cons_zero, List.getElem?_cons_succ]; rfl) (by rfl) (fun w hS => ?_) ?_
  rotate_left
  · go_simp <;> with_reducible rfl
  simp only [Act.put, List.setIfInBounds_toArray, List.set_cons_zero, List.set_cons_succ]
  refine chainL_take (v := ?_) (by simp only [List.getElem?_toArray, List.getElem?_cons_zero, List.getElem?_cons_succ]; rfl) (by rfl) (fun w hS => ?_) ?_
  rotate_left
  · go_simp <;> with_reducible rfl
  simp only [Act.put, List.setIfInBounds_toArray, List.set_cons_zero, List.set_cons_succ]
  refine chainL_take (v := ?_) (by simp only [List.getElem?_toArray, List.getElem?_cons_zero, List.getElem?_cons_succ]; rfl) (by rfl) (fun w hS => ?_) ?_
  rotate_left
  · go_simp <;> with_reducible rfl
  simp only [Act.put, List.setIfInBounds_toArray, List.set_cons_zero, List.set_cons_succ]
  refine chainL_take (v := ?_) (by simp only [List.getElem?_toArray, List.getElem?_cons_zero, List.getElem?_cons_succ]; rfl) (by rfl) (fun w hS => ?_) ?_
  rotate_left
  · obtain ⟨c0, c1, c2, c3, c4, c5, -⟩ := (HE.out.later hS).six; go_simp <;> with_reducible rfl
  simp only [Act.put, List.setIfInBounds_toArray, List.set_cons_zero, List.set_cons_succ]
  refine chainL_take (v := ?_) (by simp only [List.getElem?_toArray, List.getElem?_cons_zero, List.getElem?_cons_succ]; rfl) (by rfl) (fun w hS => ?_) ?_
  rotate_left
  · obtain ⟨c0, c1, c2, c3, c4, c5, -⟩ := (HE.out.later hS).six; go_simp <;> with_reducible rfl
  simp only [Act.put, List.setIfInBounds_toArray, List.set_cons_zero, List.set_cons_succ]
  refine chainL_alone (by simp only [List.getElem?_toArray, List.getElem?_cons_zero, List.getElem?_cons_succ]; rfl) ?_
  intro K hK
  go_wp2_with fail
  refine (cols_any (HE.out.later ((Below.refl _ _).drewN 1)).grd hR1).mono ?_
  rintro x k0 ⟨rfl, rfl⟩
  go_wp2
  refine hK.out _ _ ((Below.refl _ _).drewN 1) ?_
  clear hK K
  refine chainL_alone (by simp only [List.getElem?_toArray, List.getElem?_cons_zero, List.getElem?_cons_succ]; rfl) ?_
  intro K hK
  go_wp2_with fail
  refine (col_any (HE.out.later ((Below.refl _ _).drewN 1)).grd).mono ?_
  rintro x k0 ⟨rfl, rfl⟩
  go_wp2
  refine hK.out _ _ ((Below.refl _ _).drewN 1) ?_
  clear hK K
  refine chainL_alone (by simp only [List.getElem?_toArray, List.getElem?_cons_zero, List.getElem?_cons_succ]; rfl) ?_
  intro K hK
  go_wp2
  refine hK.out _ _ ((Below.refl _ _).drewN 1) ?_
  clear hK K
  refine chainL_late (by simp only [List.getElem?_toArray, List.getElem?_cons_zero, List.getElem?_cons_succ]; rfl) ?_
  intro K hK
  go_wp2
  refine hK.out _ _ ?_
  clear hK K
  refine chainL_nil ?_
  go_wp2
  go_ret
  exact ⟨rfl, (Below.refl _ _).drewN 1⟩
set_option maxHeartbeats 2000000 in
theorem step_any (h : Emu w b L R C e) (rows cols : Int) (hr : -1000 ≤ rows ∧ rows ≤ 1000) (hc : -1000 ≤ cols ∧ cols ≤ 1000) : Calls Tryz.prog 101 #[.pointer (some ⟨b.E, 0, none⟩), .int .i64 rows, .int .i64 cols] w (DoneE b L R C { e with g := moveG e.g ((e.g.row : Int) + rows) ((e.g.col : Int) + cols) C } w) := by
  have hR1 := h.ok.g.r1
  have hR2 := h.ok.g.r2
  have hC1 := h.ok.g.c1
  have hC2 := h.ok.g.c2
  have hrow := h.ok.g.row
  have hcol := h.ok.g.col
  obtain ⟨c0, c1, c2, c3, c4, c5, lE⟩ := h.six
  have HE := hide h
  clear h
  go_enter Tryz.func101, Tryz.ntmps101
  go_wp2
  refine wp_region_chainL (fun w' => Below w.heap.size w w') 18 [(0, 0), (0, 4), (0, 9), (0, 11), (0, 16), (0, 1), (0, 2), (0, 5), (0, 6), (0, 12), (0, 13), (0, 3), (0, 7), (0, 14), (1, 8), (0, 10), (1, 15), (1, 17), (3, 18)] (by kernel_rfl) (by kernel_rfl) (by kernel_rfl) (fun _ _ _ _ _ h => h) ?_ ?_
  · exact (Below.refl _ _).drewN 1
  refine chainL_take (v := ?_) (by simp only [List.getElem?_toArray, List.getElem?_cons_zero]; rfl) (by rfl) (fun w hS => ?_) ?_
  rotate_left
  · go_simp <;> with_reducible rfl
  simp only [Act.put, List.setIfInBounds_toArray, List.set_cons_zero, List.set_cons_succ]
  refine chainL_take (v := ?_) (by simp only [List.getElem?_toArray, List.getElem?_cons_zero, List.getElem?_cons_succ]; rfl) (by rfl) (fun w hS => ?_) ?_
  rotate_left
  · go_simp <;> with_reducible rfl
  simp only [Act.put, List.setIfInBounds_toArray, List.set_cons_zero, List.set_cons_succ]
  refine chainL_take (v := ?_) (by simp only [List.getElem?_toArray, List.getElem?_cons_zero, List.getElem?_cons_succ]; rfl) (by rfl) (fun w hS => ?_) ?_
  rotate_left
  · go_simp <;> with_reducible rfl
  simp only [Act.put, List.setIfInBounds_toArray, List.set_cons_zero, List.set_cons_succ]
  refine chainL_take (v := ?_) (by simp only [List.getElem?_toArray, List.getElem?_cons_zero, List.getElem?_cons_succ]; rfl) (by rfl) (fun w hS => ?_) ?_
  rotate_left
  · go_simp <;> with_reducible rfl
  simp only [Act.put, List.setIfInBounds_toArray, List.set_cons_zero, List.set_cons_succ]
  refine chainL_take (v := ?_) (by simp only [List.getElem?_toArray, List.getElem?_cons_zero, List.getElem?_cons_succ]; rfl) (by rfl) (fun w hS => ?_) ?_
  rotate_left
  · go_simp <;> with_reducible rfl
  simp only [Act.put, List.setIfInBounds_toArray, List.set_cons_zero, List.set_cons_succ]
  refine chainL_take (v := ?_) (by simp only [List.getElem?_toArray, List.getElem?_cons_zero, List.getElem?_cons_succ]; rfl) (by rfl) (fun w hS => ?_) ?_
  rotate_left
  · go_simp <;> with_reducible rfl
  simp only [Act.put, List.setIfInBounds_toArray, List.set_cons_zero, List.set_cons_succ]
  refine chainL_take (v := ?_) (by simp only [List.getElem?_toArray, List.getElem?_cons_zero, List.getElem?_cons_succ]; rfl) (by rfl) (fun w hS => ?_) ?_
  rotate_left
  · go_simp <;> with_reducible rfl
  simp only [Act.put, List.setIfInBounds_toArray, List.set_cons_zero, List.set_cons_succ]
  refine chainL_take (v := ?_) (by simp only [List.getElem?_toArray, List.getElem?_cons_zero, List.getElem?_cons_succ]; rfl) (by rfl) (fun w hS => ?_) ?_
  rotate_left
  · go_simp <;> with_reducible rfl
  simp only [Act.put, List.setIfInBounds_toArray, List.set_cons_zero, List.set_cons_succ]
  refine chainL_take (v := ?_) (by simp only [List.getElem?_toArray, List.getElem?_cons_zero, List.getElem?_cons_succ]; rfl) (by rfl) (fun w hS => ?_) ?_
  rotate_left
  · go_simp <;> with_reducible rfl
  simp only [Act.put, List.setIfInBounds_toArray, List.set_cons_zero, List.set_cons_succ]
  refine chainL_take (v := ?_) (by simp only [List.getElem?_toArray, List.getElem?_cons_zero, List.getElem?_cons_succ]; rfl) (by rfl) (fun w hS => ?_) ?_
  rotate_left
  · go_simp <;> with_reducible rfl
  simp only [Act.put, List.setIfInBounds_toArray, List.set_cons_zero, List.set_cons_succ]
  refine chainL_take (v := ?_) (by simp only [List.getElem?_toArray, List.getElem?_cons_zero, List.getElem?_cons_succ]; rfl) (by rfl) (fun w hS => ?_) ?_
  rotate_left
  · go_simp <;> with_reducible rfl
  simp only [Act.put, List.setIfInBounds_toArray, List.set_cons_zero, List.set_cons_succ]
  refine chainL_take (v := ?_) (by simp only [List.getElem?_toArray, List.getElem?_cons_zero, List.getElem?_cons_succ]; rfl) (by rfl) (fun w hS => ?_) ?_
  rotate_left
  · obtain ⟨c0, c1, c2, c3, c4, c5, -⟩ := (HE.out.later hS).six; go_simp <;> with_reducible rfl
  simp only [Act.put, List.setIfInBounds_toArray, List.set_cons_zero, List.set_cons_succ]
  refine chainL_take (v := ?_) (by simp only [List.getElem?_toArray, List.getElem?_cons_zero, List.getElem?_cons_succ]; rfl) (by rfl) (fun w hS => ?_) ?_
  rotate_left
  · obtain ⟨c0, c1, c2, c3, c4, c5, -⟩ := (HE.out.later hS).six; go_simp <;> with_reducible rfl
  simp only [Act.put, List.setIfInBounds_toArray, List.set_cons_zero, List.set_cons_succ]
  refine chainL_take (v := ?_) (by simp only [List.getElem?_toArray, List.getElem?_cons_zero, List.getElem?_cons_succ]; rfl) (by rfl) (fun w hS => ?_) ?_
  rotate_left
  · obtain ⟨c0, c1, c2, c3, c4, c5, -⟩ := (HE.out.later hS).six; go_simp <;> with_reducible rfl
  simp only [Act.put, List.setIfInBounds_toArray, List.set_cons_zero, List.set_cons_succ]
  refine chainL_alone (by simp only [List.getElem?_toArray, List.getElem?_cons_zero, List.getElem?_cons_succ]; rfl) ?_
  intro K hK
  go_wp2_with fail
  refine (row_any (HE.out.later ((Below.refl _ _).drewN 1)).grd).mono ?_
  rintro x k0 ⟨rfl, rfl⟩
  go_wp2
  refine hK.out _ _ ((Below.refl _ _).drewN 1) ?_
  clear hK K
  refine chainL_take (v := ?_) (by simp only [List.getElem?_toArray, List.getElem?_cons_zero, List.getElem?_cons_succ]; rfl) (by rfl) (fun w hS => ?_) ?_
  rotate_left
  · go_simp <;> with_reducible rfl
  simp only [Act.put, List.setIfInBounds_toArray, List.set_cons_zero, List.set_cons_succ]
  refine chainL_alone (by simp only [List.getElem?_toArray, List.getElem?_cons_zero, List.getElem?_cons_succ]; rfl) ?_
  intro K hK
  go_wp2_with fail
  refine (col_any (HE.out.later ((Below.refl _ _).drewN 1)).grd).mono ?_
  rintro x k0 ⟨rfl, rfl⟩
  go_wp2
  refine hK.out _ _ ((Below.refl _ _).drewN 1) ?_
  clear hK K
  refine chainL_alone (by simp only [List.getElem?_toArray, List.getElem?_cons_zero, List.getElem?_cons_succ]; rfl) ?_
  intro K hK
  go_wp2
  refine hK.out _ _ ((Below.refl _ _).drewN 1) ?_
  clear hK K
  refine chainL_late (by simp only [List.getElem?_toArray, List.getElem?_cons_zero, List.getElem?_cons_succ]; rfl) ?_
  intro K hK
  go_wp2_with fail
  refine (move_any (HE.out.later ((Below.refl _ _).drewN 1)).grd hR1 hR2 hC1 hC2 ((e.g.row : Int) + rows) ((e.g.col : Int) + cols)).mono ?_
  rintro x k1 ⟨rfl, hg, ho⟩
  have HA := hide (At.first ((Below.refl _ _).drewN 1) ((HE.out.later ((Below.refl _ _).drewN 1)).trn0 hg (Trn.of_onlyG ho) (HE.out.ok.g.move _ _)))
  clear hg ho
  go_wp2
  refine hK.out _ _ ?_
  clear hK K
  refine chainL_nil ?_
  go_wp2
  refine bodyPost_end (v := .tuple #[]) (by simp [results, Tryz.results101]) rfl ⟨rfl, _, HA.out⟩
set_option maxHeartbeats 2000000 in
theorem tocol_any (h : Emu w b L R C e) (c : Int) : Calls Tryz.prog 98 #[.pointer (some ⟨b.E, 0, none⟩), .int .i64 c] w (DoneE b L R C { e with g := moveG e.g (e.g.row : Int) c C } w) := by
  have hR1 := h.ok.g.r1
  have hR2 := h.ok.g.r2
  have hC1 := h.ok.g.c1
  have hC2 := h.ok.g.c2
  have hrow := h.ok.g.row
  have hcol := h.ok.g.col
  obtain ⟨c0, c1, c2, c3, c4, c5, lE⟩ := h.six
  have HE := hide h
  clear h
  go_enter Tryz.func98, Tryz.ntmps98
  go_wp2
  refine wp_region_chainL (fun w' => Below w.heap.size w w') 10 [(0, 0), (0, 4), (0, 9), (0, 1), (0, 2), (0, 5), (0, 6), (0, 3), (1, 7), (1, 8), (3, 10)] (by kernel_rfl) (by kernel_rfl) (by kernel_rfl) (fun _ _ _ _ _ h => h) ?_ ?_
  · exact (Below.refl _ _).drewN 1
  refine chainL_take (v := ?_) (by simp only [List.getElem?_toArray, List.getElem?_cons_zero]; rfl) (by rfl) (fun w hS => ?_) ?_
  rotate_left
  · go_simp <;> with_reducible rfl
  simp only [Act.put, List.setIfInBounds_toArray, List.set_cons_zero, List.set_cons_succ]
  refine chainL_take (v := ?_) (by simp only [List.getElem?_toArray, List.getElem?_cons_zero, List.getElem?_cons_succ]; rfl) (by rfl) (fun w hS => ?_) ?_
  rotate_left
  · go_simp <;> with_reducible rfl
  simp only [Act.put, List.setIfInBounds_toArray, List.set_cons_zero, List.set_cons_succ]
  refine chainL_take (v := ?_) (by simp only [List.getElem?_toArray, List.getElem?_cons_zero, List.getElem?_cons_succ]; rfl) (by rfl) (fun w hS => ?_) ?_
  rotate_left
  · go_simp <;> with_reducible rfl
  simp only [Act.put, List.setIfInBounds_toArray, List.set_cons_zero, List.set_cons_succ]
  refine chainL_take (v := ?_) (by simp only [List.getElem?_toArray, List.getElem?_cons_zero, List.getElem?_cons_succ]; rfl) (by rfl) (fun w hS => ?_) ?_
  rotate_left
  · go_simp <;> with_reducible rfl
  simp only [Act.put, List.setIfInBounds_toArray, List.set_cons_zero, List.set_cons_succ]
  refine chainL_take (v := ?_) (by simp only [List.getElem?_toArray, List.getElem?_cons_zero, List.getElem?_cons_succ]; rfl) (by rfl) (fun w hS => ?_) ?_
  rotate_left
  · go_simp <;> with_reducible rfl
  simp only [Act.put, List.setIfInBounds_toArray, List.set_cons_zero, List.set_cons_succ]
  refine chainL_take (v := ?_) (by simp only [List.getElem?_toArray, List.getElem?_cons_zero, List.getElem?_cons_succ]; rfl) (by rfl) (fun w hS => ?_) ?_
  rotate_left
  · go_simp <;> with_reducible rfl
  simp only [Act.put, List.setIfInBounds_toArray, List.set_cons_zero, List.set_cons_succ]
  refine chainL_take (v := ?_) (by simp only [List.getElem?_toArray, List.getElem?_cons_zero, List.getElem?_cons_succ]; rfl) (by rfl) (fun w hS => ?_) ?_
  rotate_left
  · go_simp <;> with_reducible rfl
  simp only [Act.put, List.setIfInBounds_toArray, List.set_cons_zero, List.set_cons_succ]
  refine chainL_take (v := ?_) (by simp only [List.getElem?_toArray, List.getElem?_cons_zero, List.getElem?_cons_succ]; rfl) (by rfl) (fun w hS => ?_) ?_
  rotate_left
  · obtain ⟨c0, c1, c2, c3, c4, c5, -⟩ := (HE.out.later hS).six; go_simp <;> with_reducible rfl
  simp only [Act.put, List.setIfInBounds_toArray, List.set_cons_zero, List.set_cons_succ]
  refine chainL_alone (by simp only [List.getElem?_toArray, List.getElem?_cons_zero, List.getElem?_cons_succ]; rfl) ?_
  intro K hK
  go_wp2
  refine hK.out _ _ ((Below.refl _ _).drewN 1) ?_
  clear hK K
  refine chainL_alone (by simp only [List.getElem?_toArray, List.getElem?_cons_zero, List.getElem?_cons_succ]; rfl) ?_
  intro K hK
  go_wp2_with fail
  refine (row_any (HE.out.later ((Below.refl _ _).drewN 1)).grd).mono ?_
  rintro x k0 ⟨rfl, rfl⟩
  go_wp2
  refine hK.out _ _ ((Below.refl _ _).drewN 1) ?_
  clear hK K
  refine chainL_late (by simp only [List.getElem?_toArray, List.getElem?_cons_zero, List.getElem?_cons_succ]; rfl) ?_
  intro K hK
  go_wp2_with fail
  refine (move_any (HE.out.later ((Below.refl _ _).drewN 1)).grd hR1 hR2 hC1 hC2 (e.g.row : Int) c).mono ?_
  rintro x k1 ⟨rfl, hg, ho⟩
  have HA := hide (At.first ((Below.refl _ _).drewN 1) ((HE.out.later ((Below.refl _ _).drewN 1)).trn0 hg (Trn.of_onlyG ho) (HE.out.ok.g.move _ _)))
  clear hg ho
  go_wp2
  refine hK.out _ _ ?_
  clear hK K
  refine chainL_nil ?_
  go_wp2
  refine bodyPost_end (v := .tuple #[]) (by simp [results, Tryz.results98]) rfl ⟨rfl, _, HA.out⟩
set_option maxHeartbeats 3000000 in
theorem sfeed_any (h : Emu w b L R C e) (p : Pn) : Calls Tryz.prog 99 #[.pointer (some ⟨b.E, 0, none⟩), .agg #[.int .u8 (p.f : Int), .int .u8 (p.g : Int), .int .u8 (p.b : Int)]] w (DoneE b L R C { e with g := feedG e.g C p } w) := by
  obtain ⟨W0, hW0⟩ : ∃ W0, w.alloc (.cells #[.int .u8 (p.f : Int), .int .u8 (p.g : Int), .int .u8 (p.b : Int)] 65) = W0 := ⟨_, rfl⟩
  have HB0 : Hid (Below w.heap.size w W0) := by unfold Hid; rw [← hW0]; exact (Below.refl _ _).alloc (Nat.le_refl _) _
  have HP0 : Hid (Whole W0 w.heap.size 65 [.int .u8 (p.f : Int), .int .u8 (p.g : Int), .int .u8 (p.b : Int)]) := by unfold Hid; rw [← hW0]; exact Whole.new w 65 [.int .u8 (p.f : Int), .int .u8 (p.g : Int), .int .u8 (p.b : Int)]
  have HW0 := hide hW0
  clear hW0
  have h1 := h.later HB0.out
  clear h
  have hR1 := h1.ok.g.r1
  have hR2 := h1.ok.g.r2
  have hC1 := h1.ok.g.c1
  have hC2 := h1.ok.g.c2
  have hrow := h1.ok.g.row
  have hcol := h1.ok.g.col
  obtain ⟨c0, c1, c2, c3, c4, c5, lE⟩ := h1.six
  have HE := hide h1
  clear h1
  by_cases hl : e.g.row + 1 = R
  · have hq : ((e.g.row : Int) == (R : Int) - 1) = true := by simp; omega
    have HF := hide (feed_last HE.out.ok.g hl p)
    go_enter Tryz.func99, Tryz.ntmps99
    go_wp2
    rw [HW0.out]
    refine wp_region_chainL (fun w' => Below W0.heap.size W0 w') 11 [(0, 0), (0, 5), (0, 1), (0, 2), (0, 6), (0, 7), (0, 3), (0, 8), (1, 4), (1, 9), (1, 10), (3, 11)] (by kernel_rfl) (by kernel_rfl) (by kernel_rfl) (fun _ _ _ _ _ h => h) ?_ ?_
    · exact (Below.refl _ _).drewN 1
    refine chainL_take (v := ?_) (by simp only [List.getElem?_toArray, List.getElem?_cons_zero]; rfl) (by rfl) (fun w hS => ?_) ?_
    rotate_left
    · go_simp <;> with_reducible rfl
    simp only [Act.put, List.setIfInBounds_toArray, List.set_cons_zero, List.set_cons_succ]
    refine chainL_take (v := ?_) (by simp only [List.getElem?_toArray, List.getElem?_cons_zero, List.getElem?_cons_succ]; rfl) (by rfl) (fun w hS => ?_) ?_
    rotate_left
    · go_simp <;> with_reducible rfl
    simp only [Act.put, List.setIfInBounds_toArray, List.set_cons_zero, List.set_cons_succ]
    refine chainL_take (v := ?_) (by simp only [List.getElem?_toArray, List.getElem?_cons_zero, List.getElem?_cons_succ]; rfl) (by rfl) (fun w hS => ?_) ?_
    rotate_left
    · go_simp <;> with_reducible rfl
    simp only [Act.put, List.setIfInBounds_toArray, List.set_cons_zero, List.set_cons_succ]
    refine chainL_take (v := ?_) (by simp only [List.getElem?_toArray, List.getElem?_cons_zero, List.getElem?_cons_succ]; rfl) (by rfl) (fun w hS => ?_) ?_
    rotate_left
    · go_simp <;> with_reducible rfl
    simp only [Act.put, List.setIfInBounds_toArray, List.set_cons_zero, List.set_cons_succ]
    refine chainL_take (v := ?_) (by simp only [List.getElem?_toArray, List.getElem?_cons_zero, List.getElem?_cons_succ]; rfl) (by rfl) (fun w hS => ?_) ?_
    rotate_left
    · go_simp <;> with_reducible rfl
    simp only [Act.put, List.setIfInBounds_toArray, List.set_cons_zero, List.set_cons_succ]
    refine chainL_take (v := ?_) (by simp only [List.getElem?_toArray, List.getElem?_cons_zero, List.getElem?_cons_succ]; rfl) (by rfl) (fun w hS => ?_) ?_
    rotate_left
    · go_simp <;> with_reducible rfl
    simp only [Act.put, List.setIfInBounds_toArray, List.set_cons_zero, List.set_cons_succ]
    refine chainL_take (v := ?_) (by simp only [List.getElem?_toArray, List.getElem?_cons_zero, List.getElem?_cons_succ]; rfl) (by rfl) (fun w hS => ?_) ?_
    rotate_left
    · obtain ⟨c0, c1, c2, c3, c4, c5, -⟩ := (HE.out.later hS).six; go_simp <;> with_reducible rfl
    simp only [Act.put, List.setIfInBounds_toArray, List.set_cons_zero, List.set_cons_succ]
    refine chainL_take (v := ?_) (by simp only [List.getElem?_toArray, List.getElem?_cons_zero, List.getElem?_cons_succ]; rfl) (by rfl) (fun w hS => ?_) ?_
    rotate_left
    · obtain ⟨c0, c1, c2, c3, c4, c5, -⟩ := (HE.out.later hS).six; go_simp <;> with_reducible rfl
    simp only [Act.put, List.setIfInBounds_toArray, List.set_cons_zero, List.set_cons_succ]
    refine chainL_alone (by simp only [List.getElem?_toArray, List.getElem?_cons_zero, List.getElem?_cons_succ]; rfl) ?_
    intro K hK
    go_wp2_with fail
    refine (row_any (HE.out.later ((Below.refl _ _).drewN 1)).grd).mono ?_
    rintro x k0 ⟨rfl, rfl⟩
    go_wp2
    refine hK.out _ _ ((Below.refl _ _).drewN 1) ?_
    clear hK K
    refine chainL_alone (by simp only [List.getElem?_toArray, List.getElem?_cons_zero, List.getElem?_cons_succ]; rfl) ?_
    intro K hK
    go_wp2_with fail
    refine (rows_any (HE.out.later ((Below.refl _ _).drewN 1)).grd).mono ?_
    rintro x k0 ⟨rfl, rfl⟩
    go_wp2
    refine hK.out _ _ ((Below.refl _ _).drewN 1) ?_
    clear hK K
    refine chainL_alone (by simp only [List.getElem?_toArray, List.getElem?_cons_zero, List.getElem?_cons_succ]; rfl) ?_
    intro K hK
    go_wp2
    refine hK.out _ _ ((Below.refl _ _).drewN 1) ?_
    clear hK K
    refine chainL_late (by simp only [List.getElem?_toArray, List.getElem?_cons_zero, List.getElem?_cons_succ]; rfl) ?_
    intro K hK
    go_wp2
    refine hK.out _ _ ?_
    clear hK K
    refine chainL_nil ?_
    go_wp2
    refine wp_region_chainL (fun w' => Below W0.heap.size W0 w') 5 [(0, 0), (0, 1), (0, 2), (0, 3), (1, 4), (3, 5)] (by kernel_rfl) (by kernel_rfl) (by kernel_rfl) (fun _ _ _ _ _ h => h) ?_ ?_
    · exact ((Below.refl _ _).drewN 1).drewN 1
    refine chainL_take (v := ?_) (by simp only [List.getElem?_toArray, List.getElem?_cons_zero]; rfl) (by rfl) (fun w hS => ?_) ?_
    rotate_left
    · go_simp <;> with_reducible rfl
    simp only [Act.put, List.setIfInBounds_toArray, List.set_cons_zero, List.set_cons_succ]
    refine chainL_take (v := ?_) (by simp only [List.getElem?_toArray, List.getElem?_cons_zero, List.getElem?_cons_succ]; rfl) (by rfl) (fun w hS => ?_) ?_
    rotate_left
    · go_simp <;> with_reducible rfl
    simp only [Act.put, List.setIfInBounds_toArray, List.set_cons_zero, List.set_cons_succ]
    refine chainL_take (v := ?_) (by simp only [List.getElem?_toArray, List.getElem?_cons_zero, List.getElem?_cons_succ]; rfl) (by rfl) (fun w hS => ?_) ?_
    rotate_left
    · go_simp <;> with_reducible rfl
    simp only [Act.put, List.setIfInBounds_toArray, List.set_cons_zero, List.set_cons_succ]
    refine chainL_take (v := ?_) (by simp only [List.getElem?_toArray, List.getElem?_cons_zero, List.getElem?_cons_succ]; rfl) (by rfl) (fun w hS => ?_) ?_
    rotate_left
    · obtain ⟨c0, c1, c2, c3, c4, c5, -⟩ := (HE.out.later hS).six; obtain ⟨d0, d1, d2, -⟩ := cells3 (HP0.out.later hS); go_simp <;> with_reducible rfl
    simp only [Act.put, List.setIfInBounds_toArray, List.set_cons_zero, List.set_cons_succ]
    refine chainL_alone (by simp only [List.getElem?_toArray, List.getElem?_cons_zero, List.getElem?_cons_succ]; rfl) ?_
    intro K hK
    obtain ⟨d0, d1, d2, -⟩ := cells3 HP0.out
    go_wp2
    refine hK.out _ _ (((Below.refl _ _).drewN 1).drewN 1) ?_
    clear hK K
    refine chainL_late (by simp only [List.getElem?_toArray, List.getElem?_cons_zero, List.getElem?_cons_succ]; rfl) ?_
    intro K hK
    go_wp2_with fail
    refine (scroll_any ((HE.out.later ((Below.refl _ _).drewN 1)).later ((Below.refl _ _).drewN 1)).grd hR1 hR2 hC1 hC2 ((HE.out.later ((Below.refl _ _).drewN 1)).later ((Below.refl _ _).drewN 1)).sp 1 p.f p.g p.b).mono ?_
    rintro x k1 ⟨rfl, L', hg, ht, hL⟩
    have HA := hide (At.first HB0.out (At.first (((Below.refl _ _).drewN 1).trans ((Below.refl _ _).drewN 1)) (((HE.out.later ((Below.refl _ _).drewN 1)).later ((Below.refl _ _).drewN 1)).trn hg ht hL (HE.out.ok.g.scroll _ _))))
    rw [show scrollG e.g C 1 ⟨p.f, p.g, p.b⟩ = scrollG e.g C 1 p from rfl, ← HF.out] at HA
    clear hg ht hL
    go_wp2
    refine hK.out _ _ ?_
    clear hK K
    refine chainL_nil ?_
    go_wp2
    exact bodyPost_ret (v := .tuple #[]) (by simp [results, Tryz.results99]) rfl ⟨rfl, _, HA.out⟩
  · have hq : ((e.g.row : Int) == (R : Int) - 1) = false := by simp; omega
    have HF := hide (feed_low HE.out.ok.g hl p)
    go_enter Tryz.func99, Tryz.ntmps99
    go_wp2
    rw [HW0.out]
    refine wp_region_chainL (fun w' => Below W0.heap.size W0 w') 11 [(0, 0), (0, 5), (0, 1), (0, 2), (0, 6), (0, 7), (0, 3), (0, 8), (1, 4), (1, 9), (1, 10), (3, 11)] (by kernel_rfl) (by kernel_rfl) (by kernel_rfl) (fun _ _ _ _ _ h => h) ?_ ?_
    · exact (Below.refl _ _).drewN 1
    refine chainL_take (v := ?_) (by simp only [List.getElem?_toArray, List.getElem?_cons_zero]; rfl) (by rfl) (fun w hS => ?_) ?_
    rotate_left
    · go_simp <;> with_reducible rfl
    simp only [Act.put, List.setIfInBounds_toArray, List.set_cons_zero, List.set_cons_succ]
    refine chainL_take (v := ?_) (by simp only [List.getElem?_toArray, List.getElem?_cons_zero, List.getElem?_cons_succ]; rfl) (by rfl) (fun w hS => ?_) ?_
    rotate_left
    · go_simp <;> with_reducible rfl
    simp only [Act.put, List.setIfInBounds_toArray, List.set_cons_zero, List.set_cons_succ]
    refine chainL_take (v := ?_) (by simp only [List.getElem?_toArray, List.getElem?_cons_zero, List.getElem?_cons_succ]; rfl) (by rfl) (fun w hS => ?_) ?_
    rotate_left
    · go_simp <;> with_reducible rfl
    simp only [Act.put, List.setIfInBounds_toArray, List.set_cons_zero, List.set_cons_succ]
    refine chainL_take (v := ?_) (by simp only [List.getElem?_toArray, List.getElem?_cons_zero, List.getElem?_cons_succ]; rfl) (by rfl) (fun w hS => ?_) ?_
    rotate_left
    · go_simp <;> with_reducible rfl
    simp only [Act.put, List.setIfInBounds_toArray, List.set_cons_zero, List.set_cons_succ]
    refine chainL_take (v := ?_) (by simp only [List.getElem?_toArray, List.getElem?_cons_zero, List.getElem?_cons_succ]; rfl) (by rfl) (fun w hS => ?_) ?_
    rotate_left
    · go_simp <;> with_reducible rfl
    simp only [Act.put, List.setIfInBounds_toArray, List.set_cons_zero, List.set_cons_succ]
    refine chainL_take (v := ?_) (by simp only [List.getElem?_toArray, List.getElem?_cons_zero, List.getElem?_cons_succ]; rfl) (by rfl) (fun w hS => ?_) ?_
    rotate_left
    · go_simp <;> with_reducible rfl
    simp only [Act.put, List.setIfInBounds_toArray, List.set_cons_zero, List.set_cons_succ]
    refine chainL_take (v := ?_) (by simp only [List.getElem?_toArray, List.getElem?_cons_zero, List.getElem?_cons_succ]; rfl) (by rfl) (fun w hS => ?_) ?_
    rotate_left
    · obtain ⟨c0, c1, c2, c3, c4, c5, -⟩ := (HE.out.later hS).six; go_simp <;> with_reducible rfl
    simp only [Act.put, List.setIfInBounds_toArray, List.set_cons_zero, List.set_cons_succ]
    refine chainL_take (v := ?_) (by simp only [List.getElem?_toArray, List.getElem?_cons_zero, List.getElem?_cons_succ]; rfl) (by rfl) (fun w hS => ?_) ?_
    rotate_left
    · obtain ⟨c0, c1, c2, c3, c4, c5, -⟩ := (HE.out.later hS).six; go_simp <;> with_reducible rfl
    simp only [Act.put, List.setIfInBounds_toArray, List.set_cons_zero, List.set_cons_succ]
    refine chainL_alone (by simp only [List.getElem?_toArray, List.getElem?_cons_zero, List.getElem?_cons_succ]; rfl) ?_
    intro K hK
    go_wp2_with fail
    refine (row_any (HE.out.later ((Below.refl _ _).drewN 1)).grd).mono ?_
    rintro x k0 ⟨rfl, rfl⟩
    go_wp2
    refine hK.out _ _ ((Below.refl _ _).drewN 1) ?_
    clear hK K
    refine chainL_alone (by simp only [List.getElem?_toArray, List.getElem?_cons_zero, List.getElem?_cons_succ]; rfl) ?_
    intro K hK
    go_wp2_with fail
    refine (rows_any (HE.out.later ((Below.refl _ _).drewN 1)).grd).mono ?_
    rintro x k0 ⟨rfl, rfl⟩
    go_wp2
    refine hK.out _ _ ((Below.refl _ _).drewN 1) ?_
    clear hK K
    refine chainL_alone (by simp only [List.getElem?_toArray, List.getElem?_cons_zero, List.getElem?_cons_succ]; rfl) ?_
    intro K hK
    go_wp2
    refine hK.out _ _ ((Below.refl _ _).drewN 1) ?_
    clear hK K
    refine chainL_late (by simp only [List.getElem?_toArray, List.getElem?_cons_zero, List.getElem?_cons_succ]; rfl) ?_
    intro K hK
    go_wp2
    refine hK.out _ _ ?_
    clear hK K
    refine chainL_nil ?_
    go_wp2_with fail
    refine (step_any (HE.out.later ((Below.refl _ _).drewN 1)) 1 0 (by omega) (by omega)).mono ?_
    rintro x k1 ⟨rfl, L1, ha⟩
    have HA := hide (At.first HB0.out (At.first ((Below.refl _ _).drewN 1) ha))
    rw [Int.add_zero, ← HF.out] at HA
    clear ha
    go_wp2
    refine bodyPost_end (v := .tuple #[]) (by simp [results, Tryz.results99]) rfl ⟨rfl, _, HA.out⟩
set_option maxHeartbeats 3000000 in
theorem sput_any (h : Emu w b L R C e) (c : Cel) (hc : CelB c) : Calls Tryz.prog 147 #[.pointer (some ⟨b.E, 0, none⟩), .agg #[.int .i32 c.r, .int .i32 c.m, .int .i32 c.n, .int .u8 (c.w : Int), .int .u8 (c.p.f : Int), .int .u8 (c.p.g : Int), .int .u8 (c.p.b : Int)]] w (DoneE b L R C { e with g := putG e.g (e.g.row : Int) (e.g.col : Int) c } w) := by
  obtain ⟨W0, hW0⟩ : ∃ W0, w.alloc (.cells #[.int .i32 c.r, .int .i32 c.m, .int .i32 c.n, .int .u8 (c.w : Int), .int .u8 (c.p.f : Int), .int .u8 (c.p.g : Int), .int .u8 (c.p.b : Int)] 73) = W0 := ⟨_, rfl⟩
  have HB0 : Hid (Below w.heap.size w W0) := by unfold Hid; rw [← hW0]; exact (Below.refl _ _).alloc (Nat.le_refl _) _
  have HP0 : Hid (Whole W0 w.heap.size 73 [.int .i32 c.r, .int .i32 c.m, .int .i32 c.n, .int .u8 (c.w : Int), .int .u8 (c.p.f : Int), .int .u8 (c.p.g : Int), .int .u8 (c.p.b : Int)]) := by unfold Hid; rw [← hW0]; exact Whole.new w 73 [.int .i32 c.r, .int .i32 c.m, .int .i32 c.n, .int .u8 (c.w : Int), .int .u8 (c.p.f : Int), .int .u8 (c.p.g : Int), .int .u8 (c.p.b : Int)]
  have HW0 := hide hW0
  clear hW0
  have h1 := h.later HB0.out
  clear h
  have hR1 := h1.ok.g.r1
  have hR2 := h1.ok.g.r2
  have hC1 := h1.ok.g.c1
  have hC2 := h1.ok.g.c2
  have hrow := h1.ok.g.row
  have hcol := h1.ok.g.col
  obtain ⟨c0, c1, c2, c3, c4, c5, lE⟩ := h1.six
  have HE := hide h1
  clear h1
  have hcw := hc.2.2.2
  have HCB := hide hc
  go_enter Tryz.func147, Tryz.ntmps147
  go_wp2
  rw [HW0.out]
  refine wp_region_chainL (fun w' => Below W0.heap.size W0 w') 15 [(0, 0), (0, 4), (0, 9), (0, 1), (0, 2), (0, 5), (0, 6), (0, 10), (0, 11), (0, 3), (0, 7), (0, 12), (0, 14), (1, 8), (1, 13), (3, 15)] (by kernel_rfl) (by kernel_rfl) (by kernel_rfl) (fun _ _ _ _ _ h => h) ?_ ?_
  · exact (Below.refl _ _).drewN 1
  refine chainL_take (v := ?_) (by simp only [List.getElem?_toArray, List.getElem?_cons_zero]; rfl) (by rfl) (fun w hS => ?_) ?_
  rotate_left
  · go_simp <;> with_reducible rfl
  simp only [Act.put, List.setIfInBounds_toArray, List.set_cons_zero, List.set_cons_succ]
  refine chainL_take (v := ?_) (by simp only [List.getElem?_toArray, List.getElem?_cons_zero, List.getElem?_cons_succ]; rfl) (by rfl) (fun w hS => ?_) ?_
  rotate_left
  · go_simp <;> with_reducible rfl
  simp only [Act.put, List.setIfInBounds_toArray, List.set_cons_zero, List.set_cons_succ]
  refine chainL_take (v := ?_) (by simp only [List.getElem?_toArray, List.getElem?_cons_zero, List.getElem?_cons_succ]; rfl) (by rfl) (fun w hS => ?_) ?_
  rotate_left
  · go_simp <;> with_reducible rfl
  simp only [Act.put, List.setIfInBounds_toArray, List.set_cons_zero, List.set_cons_succ]
  refine chainL_take (v := ?_) (by simp only [List.getElem?_toArray, List.getElem?_cons_zero, List.getElem?_cons_succ]; rfl) (by rfl) (fun w hS => ?_) ?_
  rotate_left
  · go_simp <;> with_reducible rfl
  simp only [Act.put, List.setIfInBounds_toArray, List.set_cons_zero, List.set_cons_succ]
  refine chainL_take (v := ?_) (by simp only [List.getElem?_toArray, List.getElem?_cons_zero, List.getElem?_cons_succ]; rfl) (by rfl) (fun w hS => ?_) ?_
  rotate_left
  · go_simp <;> with_reducible rfl
  simp only [Act.put, List.setIfInBounds_toArray, List.set_cons_zero, List.set_cons_succ]
  refine chainL_take (v := ?_) (by simp only [List.getElem?_toArray, List.getElem?_cons_zero, List.getElem?_cons_succ]; rfl) (by rfl) (fun w hS => ?_) ?_
  rotate_left
  · go_simp <;> with_reducible rfl
  simp only [Act.put, List.setIfInBounds_toArray, List.set_cons_zero, List.set_cons_succ]
  refine chainL_take (v := ?_) (by simp only [List.getElem?_toArray, List.getElem?_cons_zero, List.getElem?_cons_succ]; rfl) (by rfl) (fun w hS => ?_) ?_
  rotate_left
  · go_simp <;> with_reducible rfl
  simp only [Act.put, List.setIfInBounds_toArray, List.set_cons_zero, List.set_cons_succ]
  refine chainL_take (v := ?_) (by simp only [List.getElem?_toArray, List.getElem?_cons_zero, List.getElem?_cons_succ]; rfl) (by rfl) (fun w hS => ?_) ?_
  rotate_left
  · go_simp <;> with_reducible rfl
  simp only [Act.put, List.setIfInBounds_toArray, List.set_cons_zero, List.set_cons_succ]
  refine chainL_take (v := ?_) (by simp only [List.getElem?_toArray, List.getElem?_cons_zero, List.getElem?_cons_succ]; rfl) (by rfl) (fun w hS => ?_) ?_
  rotate_left
  · go_simp <;> with_reducible rfl
  simp only [Act.put, List.setIfInBounds_toArray, List.set_cons_zero, List.set_cons_succ]
  refine chainL_take (v := ?_) (by simp only [List.getElem?_toArray, List.getElem?_cons_zero, List.getElem?_cons_succ]; rfl) (by rfl) (fun w hS => ?_) ?_
  rotate_left
  · obtain ⟨c0, c1, c2, c3, c4, c5, -⟩ := (HE.out.later hS).six; obtain ⟨d0, d1, d2, d3, d4, d5, d6, -⟩ := cells7 (HP0.out.later hS); go_simp <;> with_reducible rfl
  simp only [Act.put, List.setIfInBounds_toArray, List.set_cons_zero, List.set_cons_succ]
  refine chainL_take (v := ?_) (by simp only [List.getElem?_toArray, List.getElem?_cons_zero, List.getElem?_cons_succ]; rfl) (by rfl) (fun w hS => ?_) ?_
  rotate_left
  · obtain ⟨c0, c1, c2, c3, c4, c5, -⟩ := (HE.out.later hS).six; obtain ⟨d0, d1, d2, d3, d4, d5, d6, -⟩ := cells7 (HP0.out.later hS); go_simp <;> with_reducible rfl
  simp only [Act.put, List.setIfInBounds_toArray, List.set_cons_zero, List.set_cons_succ]
  refine chainL_take (v := ?_) (by simp only [List.getElem?_toArray, List.getElem?_cons_zero, List.getElem?_cons_succ]; rfl) (by rfl) (fun w hS => ?_) ?_
  rotate_left
  · obtain ⟨c0, c1, c2, c3, c4, c5, -⟩ := (HE.out.later hS).six; obtain ⟨d0, d1, d2, d3, d4, d5, d6, -⟩ := cells7 (HP0.out.later hS); go_simp <;> with_reducible rfl
  simp only [Act.put, List.setIfInBounds_toArray, List.set_cons_zero, List.set_cons_succ]
  refine chainL_take (v := ?_) (by simp only [List.getElem?_toArray, List.getElem?_cons_zero, List.getElem?_cons_succ]; rfl) (by rfl) (fun w hS => ?_) ?_
  rotate_left
  · obtain ⟨c0, c1, c2, c3, c4, c5, -⟩ := (HE.out.later hS).six; obtain ⟨d0, d1, d2, d3, d4, d5, d6, -⟩ := cells7 (HP0.out.later hS); go_simp <;> with_reducible rfl
  simp only [Act.put, List.setIfInBounds_toArray, List.set_cons_zero, List.set_cons_succ]
  refine chainL_alone (by simp only [List.getElem?_toArray, List.getElem?_cons_zero, List.getElem?_cons_succ]; rfl) ?_
  intro K hK
  go_wp2_with fail
  refine (row_any (HE.out.later ((Below.refl _ _).drewN 1)).grd).mono ?_
  rintro x k0 ⟨rfl, rfl⟩
  go_wp2
  refine hK.out _ _ ((Below.refl _ _).drewN 1) ?_
  clear hK K
  refine chainL_alone (by simp only [List.getElem?_toArray, List.getElem?_cons_zero, List.getElem?_cons_succ]; rfl) ?_
  intro K hK
  go_wp2_with fail
  refine (col_any (HE.out.later ((Below.refl _ _).drewN 1)).grd).mono ?_
  rintro x k0 ⟨rfl, rfl⟩
  go_wp2
  refine hK.out _ _ ((Below.refl _ _).drewN 1) ?_
  clear hK K
  refine chainL_late (by simp only [List.getElem?_toArray, List.getElem?_cons_zero, List.getElem?_cons_succ]; rfl) ?_
  intro K hK
  go_wp2_with fail
  refine (gput_any (HE.out.later ((Below.refl _ _).drewN 1)).grd hC2 (HE.out.later ((Below.refl _ _).drewN 1)).sp (e.g.row : Int) (e.g.col : Int) c.r c.m c.n c.w c.p.f c.p.g c.p.b hcw (by omega)).mono ?_
  rintro x k1 ⟨rfl, hg, ht⟩
  have HA := hide (At.first HB0.out (At.first ((Below.refl _ _).drewN 1) ((HE.out.later ((Below.refl _ _).drewN 1)).trn0 hg ht (HE.out.ok.g.put _ _ _ HCB.out))))
  clear hg ht
  go_wp2
  refine hK.out _ _ ?_
  clear hK K
  refine chainL_nil ?_
  go_wp2
  refine bodyPost_end (v := .tuple #[]) (by simp [results, Tryz.results147]) rfl ⟨rfl, _, HA.out⟩
set_option maxHeartbeats 3000000 in
theorem smark_any (h : Emu w b L R C e) (c r : Int) (hr : R32 r) : Calls Tryz.prog 145 #[.pointer (some ⟨b.E, 0, none⟩), .int .i64 c, .int .i32 r] w (DoneE b L R C { e with g := markG e.g (e.g.row : Int) c r } w) := by
  have hR1 := h.ok.g.r1
  have hR2 := h.ok.g.r2
  have hC1 := h.ok.g.c1
  have hC2 := h.ok.g.c2
  have hrow := h.ok.g.row
  have hcol := h.ok.g.col
  obtain ⟨c0, c1, c2, c3, c4, c5, lE⟩ := h.six
  have HE := hide h
  clear h
  have HR := hide hr
  go_enter Tryz.func145, Tryz.ntmps145
  go_wp2
  refine wp_region_chainL (fun w' => Below w.heap.size w w') 11 [(0, 0), (0, 4), (0, 9), (0, 10), (0, 1), (0, 2), (0, 5), (0, 6), (0, 3), (1, 7), (1, 8), (3, 11)] (by kernel_rfl) (by kernel_rfl) (by kernel_rfl) (fun _ _ _ _ _ h => h) ?_ ?_
  · exact (Below.refl _ _).drewN 1
  refine chainL_take (v := ?_) (by simp only [List.getElem?_toArray, List.getElem?_cons_zero]; rfl) (by rfl) (fun w hS => ?_) ?_
  rotate_left
  · go_simp <;> with_reducible rfl
  simp only [Act.put, List.setIfInBounds_toArray, List.set_cons_zero, List.set_cons_succ]
  refine chainL_take (v := ?_) (by simp only [List.getElem?_toArray, List.getElem?_cons_zero, List.getElem?_cons_succ]; rfl) (by rfl) (fun w hS => ?_) ?_
  rotate_left
  · go_simp <;> with_reducible rfl
  simp only [Act.put, List.setIfInBounds_toArray, List.set_cons_zero, List.set_cons_succ]
  refine chainL_take (v := ?_) (by simp only [List.getElem?_toArray, List.getElem?_cons_zero, List.getElem?_cons_succ]; rfl) (by rfl) (fun w hS => ?_) ?_
  rotate_left
  · go_simp <;> with_reducible rfl
  simp only [Act.put, List.setIfInBounds_toArray, List.set_cons_zero, List.set_cons_succ]
  refine chainL_take (v := ?_) (by simp only [List.getElem?_toArray, List.getElem?_cons_zero, List.getElem?_cons_succ]; rfl) (by rfl) (fun w hS => ?_) ?_
  rotate_left
  · go_simp <;> with_reducible rfl
  simp only [Act.put, List.setIfInBounds_toArray, List.set_cons_zero, List.set_cons_succ]
  refine chainL_take (v := ?_) (by simp only [List.getElem?_toArray, List.getElem?_cons_zero, List.getElem?_cons_succ]; rfl) (by rfl) (fun w hS => ?_) ?_
  rotate_left
  · go_simp <;> with_reducible rfl
  simp only [Act.put, List.setIfInBounds_toArray, List.set_cons_zero, List.set_cons_succ]
  refine chainL_take (v := ?_) (by simp only [List.getElem?_toArray, List.getElem?_cons_zero, List.getElem?_cons_succ]; rfl) (by rfl) (fun w hS => ?_) ?_
  rotate_left
  · go_simp <;> with_reducible rfl
  simp only [Act.put, List.setIfInBounds_toArray, List.set_cons_zero, List.set_cons_succ]
  refine chainL_take (v := ?_) (by simp only [List.getElem?_toArray, List.getElem?_cons_zero, List.getElem?_cons_succ]; rfl) (by rfl) (fun w hS => ?_) ?_
  rotate_left
  · go_simp <;> with_reducible rfl
  simp only [Act.put, List.setIfInBounds_toArray, List.set_cons_zero, List.set_cons_succ]
  refine chainL_take (v := ?_) (by simp only [List.getElem?_toArray, List.getElem?_cons_zero, List.getElem?_cons_succ]; rfl) (by rfl) (fun w hS => ?_) ?_
  rotate_left
  · go_simp <;> with_reducible rfl
  simp only [Act.put, List.setIfInBounds_toArray, List.set_cons_zero, List.set_cons_succ]
  refine chainL_take (v := ?_) (by simp only [List.getElem?_toArray, List.getElem?_cons_zero, List.getElem?_cons_succ]; rfl) (by rfl) (fun w hS => ?_) ?_
  rotate_left
  · obtain ⟨c0, c1, c2, c3, c4, c5, -⟩ := (HE.out.later hS).six; go_simp <;> with_reducible rfl
  simp only [Act.put, List.setIfInBounds_toArray, List.set_cons_zero, List.set_cons_succ]
  refine chainL_alone (by simp only [List.getElem?_toArray, List.getElem?_cons_zero, List.getElem?_cons_succ]; rfl) ?_
  intro K hK
  go_wp2
  refine hK.out _ _ ((Below.refl _ _).drewN 1) ?_
  clear hK K
  refine chainL_alone (by simp only [List.getElem?_toArray, List.getElem?_cons_zero, List.getElem?_cons_succ]; rfl) ?_
  intro K hK
  go_wp2_with fail
  refine (row_any (HE.out.later ((Below.refl _ _).drewN 1)).grd).mono ?_
  rintro x k0 ⟨rfl, rfl⟩
  go_wp2
  refine hK.out _ _ ((Below.refl _ _).drewN 1) ?_
  clear hK K
  refine chainL_late (by simp only [List.getElem?_toArray, List.getElem?_cons_zero, List.getElem?_cons_succ]; rfl) ?_
  intro K hK
  go_wp2_with fail
  refine (gmark_any (HE.out.later ((Below.refl _ _).drewN 1)).grd hC2 (HE.out.later ((Below.refl _ _).drewN 1)).sp (e.g.row : Int) c r).mono ?_
  rintro x k1 ⟨rfl, hg, ht⟩
  have HA := hide (At.first ((Below.refl _ _).drewN 1) ((HE.out.later ((Below.refl _ _).drewN 1)).trn0 hg ht (HE.out.ok.g.mark _ _ _ HR.out)))
  clear hg ht
  go_wp2
  refine hK.out _ _ ?_
  clear hK K
  refine chainL_nil ?_
  go_wp2
  refine bodyPost_end (v := .tuple #[]) (by simp [results, Tryz.results145]) rfl ⟨rfl, _, HA.out⟩
/-- What erases, as a value: the screen and the pen lie in two new blocks. -/
theorem cols_fn (E : Nat) (p : Pn) (w : World) : Calls Tryz.prog 183 #[.pointer (some ⟨E, 0, none⟩), .agg #[.int .u8 (p.f : Int), .int .u8 (p.g : Int), .int .u8 (p.b : Int)]] w fun x w' => x = .returned (.func (.func 202) #[] #[.pointer (some ⟨w.heap.size, 0, none⟩), .pointer (some ⟨w.heap.size + 1, 0, none⟩)]) ∧ Whole w' w.heap.size 199 [.pointer (some ⟨E, 0, none⟩)] ∧ Whole w' (w.heap.size + 1) 65 [.int .u8 (p.f : Int), .int .u8 (p.g : Int), .int .u8 (p.b : Int)] ∧ Below w.heap.size w w' := by
  have HB : Hid (Below w.heap.size w ((w.alloc (.cells #[.pointer (some ⟨E, 0, none⟩)] 199)).alloc (.cells #[.int .u8 (p.f : Int), .int .u8 (p.g : Int), .int .u8 (p.b : Int)] 65))) := two_new w _ _ [.pointer (some ⟨E, 0, none⟩)] [.int .u8 (p.f : Int), .int .u8 (p.g : Int), .int .u8 (p.b : Int)]
  have HX : Hid (Whole ((w.alloc (.cells #[.pointer (some ⟨E, 0, none⟩)] 199)).alloc (.cells #[.int .u8 (p.f : Int), .int .u8 (p.g : Int), .int .u8 (p.b : Int)] 65)) w.heap.size 199 [.pointer (some ⟨E, 0, none⟩)]) := (Whole.new w 199 [.pointer (some ⟨E, 0, none⟩)]).alloc _
  have HY : Hid (Whole ((w.alloc (.cells #[.pointer (some ⟨E, 0, none⟩)] 199)).alloc (.cells #[.int .u8 (p.f : Int), .int .u8 (p.g : Int), .int .u8 (p.b : Int)] 65)) (w.heap.size + 1) 65 [.int .u8 (p.f : Int), .int .u8 (p.g : Int), .int .u8 (p.b : Int)]) := whole_snd w _ 65 [.int .u8 (p.f : Int), .int .u8 (p.g : Int), .int .u8 (p.b : Int)]
  go_enter Tryz.func183, Tryz.ntmps183
  go_wp2
  go_ret
  exact ⟨rfl, HX.out, HY.out, HB.out⟩
/-- What erases, as a value: the screen and the pen lie in two new blocks. -/
theorem rows_fn (E : Nat) (p : Pn) (w : World) : Calls Tryz.prog 181 #[.pointer (some ⟨E, 0, none⟩), .agg #[.int .u8 (p.f : Int), .int .u8 (p.g : Int), .int .u8 (p.b : Int)]] w fun x w' => x = .returned (.func (.func 201) #[] #[.pointer (some ⟨w.heap.size, 0, none⟩), .pointer (some ⟨w.heap.size + 1, 0, none⟩)]) ∧ Whole w' w.heap.size 199 [.pointer (some ⟨E, 0, none⟩)] ∧ Whole w' (w.heap.size + 1) 65 [.int .u8 (p.f : Int), .int .u8 (p.g : Int), .int .u8 (p.b : Int)] ∧ Below w.heap.size w w' := by
  have HB : Hid (Below w.heap.size w ((w.alloc (.cells #[.pointer (some ⟨E, 0, none⟩)] 199)).alloc (.cells #[.int .u8 (p.f : Int), .int .u8 (p.g : Int), .int .u8 (p.b : Int)] 65))) := two_new w _ _ [.pointer (some ⟨E, 0, none⟩)] [.int .u8 (p.f : Int), .int .u8 (p.g : Int), .int .u8 (p.b : Int)]
  have HX : Hid (Whole ((w.alloc (.cells #[.pointer (some ⟨E, 0, none⟩)] 199)).alloc (.cells #[.int .u8 (p.f : Int), .int .u8 (p.g : Int), .int .u8 (p.b : Int)] 65)) w.heap.size 199 [.pointer (some ⟨E, 0, none⟩)]) := (Whole.new w 199 [.pointer (some ⟨E, 0, none⟩)]).alloc _
  have HY : Hid (Whole ((w.alloc (.cells #[.pointer (some ⟨E, 0, none⟩)] 199)).alloc (.cells #[.int .u8 (p.f : Int), .int .u8 (p.g : Int), .int .u8 (p.b : Int)] 65)) (w.heap.size + 1) 65 [.int .u8 (p.f : Int), .int .u8 (p.g : Int), .int .u8 (p.b : Int)]) := whole_snd w _ 65 [.int .u8 (p.f : Int), .int .u8 (p.g : Int), .int .u8 (p.b : Int)]
  go_enter Tryz.func181, Tryz.ntmps181
  go_wp2
  go_ret
  exact ⟨rfl, HX.out, HY.out, HB.out⟩
set_option maxHeartbeats 3000000 in
theorem cols1_any (h : Emu w b L R C e) (x y : Int) {q q2 : Nat} (p : Pn) (hq : Whole w q 199 [.pointer (some ⟨b.E, 0, none⟩)]) (hq2 : Whole w q2 65 [.int .u8 (p.f : Int), .int .u8 (p.g : Int), .int .u8 (p.b : Int)]) : Calls Tryz.prog 202 #[.int .i64 x, .int .i64 y, .pointer (some ⟨q, 0, none⟩), .pointer (some ⟨q2, 0, none⟩)] w (DoneE b L R C { e with g := eraseG e.g (e.g.row : Int) x y p } w) := by
  have hR1 := h.ok.g.r1
  have hR2 := h.ok.g.r2
  have hC1 := h.ok.g.c1
  have hC2 := h.ok.g.c2
  have hrow := h.ok.g.row
  have hcol := h.ok.g.col
  obtain ⟨c0, c1, c2, c3, c4, c5, lE⟩ := h.six
  have HE := hide h
  have HX := hide hq
  have HY := hide hq2
  clear h
  go_enter Tryz.func202, Tryz.ntmps202
  go_wp2
  refine wp_region_chainL (fun w' => Below w.heap.size w w') 12 [(0, 9), (0, 10), (0, 0), (0, 1), (0, 2), (0, 3), (0, 4), (0, 5), (0, 6), (0, 7), (0, 11), (1, 8), (3, 12)] (by kernel_rfl) (by kernel_rfl) (by kernel_rfl) (fun _ _ _ _ _ h => h) ?_ ?_
  · exact (Below.refl _ _).drewN 1
  refine chainL_take (v := ?_) (by simp only [List.getElem?_toArray, List.getElem?_cons_zero, List.getElem?_cons_succ]; rfl) (by rfl) (fun w hS => ?_) ?_
  rotate_left
  · go_simp <;> with_reducible rfl
  simp only [Act.put, List.setIfInBounds_toArray, List.set_cons_zero, List.set_cons_succ]
  refine chainL_take (v := ?_) (by simp only [List.getElem?_toArray, List.getElem?_cons_zero, List.getElem?_cons_succ]; rfl) (by rfl) (fun w hS => ?_) ?_
  rotate_left
  · go_simp <;> with_reducible rfl
  simp only [Act.put, List.setIfInBounds_toArray, List.set_cons_zero, List.set_cons_succ]
  refine chainL_take (v := ?_) (by simp only [List.getElem?_toArray, List.getElem?_cons_zero]; rfl) (by rfl) (fun w hS => ?_) ?_
  rotate_left
  · obtain ⟨c0, c1, c2, c3, c4, c5, -⟩ := (HE.out.later hS).six; have x0 := (HX.out.later hS).cell 0; simp only [List.getElem?_cons_zero] at x0; obtain ⟨d0, d1, d2, -⟩ := cells3 (HY.out.later hS); go_simp <;> with_reducible rfl
  simp only [Act.put, List.setIfInBounds_toArray, List.set_cons_zero, List.set_cons_succ]
  refine chainL_take (v := ?_) (by simp only [List.getElem?_toArray, List.getElem?_cons_zero, List.getElem?_cons_succ]; rfl) (by rfl) (fun w hS => ?_) ?_
  rotate_left
  · go_simp <;> with_reducible rfl
  simp only [Act.put, List.setIfInBounds_toArray, List.set_cons_zero, List.set_cons_succ]
  refine chainL_take (v := ?_) (by simp only [List.getElem?_toArray, List.getElem?_cons_zero, List.getElem?_cons_succ]; rfl) (by rfl) (fun w hS => ?_) ?_
  rotate_left
  · go_simp <;> with_reducible rfl
  simp only [Act.put, List.setIfInBounds_toArray, List.set_cons_zero, List.set_cons_succ]
  refine chainL_take (v := ?_) (by simp only [List.getElem?_toArray, List.getElem?_cons_zero, List.getElem?_cons_succ]; rfl) (by rfl) (fun w hS => ?_) ?_
  rotate_left
  · obtain ⟨c0, c1, c2, c3, c4, c5, -⟩ := (HE.out.later hS).six; have x0 := (HX.out.later hS).cell 0; simp only [List.getElem?_cons_zero] at x0; obtain ⟨d0, d1, d2, -⟩ := cells3 (HY.out.later hS); go_simp <;> with_reducible rfl
  simp only [Act.put, List.setIfInBounds_toArray, List.set_cons_zero, List.set_cons_succ]
  refine chainL_take (v := ?_) (by simp only [List.getElem?_toArray, List.getElem?_cons_zero, List.getElem?_cons_succ]; rfl) (by rfl) (fun w hS => ?_) ?_
  rotate_left
  · obtain ⟨c0, c1, c2, c3, c4, c5, -⟩ := (HE.out.later hS).six; have x0 := (HX.out.later hS).cell 0; simp only [List.getElem?_cons_zero] at x0; obtain ⟨d0, d1, d2, -⟩ := cells3 (HY.out.later hS); go_simp <;> with_reducible rfl
  simp only [Act.put, List.setIfInBounds_toArray, List.set_cons_zero, List.set_cons_succ]
  refine chainL_take (v := ?_) (by simp only [List.getElem?_toArray, List.getElem?_cons_zero, List.getElem?_cons_succ]; rfl) (by rfl) (fun w hS => ?_) ?_
  rotate_left
  · go_simp <;> with_reducible rfl
  simp only [Act.put, List.setIfInBounds_toArray, List.set_cons_zero, List.set_cons_succ]
  refine chainL_take (v := ?_) (by simp only [List.getElem?_toArray, List.getElem?_cons_zero, List.getElem?_cons_succ]; rfl) (by rfl) (fun w hS => ?_) ?_
  rotate_left
  · go_simp <;> with_reducible rfl
  simp only [Act.put, List.setIfInBounds_toArray, List.set_cons_zero, List.set_cons_succ]
  refine chainL_take (v := ?_) (by simp only [List.getElem?_toArray, List.getElem?_cons_zero, List.getElem?_cons_succ]; rfl) (by rfl) (fun w hS => ?_) ?_
  rotate_left
  · obtain ⟨c0, c1, c2, c3, c4, c5, -⟩ := (HE.out.later hS).six; have x0 := (HX.out.later hS).cell 0; simp only [List.getElem?_cons_zero] at x0; obtain ⟨d0, d1, d2, -⟩ := cells3 (HY.out.later hS); go_simp <;> with_reducible rfl
  simp only [Act.put, List.setIfInBounds_toArray, List.set_cons_zero, List.set_cons_succ]
  refine chainL_take (v := ?_) (by simp only [List.getElem?_toArray, List.getElem?_cons_zero, List.getElem?_cons_succ]; rfl) (by rfl) (fun w hS => ?_) ?_
  rotate_left
  · obtain ⟨c0, c1, c2, c3, c4, c5, -⟩ := (HE.out.later hS).six; have x0 := (HX.out.later hS).cell 0; simp only [List.getElem?_cons_zero] at x0; obtain ⟨d0, d1, d2, -⟩ := cells3 (HY.out.later hS); go_simp <;> with_reducible rfl
  simp only [Act.put, List.setIfInBounds_toArray, List.set_cons_zero, List.set_cons_succ]
  refine chainL_alone (by simp only [List.getElem?_toArray, List.getElem?_cons_zero, List.getElem?_cons_succ]; rfl) ?_
  intro K hK
  go_wp2_with fail
  refine (row_any (HE.out.later ((Below.refl _ _).drewN 1)).grd).mono ?_
  rintro x k0 ⟨rfl, rfl⟩
  go_wp2
  refine hK.out _ _ ((Below.refl _ _).drewN 1) ?_
  clear hK K
  refine chainL_late (by simp only [List.getElem?_toArray, List.getElem?_cons_zero, List.getElem?_cons_succ]; rfl) ?_
  intro K hK
  go_wp2_with fail
  refine (gerase_any (HE.out.later ((Below.refl _ _).drewN 1)).grd hC2 (HE.out.later ((Below.refl _ _).drewN 1)).sp (e.g.row : Int) x y p.f p.g p.b).mono ?_
  rintro x2 k1 ⟨rfl, hg, ht⟩
  have HA := hide (At.first ((Below.refl _ _).drewN 1) ((HE.out.later ((Below.refl _ _).drewN 1)).trn0 hg ht (HE.out.ok.g.erase _ _ _ _)))
  clear hg ht
  go_wp2
  refine hK.out _ _ ?_
  clear hK K
  refine chainL_nil ?_
  go_wp2
  refine bodyPost_end (v := .tuple #[]) (by simp [results, Tryz.results202]) rfl ⟨rfl, _, HA.out⟩
end
end Go.Proofs.YtkijclgbpbhglaaGreatDoor
