/-
  Contracts: a grid of which each row is told by a closure; a new one, a copy (the program's).
  Contracts: room for so many rows' values (slices.Grow of nil), two rows of them joined (slices.Concat of two).
-/
import Derived.Test.YtkijclgbpbhglaaGreatDoorQa8
import Derived.Test.YtkijclgbpbhglaaGreatDoorQa9
import Derived.Lib.AppendZeros
namespace Go.Proofs.YtkijclgbpbhglaaGreatDoor
set_option maxRecDepth 100000
open Go.ChangeShapes Go.WideShapes Go.ChangeAt Go.RowKit
set_option linter.unusedVariables false

theorem whole_owned1 {w : World} {B : Nat} {e : TypeId} {g n : Nat} {xs : List Value} (h : w.ownsRow B e 1 (.slice (some ⟨g, 0, none⟩) n n) n xs) : Whole w g e xs := by
  rcases h.2 with ⟨h', _⟩ | ⟨g', cap', cur, h', hb, hg, hnc, hcm, hcs, htake⟩
  · cases h'
  · simp only [Value.slice.injEq, Option.some.injEq, Addr.mk.injEq, and_true, true_and] at h'
    obtain ⟨rfl, rfl⟩ := h'
    rw [List.take_of_length_le (Nat.le_of_eq (by rw [Array.length_toList, hcs]))] at htake
    subst htake
    exact hg
theorem zeros_rows (n : Nat) : (madeCells #[Value.slice none 0 0] n).toList = List.replicate n (.slice none 0 0) := by
  apply List.ext_getElem?
  intro j
  by_cases hj : j < n
  · simp only [madeCells, Array.toList_map, List.getElem?_map, Array.toList_range, List.getElem?_range hj, Option.map_some, List.getElem?_replicate, if_pos hj]
    simp [Nat.mod_one]
  · rw [List.getElem?_eq_none (by rw [Array.length_toList, size_madeCells]; omega), List.getElem?_eq_none (by simp; omega)]
/-- 'make([][]Cell, n)'. -/
theorem wpList_makeR {ops : Array Oper} {rest : List Oper} {o : Oper} {a : Act} {w : World} {Q : Exit → Act → World → Prop} (hg : o.guard = none) (x y : Operand) (hop : o.op = .makeSlice 109 x y)
    (n : Nat) (hx : a.eval x = .int .i64 (n : Int)) (hy : a.eval y = .int .i64 (n : Int)) (hn : n ≤ 1000000)
    (h : ∀ w', Whole w' w.heap.size 97 (List.replicate n (.slice none 0 0)) → Below w.heap.size w w' → wpList Tryz.prog ops Q rest (a.put o.dst (.slice (some ⟨w.heap.size, 0, none⟩) n n)) w') : wpList Tryz.prog ops Q (o :: rest) a w := by
  obtain ⟨i0, hi, hz0, hz1, hz2⟩ := info_parts elemRL.info
  have hb : 24 * n ≤ 24 * 1000000 := Nat.mul_le_mul (Nat.le_refl _) hn
  refine wpList_make_full w hg x y 109 hop w.heap.size 97 i0 _ 1 elemRL.under hi hz0 hz1 .i64 .i64 n n n hx hy rfl rfl (by rw [hz2]; omega) (by unfold maxLen; omega) (Nat.le_refl _) ?_
  intro w' ho hgr
  have hw := whole_owned1 ho
  rw [show (Value.slice none 0 0).cells = #[Value.slice none 0 0] from rfl, Nat.mul_one, zeros_rows] at hw
  exact h w' hw ⟨hgr.os, hgr.tape, hgr.output, hgr.size, fun i hi => hgr.block i hi (by simp)⟩
/-- The rows' values up to a row; the others are nil. -/
def rowsTo (M C R k : Nat) : List Value := rowsV M C (fun i => i) k ++ List.replicate (R - k) (.slice none 0 0)
theorem rowsTo_0 (M C R : Nat) : rowsTo M C R 0 = List.replicate R (.slice none 0 0) := by simp [rowsTo, rowsV]
theorem rowsTo_all (M C R : Nat) : rowsTo M C R R = rowsV M C (fun i => i) R ++ [] := by simp [rowsTo]
theorem rowsTo_len (M C R k : Nat) (h : k ≤ R) : (rowsTo M C R k).length = R := by unfold rowsTo; rw [List.length_append, rowsV_len, List.length_replicate]; omega
theorem rowsTo_next (M C R k : Nat) (h : k < R) : (rowsTo M C R k).set k (.slice (some ⟨M, k * C * 7, none⟩) C C) = rowsTo M C R (k + 1) := by
  apply List.ext_getElem?
  intro i
  rw [List.getElem?_set, rowsTo_len M C R k (by omega)]
  unfold rowsTo
  by_cases e : k = i
  · subst e
    rw [if_pos rfl, if_pos h, List.getElem?_append_left (by rw [rowsV_len]; omega), rowsV_get _ _ _ _ _ (by omega)]
    rfl
  · rw [if_neg e]
    by_cases h1 : i < k
    · rw [List.getElem?_append_left (by rw [rowsV_len]; omega), List.getElem?_append_left (by rw [rowsV_len]; omega), rowsV_get _ _ _ _ _ h1, rowsV_get _ _ _ _ _ (by omega)]
    · rw [List.getElem?_append_right (by rw [rowsV_len]; omega), List.getElem?_append_right (by rw [rowsV_len]; omega), rowsV_len, rowsV_len, List.getElem?_replicate, List.getElem?_replicate]
      by_cases h2 : i < R
      · rw [if_pos (by omega), if_pos (by omega)]
      · rw [if_neg (by omega), if_neg (by omega)]
theorem rowsTo_row (M C R k : Nat) (h : k < R) : (rowsTo M C R (k + 1))[k]? = some (.slice (some ⟨M, k * C * 7, none⟩) C C) := by
  unfold rowsTo
  rw [List.getElem?_append_left (by rw [rowsV_len]; omega), rowsV_get _ _ _ _ _ (by omega)]
  rfl
/-- What a closure tells of a row. -/
def Tells (C : Nat) (z : List Cel) (w : World) (e : Ending) (w' : World) : Prop := ∃ A c, e = .returned (.slice A C c) ∧ Below w.heap.size w w' ∧ Cels .i32 w' A z ∧ z.length = C
/-- A grid just made: all its blocks are new. -/
def NewGrd (R C : Nat) (g : Gd) (w : World) (G L M : Nat) (w' : World) : Prop := Grd w' G L M R C g ∧ Below w.heap.size w w' ∧ w.heap.size ≤ G ∧ w.heap.size ≤ L ∧ w.heap.size ≤ M
set_option maxHeartbeats 4000000 in
theorem made_any (R C : Nat) (hR : R ≤ 512) (hC1 : 1 ≤ C) (hC : C ≤ 512) (f : FuncId) (caps : Array Value) (F : Nat → List Cel) (w : World) (hfc : ∀ args w, (callFunc f args).run Tryz.prog w = .ok (.enter f args) w)
    (hf : ∀ (k : Nat) (wr : World), k < R → Below w.heap.size w wr → ∀ args, args = #[.int .i64 (k : Int)] ++ caps → Calls Tryz.prog f args wr (Tells C (F k) wr)) :
    Calls Tryz.prog 67 #[.int .i64 (R : Int), .int .i64 (C : Int), .func (.func f) #[] caps] w fun e w' => ∃ G L M, e = .returned (.pointer (some ⟨G, 0, none⟩)) ∧ NewGrd R C ⟨gtab R F, 0, 0⟩ w G L M w' := by
  obtain ⟨N, hN⟩ : ∃ N, R * C = N := ⟨_, rfl⟩
  have hN2 : N ≤ 262144 := by rw [← hN]; exact Nat.mul_le_mul hR hC
  have hmul : (R : Int) * (C : Int) = (N : Int) := by rw [← hN]; simp
  have HN := hide hN
  clear hN
  go_enter Tryz.func67, Tryz.ntmps67
  go_wp2_with (at_make; refine stopw ?_)
  unfold Hid
  refine wpList_makeR rfl _ _ rfl R rfl rfl (by omega) ?_
  intro w1 hw1 hb1
  obtain ⟨GB, hGB⟩ : ∃ GB, w1.heap.size = GB := ⟨_, rfl⟩
  obtain ⟨W1, hW1⟩ : ∃ W1, w1.alloc (.cells #[.int .i64 0, .int .i64 0, .slice (some ⟨w.heap.size, 0, none⟩) R R] 113) = W1 := ⟨_, rfl⟩
  have HL1 : Hid (Whole W1 w.heap.size 97 (List.replicate R (.slice none 0 0))) := by unfold Hid; rw [← hW1]; exact hw1.alloc _
  have HG1 : Hid (Whole W1 GB 113 [.int .i64 0, .int .i64 0, .slice (some ⟨w.heap.size, 0, none⟩) R R]) := by unfold Hid; rw [← hW1, ← hGB]; exact Whole.new w1 113 [.int .i64 0, .int .i64 0, .slice (some ⟨w.heap.size, 0, none⟩) R R]
  have HB1 : Hid (Below w.heap.size w W1) := by unfold Hid; rw [← hW1]; exact hb1.alloc hb1.size _
  have HGB : Hid (w.heap.size ≤ GB) := by unfold Hid; rw [← hGB]; exact hb1.size
  have HW1 := hide hW1
  have HGB1 := hide hGB
  clear hw1 hb1 hW1 hGB
  go_wp2_with (at_make; refine stopw ?_)
  unfold Hid
  rw [HW1.out, HGB1.out]
  refine wpList_makeL elemL rfl _ _ rfl N rfl rfl (by omega) (by omega) ?_
  intro W2 hw2 hb2
  obtain ⟨MB, hMB⟩ : ∃ MB, W1.heap.size = MB := ⟨_, rfl⟩
  rw [hMB] at hw2
  have HL2 := hide (HL1.out.later hb2)
  have HG2 := hide (HG1.out.later hb2)
  have HM2 := hide hw2
  have HB2 := hide (HB1.out.trans (hb2.mono HB1.out.size))
  have HMB : Hid (w.heap.size ≤ MB) := by unfold Hid; rw [← hMB]; exact HB1.out.size
  clear hw2 hb2 HL1 HG1
  obtain ⟨t0, t1, t2, lt⟩ := cells3 HG2.out
  have HMB1 := hide hMB
  go_wp2
  clear hMB t0 t1 t2 lt
  go_loopw [9, 10, 11, 25] (fun _ _ _ i wr => ∃ (k : Nat) (room : List Cel), k ≤ R ∧ i = .int .i64 k ∧ Whole wr w.heap.size 97 (rowsTo MB C R k) ∧ Whole wr GB 113 [.int .i64 0, .int .i64 0, .slice (some ⟨w.heap.size, 0, none⟩) R R] ∧ Whole wr MB 73 (flatC .i32 room) ∧ room.length = N ∧ (∀ q, q < k → partC room C q = F q) ∧ Below w.heap.size w wr) (fun _ _ _ i _ => R - (intOf i).toNat)
  case atStart => exact ⟨0, _, Nat.zero_le _, rfl, by rw [rowsTo_0]; exact HL2.out, HG2.out, HM2.out, by simp, fun q hq => by omega, HB2.out⟩
  case round =>
    obtain ⟨k, room, hk, rfl, hwL, hwG, hwM, hlen, hpart, hbel⟩ := hrel
    have HLk := hide hwL
    have HGk := hide hwG
    have HMk := hide hwM
    have HRL := hide hlen
    have HPk := hide hpart
    have HBk := hide hbel
    clear hwL hwG hwM hlen hpart hbel
    by_cases hlt : k < R
    · obtain ⟨K1, hK1⟩ : ∃ K1, k * C = K1 := ⟨_, rfl⟩
      have hm1 : (k : Int) * (C : Int) = (K1 : Int) := by rw [← hK1]; simp
      obtain ⟨K2, hK2⟩ : ∃ K2, K1 + C = K2 := ⟨_, rfl⟩
      have hm2 : ((k : Int) + 1) * (C : Int) = (K2 : Int) := by rw [← hK2, ← hK1, Int.add_mul]; simp
      have HK2 : Hid (K1 + C ≤ N) := by unfold Hid; rw [← hK1]; exact mul_room hlt HN.out.symm
      have hl1 : K1 ≤ K2 := by omega
      have hl2 : K2 ≤ N := by have := HK2.out; omega
      have HKC : Hid (K2 - K1 = C) := by unfold Hid; omega
      have HK1 := hide hK1
      obtain ⟨t0, t1, t2, lt⟩ := cells3 HGk.out
      have hz := HLk.out.frozen
      have lL := HLk.out.lt
      obtain ⟨x0, hx0⟩ : ∃ x, wr.cell? ⟨w.heap.size, k, none⟩ = some x := ⟨_, by rw [HLk.out.cell, List.getElem?_eq_getElem (by rw [rowsTo_len _ _ _ _ hk]; exact hlt)]⟩
      have hne : ¬ N = K1 := by omega
      have HKK := hide hK2
      clear hK1 hK2
      go_wp2
      refine wp_region_chainL (fun _ => True) 11 [(0, 0), (0, 4), (0, 5), (0, 6), (0, 7), (0, 8), (0, 1), (0, 2), (0, 9), (1, 3), (1, 10), (3, 11)] (by kernel_rfl) (by kernel_rfl) (by kernel_rfl) (fun _ _ _ _ _ h => h) ?_ ?_
      · exact trivial
      refine chainL_take (v := ?_) (by simp only [List.getElem?_toArray, List.getElem?_cons_zero]; rfl) (by rfl) (fun w hS => ?_) ?_
      rotate_left
      · go_simp <;> with_reducible rfl
      simp only [Act.put, List.setIfInBounds_toArray, List.set_cons_zero, List.set_cons_succ]
      refine chainL_take (v := ?_) (by simp only [List.getElem?_toArray, List.getElem?_cons_zero, List.getElem?_cons_succ]; rfl) (by rfl) (fun w hS => ?_) ?_
      rotate_left
      · go_simp <;> with_reducible rfl
      simp only [Act.put, List.setIfInBounds_toArray, List.set_cons_zero, List.set_cons_succ]
      refine chainL_take (v := ?_) (by simp only [List.getElem?_toArray, List.getElem?_cons_zero, List.getElem?_cons_succ]; rfl) (by rfl) (fun w hS => ?_) ?_
      rotate_left
      · go_simp <;> with_reducible rfl
      simp only [Act.put, List.setIfInBounds_toArray, List.set_cons_zero, List.set_cons_succ]
      refine chainL_take (v := ?_) (by simp only [List.getElem?_toArray, List.getElem?_cons_zero, List.getElem?_cons_succ]; rfl) (by rfl) (fun w hS => ?_) ?_
      rotate_left
      · go_simp <;> with_reducible rfl
      simp only [Act.put, List.setIfInBounds_toArray, List.set_cons_zero, List.set_cons_succ]
      refine chainL_take (v := ?_) (by simp only [List.getElem?_toArray, List.getElem?_cons_zero, List.getElem?_cons_succ]; rfl) (by rfl) (fun w hS => ?_) ?_
      rotate_left
      · go_simp <;> with_reducible rfl
      simp only [Act.put, List.setIfInBounds_toArray, List.set_cons_zero, List.set_cons_succ]
      refine chainL_take (v := ?_) (by simp only [List.getElem?_toArray, List.getElem?_cons_zero, List.getElem?_cons_succ]; rfl) (by rfl) (fun w hS => ?_) ?_
      rotate_left
      · go_simp <;> with_reducible rfl
      simp only [Act.put, List.setIfInBounds_toArray, List.set_cons_zero, List.set_cons_succ]
      refine chainL_take (v := ?_) (by simp only [List.getElem?_toArray, List.getElem?_cons_zero, List.getElem?_cons_succ]; rfl) (by rfl) (fun w hS => ?_) ?_
      rotate_left
      · go_simp <;> with_reducible rfl
      simp only [Act.put, List.setIfInBounds_toArray, List.set_cons_zero, List.set_cons_succ]
      refine chainL_take (v := ?_) (by simp only [List.getElem?_toArray, List.getElem?_cons_zero, List.getElem?_cons_succ]; rfl) (by rfl) (fun w hS => ?_) ?_
      rotate_left
      · go_simp <;> with_reducible rfl
      simp only [Act.put, List.setIfInBounds_toArray, List.set_cons_zero, List.set_cons_succ]
      refine chainL_take (v := .slice (some ⟨MB, K1 * 7, none⟩) C C) (by simp only [List.getElem?_toArray, List.getElem?_cons_zero, List.getElem?_cons_succ]; rfl) (by rfl) (fun w hS => ?_) ?_
      · go_simp
        rw [HKC.out]
        exact ⟨fun q => absurd q (by have := HKK.out; omega), rfl⟩
      simp only [Act.put, List.setIfInBounds_toArray, List.set_cons_zero, List.set_cons_succ]
      refine chainL_alone (by simp only [List.getElem?_toArray, List.getElem?_cons_zero, List.getElem?_cons_succ]; rfl) ?_
      intro K hK
      go_wp2
      refine hK.out _ _ (trivial) ?_
      clear hK K
      refine chainL_alone (by simp only [List.getElem?_toArray, List.getElem?_cons_zero, List.getElem?_cons_succ]; rfl) ?_
      intro K hK
      go_wp2
      refine hK.out _ _ (trivial) ?_
      clear hK K
      refine chainL_late (by simp only [List.getElem?_toArray, List.getElem?_cons_zero, List.getElem?_cons_succ]; rfl) ?_
      intro K hK
      go_wp2
      refine hK.out _ _ ?_
      clear hK K
      refine chainL_nil ?_
      obtain ⟨W3, hW3⟩ : ∃ W3, (wr.setCell ⟨w.heap.size, k, none⟩ (.slice (some ⟨MB, K1 * 7, none⟩) C C)).drew = W3 := ⟨_, rfl⟩
      have HL3 : Hid (Whole W3 w.heap.size 97 (rowsTo MB C R (k + 1))) := by unfold Hid; rw [← hW3, ← rowsTo_next _ _ _ _ hlt, HK1.out]; exact (HLk.out.put k _).drew
      have HG3 : Hid (Whole W3 GB 113 [.int .i64 0, .int .i64 0, .slice (some ⟨w.heap.size, 0, none⟩) R R]) := by unfold Hid; rw [← hW3]; exact (HGk.out.far (Only.put k _) (HGk.out.ne HLk.out (by decide))).drew
      have HM3 : Hid (Whole W3 MB 73 (flatC .i32 room)) := by unfold Hid; rw [← hW3]; exact (HMk.out.far (Only.put k _) (HMk.out.ne HLk.out (by decide))).drew
      have HB3 : Hid (Below w.heap.size w W3) := by unfold Hid; rw [← hW3]; exact (HBk.out.setCell (p := ⟨w.heap.size, k, none⟩) (Nat.le_refl _) _).drewN 1
      have HRW : Hid ((rowsTo MB C R (k + 1))[k]? = some (.slice (some ⟨MB, K1 * 7, none⟩) C C)) := by unfold Hid; rw [rowsTo_row _ _ _ _ hlt, HK1.out]
      rw [hW3]
      clear hW3 t0 t1 t2 lt hz lL hx0 HLk HGk HMk HBk
      go_wp2
      refine wp_region_chainL (fun w' => Below W3.heap.size W3 w') 10 [(0, 0), (0, 4), (0, 7), (0, 8), (0, 1), (0, 2), (0, 3), (0, 5), (0, 6), (1, 9), (3, 10)] (by kernel_rfl) (by kernel_rfl) (by kernel_rfl) (fun _ _ _ _ _ h => h) ?_ ?_
      · exact (Below.refl _ _).drewN 1
      refine chainL_take (v := ?_) (by simp only [List.getElem?_toArray, List.getElem?_cons_zero]; rfl) (by rfl) (fun w hS => ?_) ?_
      rotate_left
      · go_simp <;> with_reducible rfl
      simp only [Act.put, List.setIfInBounds_toArray, List.set_cons_zero, List.set_cons_succ]
      refine chainL_take (v := ?_) (by simp only [List.getElem?_toArray, List.getElem?_cons_zero, List.getElem?_cons_succ]; rfl) (by rfl) (fun w hS => ?_) ?_
      rotate_left
      · go_simp <;> with_reducible rfl
      simp only [Act.put, List.setIfInBounds_toArray, List.set_cons_zero, List.set_cons_succ]
      refine chainL_take (v := ?_) (by simp only [List.getElem?_toArray, List.getElem?_cons_zero, List.getElem?_cons_succ]; rfl) (by rfl) (fun w hS => ?_) ?_
      rotate_left
      · go_simp <;> with_reducible rfl
      simp only [Act.put, List.setIfInBounds_toArray, List.set_cons_zero, List.set_cons_succ]
      refine chainL_take (v := ?_) (by simp only [List.getElem?_toArray, List.getElem?_cons_zero, List.getElem?_cons_succ]; rfl) (by rfl) (fun w hS => ?_) ?_
      rotate_left
      · go_simp <;> with_reducible rfl
      simp only [Act.put, List.setIfInBounds_toArray, List.set_cons_zero, List.set_cons_succ]
      refine chainL_take (v := ?_) (by simp only [List.getElem?_toArray, List.getElem?_cons_zero, List.getElem?_cons_succ]; rfl) (by rfl) (fun w hS => ?_) ?_
      rotate_left
      · go_simp <;> with_reducible rfl
      simp only [Act.put, List.setIfInBounds_toArray, List.set_cons_zero, List.set_cons_succ]
      refine chainL_take (v := ?_) (by simp only [List.getElem?_toArray, List.getElem?_cons_zero, List.getElem?_cons_succ]; rfl) (by rfl) (fun w hS => ?_) ?_
      rotate_left
      · go_simp <;> with_reducible rfl
      simp only [Act.put, List.setIfInBounds_toArray, List.set_cons_zero, List.set_cons_succ]
      refine chainL_take (v := ?_) (by simp only [List.getElem?_toArray, List.getElem?_cons_zero, List.getElem?_cons_succ]; rfl) (by rfl) (fun w hS => ?_) ?_
      rotate_left
      · obtain ⟨t0, t1, t2, -⟩ := cells3 (HG3.out.later hS); go_simp <;> with_reducible rfl
      simp only [Act.put, List.setIfInBounds_toArray, List.set_cons_zero, List.set_cons_succ]
      refine chainL_take (v := ?_) (by simp only [List.getElem?_toArray, List.getElem?_cons_zero, List.getElem?_cons_succ]; rfl) (by rfl) (fun w hS => ?_) ?_
      rotate_left
      · go_simp <;> with_reducible rfl
      simp only [Act.put, List.setIfInBounds_toArray, List.set_cons_zero, List.set_cons_succ]
      refine chainL_take (v := ?_) (by simp only [List.getElem?_toArray, List.getElem?_cons_zero, List.getElem?_cons_succ]; rfl) (by rfl) (fun w hS => ?_) ?_
      rotate_left
      · have l0 := (HL3.out.later hS).cell k; rw [HRW.out] at l0; go_simp <;> with_reducible rfl
      simp only [Act.put, List.setIfInBounds_toArray, List.set_cons_zero, List.set_cons_succ]
      refine chainL_alone (by simp only [List.getElem?_toArray, List.getElem?_cons_zero, List.getElem?_cons_succ]; rfl) ?_
      intro K hK
      go_wp2_with fail
      refine (hf k W3.drew hlt ((HB3.out).drewN 1) _ rfl).mono ?_
      rintro e k1 ⟨A, c, rfl, hb, hc, hn⟩
      have Bk1 : Below W3.heap.size W3 k1 := ((Below.refl _ _).drewN 1).trans hb
      clear hb
      obtain ⟨k2, hrun, hw2, ho2⟩ := run_copyL elemL k1 3 MB K1 73 room (F k) A C C C c (HM3.out.later Bk1) hc hn (by rw [HRL.out]; exact HK2.out)
      rw [List.take_of_length_le (Nat.le_of_eq hn)] at hw2
      have HO2 := hide ho2
      have HW2 := hide hw2
      have HFn := hide hn
      have HBk1 := hide Bk1
      clear hw2 ho2 hc hn
      go_wp2
      refine hK.out _ _ (Bk1) ?_
      clear hK K
      refine chainL_late (by simp only [List.getElem?_toArray, List.getElem?_cons_zero, List.getElem?_cons_succ]; rfl) ?_
      intro K hK
      go_wp2
      refine hK.out _ _ ?_
      clear hK K
      refine chainL_nil ?_
      go_wp2
      go_roundw
      case rel =>
        refine ⟨k + 1, layC room K1 (F k), by omega, by go_num, ?_, ?_, HW2.out, ?_, ?_, ?_⟩
        · exact (HL3.out.later HBk1.out).far HO2.out (HL3.out.ne HM3.out (by decide))
        · exact (HG3.out.later HBk1.out).far HO2.out (HG3.out.ne HM3.out (by decide))
        · rw [lay_len _ _ _ (by rw [HFn.out, HRL.out]; exact HK2.out), HRL.out]
        · intro q hq
          rw [← HK1.out, part_lay room (F k) C q k R hlt (by omega) (by rw [HRL.out, HN.out]) HFn.out]
          split
          · rename_i e; rw [e]
          · rename_i e; exact HPk.out q (by omega)
        · exact HO2.out.below (HB3.out.trans (HBk1.out.mono HB3.out.size)) (Nat.le_trans HB3.out.size HBk1.out.size) HMB.out
      case measure => simp [intOf]; omega
    · obtain rfl : k = R := by omega
      go_wp2
      go_ret
      refine ⟨GB, _, MB, rfl, ⟨k, fun i => i, room, [], ?_⟩, HBk.out, HGB.out, Nat.le_refl _, HMB.out⟩
      refine ⟨HGk.out, by rw [← rowsTo_all]; exact HLk.out, HMk.out, by rw [HRL.out, HN.out], Nat.le_refl _, by unfold maxLen; omega, fun i hi => hi, fun i j _ _ h => h, gtab_eq fun i hi => (HPk.out i hi).symm⟩
end Go.Proofs.YtkijclgbpbhglaaGreatDoor

namespace Go.Proofs.YtkijclgbpbhglaaGreatDoor
set_option maxRecDepth 100000
open Go.ChangeShapes Go.WideShapes Go.ChangeAt Go.RowKit
set_option linter.unusedVariables false

/-- A row of rows' values of the call's own. -/
structure OwnV (B : Nat) (w wr : World) (v : Value) (xs : List Value) : Prop where
  own : wr.ownsRow B 97 1 v xs.length xs
  bel : Below B w wr
  le : B ≤ wr.heap.size
/-- These values lie there. -/
def Vals (w : World) (ad : Addr) (xs : List Value) : Prop := (∀ j u, xs[j]? = some u → w.cell? (ad.add j) = some u) ∧ ∀ u ∈ xs, u.oneCell' = true
theorem Vals.below {w w' : World} {ad : Addr} {xs : List Value} (h : Vals w ad xs) (hb : Below w.heap.size w w') : Vals w' ad xs := by
  refine ⟨fun j u hu => ?_, h.2⟩
  have := h.1 j u hu
  rw [hb.cell (World.block_lt_of_cell? w _ this), this]
theorem OwnV.later {B : Nat} {w wr w1 : World} {v : Value} {xs : List Value} (h : OwnV B w wr v xs) (hb : Below wr.heap.size wr w1) : OwnV B w w1 v xs := by
  refine ⟨⟨h.own.1, ?_⟩, h.bel.trans (hb.mono h.le), Nat.le_trans h.le hb.size⟩
  rcases h.own.2 with h0 | ⟨g, cap, cur, hv, hB, hh, h1⟩
  · exact .inl h0
  · refine .inr ⟨g, cap, cur, hv, hB, ?_, h1⟩
    rw [hb.block g (Array.getElem?_eq_some_iff.1 hh).1, hh]
theorem wpList_catV {ops : Array Oper} {rest : List Oper} {o : Oper} {a : Act} {Q : Exit → Act → World → Prop} {B : Nat} {w wr : World} {v : Value} {xs ns : List Value} {ad : Addr} {m c : Nat}
    (hgd : Region.wanted o (yielded ops a.tmps) = true) (s y : Operand) (ho : o.op = .call { callee := .builtin .append, args := #[s, y], argTypes := #[109, 109] })
    (hs : a.eval s = v) (hy : a.eval y = .slice (some ad) m c) (hown : OwnV B w wr v xs) (hns : Vals wr ad ns) (hn : ns.length = m) (hlen : xs.length + m ≤ 1000000)
    (h : ∀ v' w1, OwnV B w w1 v' (xs ++ ns) → wpList Tryz.prog ops Q rest (a.put o.dst v') w1) : wpList Tryz.prog ops Q (o :: rest) a wr := by
  subst hn
  obtain ⟨i0, hi, hz0, hz1, hz2⟩ := info_parts elemRL.info
  refine wpList_want hgd fun K hK => ?_
  refine wp_append_own _ s y 109 ho B 97 i0 (.slice none 0 0) 1 24 elemRL.under hi hz0 hz1 hz2 rfl (by decide) v xs.length xs hs hown.own ad ns.length c ns hy (by omega) hns.1 hns.2
    (by unfold maxLen; omega) (by omega) hown.le ?_
  intro v' w1 h1 hg _
  exact hK _ _ (h v' w1 ⟨by rw [List.length_append]; exact h1, hown.bel.grown hg hown.le (own_ge hown.own), Nat.le_trans hown.le hg.size⟩)
set_option maxHeartbeats 1000000 in
theorem grow_room (n : Nat) (h1 : 1 ≤ n) (h2 : n ≤ 1000) (w : World) : Calls Tryz.prog 198 #[.slice none 0 0, .int .i64 (n : Int)] w fun e w' => ∃ v, e = .returned v ∧ OwnV w.heap.size w w' v [] := by
  obtain ⟨i0, hi, hz0, hz1, hz2⟩ := info_parts elemRL.info
  have hrun := fun (ty : TypeId) => Lib.run_append_nil_zeros (P := Tryz.prog) w 109 3 ty 97 i0 (.slice none 0 0) .i64 .i64 elemRL.under Tryz.underlying3 hi hz0 n (by omega) (by omega) (by omega) (by rw [hz2]; omega)
  obtain ⟨cap, hcap⟩ : ∃ cap, grownCap w n 0 97 = cap := ⟨_, rfl⟩
  have hc1 : n ≤ cap := by rw [← hcap]; exact grownCap_ge _ _ _ _
  have hc2 : cap ≤ maxLen := by rw [← hcap]; exact grownCap_le_maxLen _ _ _ _ (by unfold maxLen; omega)
  rw [hcap] at hrun
  obtain ⟨W1, hW1⟩ : ∃ W1, w.drew.alloc (.cells (Builtin.zeroCells (Value.slice none 0 0).cells n ++ Builtin.zeroCells (Value.slice none 0 0).cells (cap - n)) 97) = W1 := ⟨_, rfl⟩
  have HO : Hid (OwnV w.heap.size w W1 (.slice (some ⟨w.heap.size, 0, none⟩) 0 cap) []) := by
    unfold Hid
    rw [← hW1]
    refine ⟨⟨rfl, .inr ⟨w.heap.size, cap, _, rfl, Nat.le_refl _, heap_alloc_new _ _, Nat.zero_le _, hc2, ?_, rfl⟩⟩, ((Below.refl _ _).drewN 1).alloc (Nat.le_refl _) _, by simp⟩
    have hzc : ∀ m, (Builtin.zeroCells (Value.slice none 0 0).cells m).size = m := by
      intro m
      simp [Builtin.zeroCells, Value.cells]
    rw [Array.size_append, hzc, hzc]
    omega
  rw [hW1] at hrun
  have HR := hide hrun
  unfold maxLen at hc2
  clear hrun hW1 hcap hi hz0 hz1 hz2
  go_enter Tryz.func198, Tryz.ntmps198
  go_wp2_with (at_builtin; refine stopw ?_)
  unfold Hid
  refine Lib.wpList_append_run _ rfl _ _ _ _ rfl _ _ rfl rfl _ _ (HR.out _) ?_
  go_wp2
  go_ret
  exact ⟨_, rfl, HO.out⟩
theorem OwnV.form {B : Nat} {w wr : World} {v : Value} {xs : List Value} (h : OwnV B w wr v xs) (hx : xs ≠ []) : ∃ g cap more, v = .slice (some ⟨g, 0, none⟩) xs.length cap ∧ B ≤ g ∧ Whole wr g 97 (xs ++ more) ∧ xs.length ≤ cap ∧ cap ≤ maxLen := by
  rcases h.own.2 with ⟨rfl, h0⟩ | ⟨g, cap, cur, rfl, hB, hh, hc, hm, hs, ht⟩
  · exact absurd (List.eq_nil_of_length_eq_zero h0) hx
  · refine ⟨g, cap, cur.toList.drop xs.length, rfl, hB, ?_, hc, hm⟩
    rw [Nat.mul_one] at ht
    have e := List.take_append_drop xs.length cur.toList
    rw [ht] at e
    unfold Whole
    rw [e]
    simpa using hh
/-- How many there are behind so many rounds, and which. -/
def sumF (nn : Nat → Nat) : Nat → Nat
  | 0 => 0
  | k + 1 => sumF nn k + nn k
def joinF (vs : Nat → List Value) : Nat → List Value
  | 0 => []
  | k + 1 => joinF vs k ++ vs k
theorem joinF_len (vs : Nat → List Value) (nn : Nat → Nat) (h : ∀ k, (vs k).length = nn k) (k : Nat) : (joinF vs k).length = sumF nn k := by
  induction k with
  | zero => rfl
  | succ k ih => unfold joinF sumF; rw [List.length_append, ih, h]
theorem sumF_mono (nn : Nat → Nat) (k : Nat) (h : k ≤ 2) : sumF nn k ≤ sumF nn 2 := by
  have e2 : sumF nn 2 = 0 + nn 0 + nn 1 := rfl
  match k, h with
  | 0, _ => exact Nat.zero_le _
  | 1, _ => have e1 : sumF nn 1 = 0 + nn 0 := rfl; omega
  | 2, _ => exact Nat.le_refl _
set_option maxHeartbeats 2000000 in
theorem concat_fn (X : Nat) (ad : Nat → Addr) (nn cc : Nat → Nat) (vs : Nat → List Value) (w : World) (lX : X < w.heap.size) (hX : ∀ k, k < 2 → w.cell? ⟨X, k, none⟩ = some (.slice (some (ad k)) (nn k) (cc k))) (hx : ∀ k, Vals w (ad k) (vs k)) (hn : ∀ k, (vs k).length = nn k) (h1 : 1 ≤ sumF nn 2) (h2 : sumF nn 2 ≤ 1000) :
    Calls Tryz.prog 177 #[.slice (some ⟨X, 0, none⟩) 2 2] w fun e w' => ∃ v, e = .returned v ∧ OwnV w.heap.size w w' v (joinF vs 2) := by
  have HX := hide hX
  have Hx := hide hx
  have HN := hide hn
  clear hx hX hn
  go_enter Tryz.func177, Tryz.ntmps177
  go_wp2
  go_loopw [3, 5, 11] (fun s _ i wr => ∃ k : Nat, k ≤ 2 ∧ i = .int .i64 k ∧ s = .int .i64 (sumF nn k : Int) ∧ w = wr) (fun _ _ i _ => 2 - (intOf i).toNat)
  case atStart => exact ⟨0, by omega, rfl, rfl, rfl⟩
  case round =>
    obtain ⟨k, hk, rfl, rfl, rfl⟩ := hrel
    by_cases hlt : k < 2
    · have b0 := HX.out k hlt
      have HS : Hid (sumF nn (k + 1) = sumF nn k + nn k) := rfl
      have hs1 : sumF nn k + nn k ≤ 1000 := by have := sumF_mono nn (k + 1) hlt; rw [HS.out] at this; omega
      go_wp2
      go_roundw
      case rel => exact ⟨k + 1, by omega, by go_num, by rw [HS.out]; go_num, by trivial⟩
      case measure => simp [intOf]; omega
    · obtain rfl : k = 2 := by omega
      obtain ⟨N, hN⟩ : ∃ N, sumF nn 2 = N := ⟨_, rfl⟩
      rw [hN] at h1 h2 ⊢
      have HNN := hide hN
      clear hN
      go_wp2_with fail
      refine (grow_room N h1 h2 w).mono ?_
      rintro e w1 ⟨v, rfl, hown⟩
      have HV := hide hown
      clear hown
      go_wp2
      go_loopw [6, 8, 27] (fun s _ i wr => ∃ k : Nat, k ≤ 2 ∧ i = .int .i64 k ∧ OwnV w.heap.size w wr s (joinF vs k)) (fun _ _ i _ => 2 - (intOf i).toNat)
      case atStart => exact ⟨0, by omega, rfl, HV.out⟩
      case round =>
        obtain ⟨k, hk, rfl, hown⟩ := hrel
        have HO := hide hown
        clear hown
        by_cases hlt2 : k < 2
        · have b0 : wr.cell? ⟨X, k, none⟩ = some (.slice (some (ad k)) (nn k) (cc k)) := by
            have := HX.out k hlt2
            rw [HO.out.bel.cell lX, this]
          have lX2 : X < wr.heap.size := Nat.lt_of_lt_of_le lX HO.out.bel.size
          have HL : Hid ((joinF vs k).length + nn k ≤ 1000000) := by
            unfold Hid
            rw [joinF_len vs nn HN.out k]
            have e : sumF nn (k + 1) = sumF nn k + nn k := rfl
            have := sumF_mono nn (k + 1) hlt2
            have := HNN.out
            omega
          go_wp2_with (at_builtin; refine stopw ?_)
          unfold Hid
          refine wpList_catV rfl _ _ rfl rfl rfl HO.out ((Hx.out k).below HO.out.bel) (HN.out k) HL.out ?_
          intro v' w2 hown
          have HO2 : Hid (OwnV w.heap.size w w2 v' (joinF vs (k + 1))) := hown
          clear hown b0 lX2
          go_wp2
          go_roundw
          case rel => exact ⟨k + 1, by omega, by go_num, HO2.out⟩
          case measure => simp [intOf]; omega
        · obtain rfl : k = 2 := by omega
          go_wp2
          go_ret
          exact ⟨_, rfl, HO.out⟩
theorem concat_any (X : Nat) (a1 a2 : Addr) (n1 n2 c1 c2 : Nat) (xs ys : List Value) (w : World) (hX : Whole w X 109 [.slice (some a1) n1 c1, .slice (some a2) n2 c2]) (hx : Vals w a1 xs) (hy : Vals w a2 ys) (hn1 : xs.length = n1) (hn2 : ys.length = n2) (h1 : 1 ≤ n1 + n2) (h2 : n1 + n2 ≤ 1000) :
    Calls Tryz.prog 177 #[.slice (some ⟨X, 0, none⟩) 2 2] w fun e w' => ∃ v, e = .returned v ∧ OwnV w.heap.size w w' v (xs ++ ys) := by
  have := concat_fn X (fun k => if k = 0 then a1 else a2) (fun k => if k = 0 then n1 else n2) (fun k => if k = 0 then c1 else c2) (fun k => if k = 0 then xs else ys) w hX.lt
    (fun k hk => by
      match k, hk with
      | 0, _ => exact hX.cell 0
      | 1, _ => exact hX.cell 1)
    (fun k => by by_cases q : k = 0 <;> simp [q, hx, hy]) (fun k => by by_cases q : k = 0 <;> simp [q, hn1, hn2]) (by simpa [sumF] using h1) (by simpa [sumF] using h2)
  simpa [joinF] using this
end Go.Proofs.YtkijclgbpbhglaaGreatDoor
