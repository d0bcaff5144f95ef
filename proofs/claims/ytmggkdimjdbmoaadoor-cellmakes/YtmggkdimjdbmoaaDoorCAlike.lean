/-
  Contracts: are cells the same, but for the pen (both).
-/
import Derived.Test.YtmggkdimjdbmoaaDoorCRRight
namespace Go.Proofs.YtmggkdimjdbmoaaDoor
open Go.ChangeShapes Go.WideShapes Go.ChangeAt Go.RowKit
set_option linter.unusedVariables false

theorem alike_eq (r m n : Int) (d f g b : Nat) (r' m' n' : Int) (d' f' g' b' : Nat) : eqC r m n (d : Int) (f : Int) (g : Int) (b : Int) r' m' n' (d' : Int) (f : Int) (g : Int) (b : Int) = alikeC ⟨r, m, n, d, ⟨f, g, b⟩⟩ ⟨r', m', n', d', ⟨f', g', b'⟩⟩ := by
  rw [eqC_iff]; unfold alikeC; simp only [and_true]; congr 1; simp only [Int.ofNat_inj]
set_option maxRecDepth 100000 in
set_option maxHeartbeats 2000000 in
theorem alike_any (r m n : Int) (d f g b : Nat) (r' m' n' : Int) (d' f' g' b' : Nat) (w : World) : Calls Tryd.prog 17 #[.agg #[.int .i32 r, .int .i32 m, .int .i32 n, .int .u8 (d : Int), .int .u8 (f : Int), .int .u8 (g : Int), .int .u8 (b : Int)], .agg #[.int .i32 r', .int .i32 m', .int .i32 n', .int .u8 (d' : Int), .int .u8 (f' : Int), .int .u8 (g' : Int), .int .u8 (b' : Int)]] w (Said (alikeC ⟨r, m, n, d, ⟨f, g, b⟩⟩ ⟨r', m', n', d', ⟨f', g', b'⟩⟩) w) := by
  obtain ⟨W0, hW0⟩ : ∃ W0, (w.alloc (.cells #[.int .i32 r, .int .i32 m, .int .i32 n, .int .u8 (d : Int), .int .u8 (f : Int), .int .u8 (g : Int), .int .u8 (b : Int)] 26)).alloc (.cells #[.int .i32 r', .int .i32 m', .int .i32 n', .int .u8 (d' : Int), .int .u8 (f' : Int), .int .u8 (g' : Int), .int .u8 (b' : Int)] 26) = W0 := ⟨_, rfl⟩
  have HB : Hid (Below w.heap.size w W0) := by unfold Hid; rw [← hW0]; exact two_new w _ _ [.int .i32 r, .int .i32 m, .int .i32 n, .int .u8 (d : Int), .int .u8 (f : Int), .int .u8 (g : Int), .int .u8 (b : Int)] [.int .i32 r', .int .i32 m', .int .i32 n', .int .u8 (d' : Int), .int .u8 (f' : Int), .int .u8 (g' : Int), .int .u8 (b' : Int)]
  have HA : Hid (Whole W0 w.heap.size 26 [.int .i32 r, .int .i32 m, .int .i32 n, .int .u8 (d : Int), .int .u8 (f : Int), .int .u8 (g : Int), .int .u8 (b : Int)]) := by unfold Hid; rw [← hW0]; exact (Whole.new w 26 [.int .i32 r, .int .i32 m, .int .i32 n, .int .u8 (d : Int), .int .u8 (f : Int), .int .u8 (g : Int), .int .u8 (b : Int)]).alloc _
  have HC : Hid (Whole W0 (w.heap.size + 1) 26 [.int .i32 r', .int .i32 m', .int .i32 n', .int .u8 (d' : Int), .int .u8 (f' : Int), .int .u8 (g' : Int), .int .u8 (b' : Int)]) := by unfold Hid; rw [← hW0]; exact whole_snd w _ 26 [.int .i32 r', .int .i32 m', .int .i32 n', .int .u8 (d' : Int), .int .u8 (f' : Int), .int .u8 (g' : Int), .int .u8 (b' : Int)]
  have HW0 := hide hW0
  clear hW0
  have E := hide (alike_eq r m n d f g b r' m' n' d' f' g' b')
  have eC := eqlCell
  obtain ⟨c0, c1, c2, c3, c4, c5, c6, -⟩ := cells7 HA.out
  go_enter Tryd.func17, Tryd.ntmps17
  go_wp2
  rw [HW0.out]
  refine wp_region_chainH (fun w' => Below W0.heap.size W0 w') [(true, 2), (true, 0), (true, 1), (false, 3), (false, 4), (false, 5), (false, 6)] (by kernel_rfl) (by kernel_rfl) (by kernel_rfl) (fun _ _ _ _ _ h => h) ?_ ?_
  · exact (Below.refl _ _).drewN 1
  refine chainH_take (v := ?_) (by simp only [List.getElem?_toArray, List.getElem?_cons_zero, List.getElem?_cons_succ]; rfl) (by rfl) (fun w hS => ?_) ?_
  rotate_left
  · go_simp <;> with_reducible rfl
  simp only [Act.put, List.setIfInBounds_toArray, List.set_cons_zero, List.set_cons_succ]
  refine chainH_take (v := ?_) (by simp only [List.getElem?_toArray, List.getElem?_cons_zero]; rfl) (by rfl) (fun w hS => ?_) ?_
  rotate_left
  · obtain ⟨a0, a1, a2, a3, a4, a5, a6, -⟩ := cells7 (HA.out.later hS); go_simp <;> with_reducible rfl
  simp only [Act.put, List.setIfInBounds_toArray, List.set_cons_zero, List.set_cons_succ]
  refine chainH_take (v := ?_) (by simp only [List.getElem?_toArray, List.getElem?_cons_zero, List.getElem?_cons_succ]; rfl) (by rfl) (fun w hS => ?_) ?_
  rotate_left
  · obtain ⟨a0, a1, a2, a3, a4, a5, a6, -⟩ := cells7 (HC.out.later hS); go_simp <;> with_reducible rfl
  simp only [Act.put, List.setIfInBounds_toArray, List.set_cons_zero, List.set_cons_succ]
  refine chainH_alone (by simp only [List.getElem?_toArray, List.getElem?_cons_zero, List.getElem?_cons_succ]; rfl) ?_
  intro K hK
  go_wp2
  refine hK.out _ _ ((Below.refl _ _).drewN 1) ?_
  clear hK K
  refine chainH_alone (by simp only [List.getElem?_toArray, List.getElem?_cons_zero, List.getElem?_cons_succ]; rfl) ?_
  intro K hK
  go_wp2_with fail
  refine (with_any r' m' n' d' f' g' b' f g b _).mono ?_
  rintro e w2 ⟨rfl, hb⟩
  have Bw2 : Below W0.heap.size W0 w2 := ((Below.refl _ _).drewN 1).trans hb
  clear hb
  go_wp2
  refine hK.out _ _ Bw2 ?_
  clear hK K
  refine chainH_alone (by simp only [List.getElem?_toArray, List.getElem?_cons_zero, List.getElem?_cons_succ]; rfl) ?_
  intro K hK
  go_wp2
  refine hK.out _ _ Bw2 ?_
  clear hK K
  refine chainH_alone (by simp only [List.getElem?_toArray, List.getElem?_cons_zero, List.getElem?_cons_succ]; rfl) ?_
  intro K hK
  go_wp2
  refine hK.out _ _ Bw2 ?_
  clear hK K
  refine chainH_nil ?_
  go_wp2
  go_ret
  exact ⟨ret_bool E.out, HB.out.trans (Bw2.mono HB.out.size)⟩
set_option maxHeartbeats 2000000 in
theorem ralike_any (r m n : Int) (d f g b : Nat) (r' m' n' : Int) (d' f' g' b' : Nat) (w : World) : Calls Tryd.prog 20 #[.agg #[.int .i64 r, .int .i64 m, .int .i64 n, .int .u8 (d : Int), .int .u8 (f : Int), .int .u8 (g : Int), .int .u8 (b : Int)], .agg #[.int .i64 r', .int .i64 m', .int .i64 n', .int .u8 (d' : Int), .int .u8 (f' : Int), .int .u8 (g' : Int), .int .u8 (b' : Int)]] w (Said (alikeC ⟨r, m, n, d, ⟨f, g, b⟩⟩ ⟨r', m', n', d', ⟨f', g', b'⟩⟩) w) := by
  have eM := eqlM
  have E := hide (alike_eq r m n d f g b r' m' n' d' f' g' b')
  have HS : Hid (eqP (f : Int) (g : Int) (b : Int) (f : Int) (g : Int) (b : Int) = true) := eqP_self _ _ _
  cases h1 : r == r'
  · have E2 : Hid (alikeC ⟨r, m, n, d, ⟨f, g, b⟩⟩ ⟨r', m', n', d', ⟨f', g', b'⟩⟩ = false) := by unfold Hid; rw [← E.out]; unfold eqC; rw [h1]; rfl
    go_enter Tryd.func20, Tryd.ntmps20
    go_wp2
    go_ret
    exact ⟨ret_bool E2.out.symm, two_new w _ _ _ _⟩
  · cases h2 : eqM m n m' n'
    · have E2 : Hid (alikeC ⟨r, m, n, d, ⟨f, g, b⟩⟩ ⟨r', m', n', d', ⟨f', g', b'⟩⟩ = false) := by unfold Hid; rw [← E.out]; unfold eqC; rw [h1, h2]; rfl
      go_enter Tryd.func20, Tryd.ntmps20
      go_wp2
      go_ret
      exact ⟨ret_bool E2.out.symm, two_new w _ _ _ _⟩
    · have E2 : Hid (alikeC ⟨r, m, n, d, ⟨f, g, b⟩⟩ ⟨r', m', n', d', ⟨f', g', b'⟩⟩ = ((d : Int) == (d' : Int))) := by unfold Hid; rw [← E.out]; unfold eqC; rw [h1, h2, HS.out]; simp
      go_enter Tryd.func20, Tryd.ntmps20
      go_wp2
      go_ret
      exact ⟨ret_bool E2.out.symm, two_new w _ _ _ _⟩
end Go.Proofs.YtmggkdimjdbmoaaDoor
