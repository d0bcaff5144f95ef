/-
  The walk of the law CellRight.
-/
import Derived.Test.YtmggkdimjdbmoaaDoorCLaw
namespace Go.Proofs.YtmggkdimjdbmoaaDoor
open Go.ChangeShapes Go.WideShapes Go.ChangeAt Go.RowKit
set_option linter.unusedVariables false

/-- The numbers of a cell that came in. -/
def CelOk (r m n : Int) (d f g b : Nat) : Prop := R32 r ∧ R32 m ∧ R32 n ∧ d < 256 ∧ f < 256 ∧ g < 256 ∧ b < 256
def PenOk (f g b : Nat) : Prop := f < 256 ∧ g < 256 ∧ b < 256
theorem runes_rn {r m n : Int} {d f g b : Nat} (h : CelOk r m n d f g b) : Rn (runesC ⟨r, m, n, d, ⟨f, g, b⟩⟩) := by
  obtain ⟨h1, h2, h3, -⟩ := h
  intro x hx
  unfold runesC at hx
  split at hx
  · simp only [List.mem_append] at hx
    rcases hx with (hx | hx) | hx
    · simp at hx; subst hx; exact h1
    · split at hx
      · cases hx
      · simp at hx; subst hx; exact h2
    · split at hx
      · cases hx
      · simp at hx; subst hx; exact h3
  · cases hx
set_option maxRecDepth 100000 in
set_option maxHeartbeats 4000000 in
theorem cellRight_walk (r m n : Int) (d f g b : Nat) (h1 : CelOk r m n d f g b) (r' m' n' : Int) (d' f' g' b' : Nat) (h2 : CelOk r' m' n' d' f' g' b') (w : World) (hS : Spans w) :
    Calls Tryd.prog 4 #[.agg #[.int .i32 r, .int .i32 m, .int .i32 n, .int .u8 (d : Int), .int .u8 (f : Int), .int .u8 (g : Int), .int .u8 (b : Int)], .agg #[.int .i32 r', .int .i32 m', .int .i32 n', .int .u8 (d' : Int), .int .u8 (f' : Int), .int .u8 (g' : Int), .int .u8 (b' : Int)]] w fun e w' => e = .returned (.bool true) ∧ Below w.heap.size w w' := by
  have HZ := hide (runes_rn h1)
  obtain ⟨hr, hm, hn, hd, -⟩ := h1
  obtain ⟨hr2, hm2, hn2, hd2, -⟩ := h2
  obtain ⟨W0, hW0⟩ : ∃ W0, (w.alloc (.cells #[.int .i32 r, .int .i32 m, .int .i32 n, .int .u8 (d : Int), .int .u8 (f : Int), .int .u8 (g : Int), .int .u8 (b : Int)] 26)).alloc (.cells #[.int .i32 r', .int .i32 m', .int .i32 n', .int .u8 (d' : Int), .int .u8 (f' : Int), .int .u8 (g' : Int), .int .u8 (b' : Int)] 26) = W0 := ⟨_, rfl⟩
  have HB : Hid (Below w.heap.size w W0) := by unfold Hid; rw [← hW0]; exact two_new w _ _ [.int .i32 r, .int .i32 m, .int .i32 n, .int .u8 (d : Int), .int .u8 (f : Int), .int .u8 (g : Int), .int .u8 (b : Int)] [.int .i32 r', .int .i32 m', .int .i32 n', .int .u8 (d' : Int), .int .u8 (f' : Int), .int .u8 (g' : Int), .int .u8 (b' : Int)]
  have HS : Hid (Spans W0) := by unfold Hid; rw [← hW0]; exact (hS.alloc _).alloc _
  have HA : Hid (Whole W0 w.heap.size 26 [.int .i32 r, .int .i32 m, .int .i32 n, .int .u8 (d : Int), .int .u8 (f : Int), .int .u8 (g : Int), .int .u8 (b : Int)]) := by unfold Hid; rw [← hW0]; exact (Whole.new w 26 [.int .i32 r, .int .i32 m, .int .i32 n, .int .u8 (d : Int), .int .u8 (f : Int), .int .u8 (g : Int), .int .u8 (b : Int)]).alloc _
  have HC : Hid (Whole W0 (w.heap.size + 1) 26 [.int .i32 r', .int .i32 m', .int .i32 n', .int .u8 (d' : Int), .int .u8 (f' : Int), .int .u8 (g' : Int), .int .u8 (b' : Int)]) := by unfold Hid; rw [← hW0]; exact whole_snd w _ 26 [.int .i32 r', .int .i32 m', .int .i32 n', .int .u8 (d' : Int), .int .u8 (f' : Int), .int .u8 (g' : Int), .int .u8 (b' : Int)]
  have HW0 := hide hW0
  clear hS hW0
  obtain ⟨x1, hx1⟩ : ∃ x1, rightC ⟨r, m, n, d, ⟨f, g, b⟩⟩ = x1 := ⟨_, rfl⟩
  obtain ⟨x2, hx2⟩ : ∃ x2, alikeC ⟨r, m, n, d, ⟨f, g, b⟩⟩ ⟨r', m', n', d', ⟨f', g', b'⟩⟩ = x2 := ⟨_, rfl⟩
  have HLN := hide (runes_len ⟨r, m, n, d, ⟨f, g, b⟩⟩)
  obtain ⟨L, hL⟩ : ∃ L, runesC ⟨r, m, n, d, ⟨f, g, b⟩⟩ = L := ⟨_, rfl⟩
  rw [hL] at HLN HZ
  have H1 := hide hx1
  have H2 := hide hx2
  have HL := hide hL
  have q1 : (x1 == x1) = true := by simp
  have q2 : (x2 == x2) = true := by simp
  clear hx1 hx2 hL
  go_enter Tryd.func4, Tryd.ntmps4
  go_wp2
  rw [HW0.out]
  refine wp_region_chainH (fun w' => Below W0.heap.size W0 w') [(false, 0), (false, 1), (true, 2), (true, 4), (false, 3), (false, 5), (false, 6), (false, 7), (false, 8), (false, 9), (true, 10), (true, 11), (true, 13), (true, 15), (false, 12), (false, 14), (false, 16), (false, 17), (false, 18), (false, 19), (false, 20), (true, 21), (true, 23), (false, 22), (false, 24), (false, 25), (false, 26), (false, 27), (false, 28)] (by kernel_rfl) (by kernel_rfl) (by kernel_rfl) (fun _ _ _ _ _ h => h) ?_ ?_
  · exact (Below.refl _ _).drewN 1
  refine chainH_alone (by simp only [List.getElem?_toArray, List.getElem?_cons_zero]; rfl) ?_
  intro K hK
  go_wp2_with fail
  refine (known_any _ (HS.out.drewN 1)).mono ?_
  rintro e k0 ⟨rfl, hb⟩
  have Bk0 : Below W0.heap.size W0 k0 := ((Below.refl _ _).drewN 1).trans hb
  clear hb
  go_wp2
  refine hK.out _ _ Bk0 ?_
  clear hK K
  refine chainH_alone (by simp only [List.getElem?_toArray, List.getElem?_cons_zero, List.getElem?_cons_succ]; rfl) ?_
  intro K hK
  go_wp2
  refine hK.out _ _ Bk0 ?_
  clear hK K
  refine chainH_take (v := ?_) (by simp only [List.getElem?_toArray, List.getElem?_cons_zero, List.getElem?_cons_succ]; rfl) (by rfl) (fun w hS => ?_) ?_
  rotate_left
  · obtain ⟨a0, a1, a2, a3, a4, a5, a6, -⟩ := cells7 (HA.out.later hS); go_simp <;> with_reducible rfl
  simp only [Act.put, List.setIfInBounds_toArray, List.set_cons_zero, List.set_cons_succ]
  refine chainH_take (v := ?_) (by simp only [List.getElem?_toArray, List.getElem?_cons_zero, List.getElem?_cons_succ]; rfl) (by rfl) (fun w hS => ?_) ?_
  rotate_left
  · obtain ⟨a0, a1, a2, a3, a4, a5, a6, -⟩ := cells7 (HA.out.later hS); go_simp <;> with_reducible rfl
  simp only [Act.put, List.setIfInBounds_toArray, List.set_cons_zero, List.set_cons_succ]
  refine chainH_alone (by simp only [List.getElem?_toArray, List.getElem?_cons_zero, List.getElem?_cons_succ]; rfl) ?_
  intro K hK
  go_wp2_with fail
  refine (cright_any r m n d f g b hd _ (HS.out.below Bk0)).mono ?_
  rintro e k1 ⟨rfl, hb⟩
  rw [H1.out]
  have Bk1 : Below W0.heap.size W0 k1 := Bk0.trans (hb.mono Bk0.size)
  clear hb
  go_wp2
  refine hK.out _ _ Bk1 ?_
  clear hK K
  refine chainH_alone (by simp only [List.getElem?_toArray, List.getElem?_cons_zero, List.getElem?_cons_succ]; rfl) ?_
  intro K hK
  go_wp2_with fail
  refine (lof_v r m n d f g b hr hm hn _).mono ?_
  rintro e k2 ⟨rfl, hb⟩
  have Bk2 : Below W0.heap.size W0 k2 := Bk1.trans (hb.mono Bk1.size)
  clear hb
  go_wp2
  refine hK.out _ _ Bk2 ?_
  clear hK K
  refine chainH_alone (by simp only [List.getElem?_toArray, List.getElem?_cons_zero, List.getElem?_cons_succ]; rfl) ?_
  intro K hK
  go_wp2_with fail
  refine (rcright_any r m n d f g b hd _).mono ?_
  rintro e k3 ⟨rfl, hb⟩
  rw [H1.out]
  have Bk3 : Below W0.heap.size W0 k3 := Bk2.trans (hb.mono Bk2.size)
  clear hb
  go_wp2
  refine hK.out _ _ Bk3 ?_
  clear hK K
  refine chainH_alone (by simp only [List.getElem?_toArray, List.getElem?_cons_zero, List.getElem?_cons_succ]; rfl) ?_
  intro K hK
  go_wp2
  refine hK.out _ _ Bk3 ?_
  clear hK K
  refine chainH_alone (by simp only [List.getElem?_toArray, List.getElem?_cons_zero, List.getElem?_cons_succ]; rfl) ?_
  intro K hK
  go_wp2
  refine hK.out _ _ Bk3 ?_
  clear hK K
  refine chainH_alone (by simp only [List.getElem?_toArray, List.getElem?_cons_zero, List.getElem?_cons_succ]; rfl) ?_
  intro K hK
  go_wp2
  refine hK.out _ _ Bk3 ?_
  clear hK K
  refine chainH_take (v := ?_) (by simp only [List.getElem?_toArray, List.getElem?_cons_zero, List.getElem?_cons_succ]; rfl) (by rfl) (fun w hS => ?_) ?_
  rotate_left
  · obtain ⟨a0, a1, a2, a3, a4, a5, a6, -⟩ := cells7 (HA.out.later hS); go_simp <;> with_reducible rfl
  simp only [Act.put, List.setIfInBounds_toArray, List.set_cons_zero, List.set_cons_succ]
  refine chainH_take (v := ?_) (by simp only [List.getElem?_toArray, List.getElem?_cons_zero, List.getElem?_cons_succ]; rfl) (by rfl) (fun w hS => ?_) ?_
  rotate_left
  · obtain ⟨a0, a1, a2, a3, a4, a5, a6, -⟩ := cells7 (HC.out.later hS); go_simp <;> with_reducible rfl
  simp only [Act.put, List.setIfInBounds_toArray, List.set_cons_zero, List.set_cons_succ]
  refine chainH_take (v := ?_) (by simp only [List.getElem?_toArray, List.getElem?_cons_zero, List.getElem?_cons_succ]; rfl) (by rfl) (fun w hS => ?_) ?_
  rotate_left
  · obtain ⟨a0, a1, a2, a3, a4, a5, a6, -⟩ := cells7 (HA.out.later hS); go_simp <;> with_reducible rfl
  simp only [Act.put, List.setIfInBounds_toArray, List.set_cons_zero, List.set_cons_succ]
  refine chainH_take (v := ?_) (by simp only [List.getElem?_toArray, List.getElem?_cons_zero, List.getElem?_cons_succ]; rfl) (by rfl) (fun w hS => ?_) ?_
  rotate_left
  · obtain ⟨a0, a1, a2, a3, a4, a5, a6, -⟩ := cells7 (HC.out.later hS); go_simp <;> with_reducible rfl
  simp only [Act.put, List.setIfInBounds_toArray, List.set_cons_zero, List.set_cons_succ]
  refine chainH_alone (by simp only [List.getElem?_toArray, List.getElem?_cons_zero, List.getElem?_cons_succ]; rfl) ?_
  intro K hK
  go_wp2_with fail
  refine (alike_any r m n d f g b r' m' n' d' f' g' b' _).mono ?_
  rintro e k4 ⟨rfl, hb⟩
  rw [H2.out]
  have Bk4 : Below W0.heap.size W0 k4 := Bk3.trans (hb.mono Bk3.size)
  clear hb
  go_wp2
  refine hK.out _ _ Bk4 ?_
  clear hK K
  refine chainH_alone (by simp only [List.getElem?_toArray, List.getElem?_cons_zero, List.getElem?_cons_succ]; rfl) ?_
  intro K hK
  go_wp2_with fail
  refine (lof_v r m n d f g b hr hm hn _).mono ?_
  rintro e k5 ⟨rfl, hb⟩
  have Bk5 : Below W0.heap.size W0 k5 := Bk4.trans (hb.mono Bk4.size)
  clear hb
  go_wp2
  refine hK.out _ _ Bk5 ?_
  clear hK K
  refine chainH_alone (by simp only [List.getElem?_toArray, List.getElem?_cons_zero, List.getElem?_cons_succ]; rfl) ?_
  intro K hK
  go_wp2_with fail
  refine (lof_v r' m' n' d' f' g' b' hr2 hm2 hn2 _).mono ?_
  rintro e k6 ⟨rfl, hb⟩
  have Bk6 : Below W0.heap.size W0 k6 := Bk5.trans (hb.mono Bk5.size)
  clear hb
  go_wp2
  refine hK.out _ _ Bk6 ?_
  clear hK K
  refine chainH_alone (by simp only [List.getElem?_toArray, List.getElem?_cons_zero, List.getElem?_cons_succ]; rfl) ?_
  intro K hK
  go_wp2_with fail
  refine (ralike_any r m n d f g b r' m' n' d' f' g' b' _).mono ?_
  rintro e k7 ⟨rfl, hb⟩
  rw [H2.out]
  have Bk7 : Below W0.heap.size W0 k7 := Bk6.trans (hb.mono Bk6.size)
  clear hb
  go_wp2
  refine hK.out _ _ Bk7 ?_
  clear hK K
  refine chainH_alone (by simp only [List.getElem?_toArray, List.getElem?_cons_zero, List.getElem?_cons_succ]; rfl) ?_
  intro K hK
  go_wp2
  refine hK.out _ _ Bk7 ?_
  clear hK K
  refine chainH_alone (by simp only [List.getElem?_toArray, List.getElem?_cons_zero, List.getElem?_cons_succ]; rfl) ?_
  intro K hK
  go_wp2
  refine hK.out _ _ Bk7 ?_
  clear hK K
  refine chainH_alone (by simp only [List.getElem?_toArray, List.getElem?_cons_zero, List.getElem?_cons_succ]; rfl) ?_
  intro K hK
  go_wp2
  refine hK.out _ _ Bk7 ?_
  clear hK K
  refine chainH_take (v := ?_) (by simp only [List.getElem?_toArray, List.getElem?_cons_zero, List.getElem?_cons_succ]; rfl) (by rfl) (fun w hS => ?_) ?_
  rotate_left
  · obtain ⟨a0, a1, a2, a3, a4, a5, a6, -⟩ := cells7 (HA.out.later hS); go_simp <;> with_reducible rfl
  simp only [Act.put, List.setIfInBounds_toArray, List.set_cons_zero, List.set_cons_succ]
  refine chainH_take (v := ?_) (by simp only [List.getElem?_toArray, List.getElem?_cons_zero, List.getElem?_cons_succ]; rfl) (by rfl) (fun w hS => ?_) ?_
  rotate_left
  · obtain ⟨a0, a1, a2, a3, a4, a5, a6, -⟩ := cells7 (HA.out.later hS); go_simp <;> with_reducible rfl
  simp only [Act.put, List.setIfInBounds_toArray, List.set_cons_zero, List.set_cons_succ]
  refine chainH_alone (by simp only [List.getElem?_toArray, List.getElem?_cons_zero, List.getElem?_cons_succ]; rfl) ?_
  intro K hK
  go_wp2_with fail
  refine (runes_any r m n d f g b _).mono ?_
  rintro e k8 ⟨v, rfl, ho⟩
  rw [HL.out] at ho
  have Bk8 : Below W0.heap.size W0 k8 := Bk7.trans (ho.bel.mono Bk7.size)
  obtain ⟨Ahi, cAhi, rfl, hi, nAhi, -, mAhi⟩ := ho.form2
  replace hi := hide hi
  clear ho
  go_wp2
  refine hK.out _ _ Bk8 ?_
  clear hK K
  refine chainH_alone (by simp only [List.getElem?_toArray, List.getElem?_cons_zero, List.getElem?_cons_succ]; rfl) ?_
  intro K hK
  go_wp2_with fail
  refine (lof_v r m n d f g b hr hm hn _).mono ?_
  rintro e k9 ⟨rfl, hb⟩
  have Bk9 : Below W0.heap.size W0 k9 := Bk8.trans (hb.mono Bk8.size)
  replace hi := hide (hi.out.below hb)
  clear hb
  go_wp2
  refine hK.out _ _ Bk9 ?_
  clear hK K
  refine chainH_alone (by simp only [List.getElem?_toArray, List.getElem?_cons_zero, List.getElem?_cons_succ]; rfl) ?_
  intro K hK
  go_wp2_with fail
  refine (rrunes_any r m n d f g b _).mono ?_
  rintro e k10 ⟨v, rfl, ho⟩
  rw [HL.out] at ho
  have Bk10 : Below W0.heap.size W0 k10 := Bk9.trans (ho.bel.mono Bk9.size)
  replace hi := hide (hi.out.below ho.bel)
  obtain ⟨Ahj, cAhj, rfl, hj, nAhj, -, mAhj⟩ := ho.form2
  replace hj := hide hj
  clear ho
  go_wp2
  refine hK.out _ _ Bk10 ?_
  clear hK K
  refine chainH_alone (by simp only [List.getElem?_toArray, List.getElem?_cons_zero, List.getElem?_cons_succ]; rfl) ?_
  intro K hK
  go_wp2_with fail
  refine (same_yes Ahi Ahj L.length cAhi cAhj L _ hi.out hj.out rfl (by have := HLN.out; omega) HZ.out).mono ?_
  rintro e k11 ⟨rfl, hb⟩
  have Bk11 : Below W0.heap.size W0 k11 := Bk10.trans (hb.mono Bk10.size)
  clear hb
  go_wp2
  refine hK.out _ _ Bk11 ?_
  clear hK K
  refine chainH_alone (by simp only [List.getElem?_toArray, List.getElem?_cons_zero, List.getElem?_cons_succ]; rfl) ?_
  intro K hK
  go_wp2
  refine hK.out _ _ Bk11 ?_
  clear hK K
  refine chainH_alone (by simp only [List.getElem?_toArray, List.getElem?_cons_zero, List.getElem?_cons_succ]; rfl) ?_
  intro K hK
  go_wp2
  refine hK.out _ _ Bk11 ?_
  clear hK K
  refine chainH_nil ?_
  go_wp2
  go_ret
  exact ⟨rfl, HB.out.trans (Bk11.mono HB.out.size)⟩
end Go.Proofs.YtmggkdimjdbmoaaDoor
