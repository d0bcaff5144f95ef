/-
  Contracts: the numbers of a parser (the program's), on: a digit, another number, those that are told.
-/
import Derived.Test.YtkijclgbpbhglaaGreatDoorQa15
namespace Go.Proofs.YtkijclgbpbhglaaGreatDoor
set_option maxRecDepth 100000
open Go.ChangeShapes Go.WideShapes Go.ChangeAt Go.RowKit
set_option linter.unusedVariables false

theorem wr64 (n : Int) (h : -9223372036854775808 ≤ n ∧ n ≤ 9223372036854775807) : IntKind.i64.wrap n = n := by rw [IntKind.wrap_i64]; omega
section
variable {w : World} {g : Nat} {p : Ps}
theorem Pr.dig (h : Pr w g p) (hn : p.n ≠ []) (d : Int) (h0 : 0 ≤ d) (h9 : d ≤ 9) : ∃ (i : Nat) (x : Int), i < 9 ∧ -1 ≤ x ∧ x ≤ 9999 ∧ (p.n = [-1] → x = -1) ∧ w.cell? ⟨g, 14, none⟩ = some (.int .i64 ((i : Int) + 1)) ∧ w.cell? ⟨g, 5 + i, none⟩ = some (.int .i64 x) ∧
    w.frozen? ⟨g, 5 + i, none⟩ = false ∧ Pr (w.setCell ⟨g, 5 + i, none⟩ (.int .i64 (digV x d))) g ⟨p.st, digN p.n d, p.h⟩ := by
  have hp := List.length_pos_iff.2 hn
  have hc := h.cnt
  obtain ⟨l, ha, hs⟩ := h
  have hl := ha.len
  have hx : l.getD (min p.n.length 9 - 1) 0 ∈ l := getD_mem l _ (by omega)
  have hr := ha.num _ hx
  refine ⟨min p.n.length 9 - 1, l.getD (min p.n.length 9 - 1) 0, by omega, hr.1, hr.2, ?_, ?_, ?_, hs.frozen _, ?_⟩
  · intro e
    have := ha.last hn (by rw [e]; decide)
    rw [e] at this ⊢
    exact this
  · rw [hc]; congr 2; omega
  · exact hs.cellR _ _ (tail_num hl _ _ _ (by omega))
  · refine ⟨_, ha.digit hn d h0 h9, ?_⟩
    have h2 := hs.tail (min p.n.length 9 - 1) (.int .i64 (digV (l.getD (min p.n.length 9 - 1) 0) d))
    rw [tail_setn hl _ _ _ (by omega)] at h2
    show Strm _ (tailV _ (min (digN p.n d).length 9) _) _ _ _
    have e : (digN p.n d).length = p.n.length := by unfold digN; rw [if_neg hn]; simp; omega
    rw [e]
    exact h2

set_option maxHeartbeats 4000000 in
theorem adigit_any (h : Pr w g p) (d : Int) (h0 : 0 ≤ d) (h9 : d ≤ 9) : Calls Tryz.prog 135 #[.pointer (some ⟨g, 5, none⟩), .int .i64 d] w fun e w' => e = .returned (.tuple #[]) ∧ Pr w' g ⟨p.st, digN p.n d, p.h⟩ ∧ Fr w.heap.size g w w' := by
  have d9 : d ≤ 9999 := by omega
  have hmd : min d 9999 = d := by omega
  by_cases hn : p.n = []
  · have c1 := h.cnt
    rw [hn] at c1
    have c2 : w.cell? ⟨g, 14, none⟩ = some (.int .i64 0) := c1
    have lt := h.lt
    have HP := hide h
    have HN := hide hn
    clear c1 h hn
    go_enter Tryz.func135, Tryz.ntmps135
    go_wp2_with fail
    refine (abegin_any HP.out).mono ?_
    rintro e w1 ⟨rfl, hp1, hf1⟩
    rw [HN.out] at hp1
    obtain ⟨i, x, hi, x0, x1, hx, f1, f2, f3, f4⟩ := hp1.dig (by simp) d h0 h9
    have f6 := hp1.lt
    obtain rfl : x = -1 := hx rfl
    have e : digV (-1) d = d := by unfold digV; simp; omega
    rw [e] at f4
    have e2 : digN ([] ++ [-1]) d = digN p.n d := by rw [HN.out]; exact dig_begin d h0 h9
    rw [e2] at f4
    have i0 : (0 : Int) ≤ (i : Int) := by omega
    have i9 : (i : Int) < 9 := by omega
    clear hp1 e e2 HP c2 lt x0 x1 hx
    go_wp2
    have a1 : w1.drew.cell? ⟨g, 14, none⟩ = some (.int .i64 ((i : Int) + 1)) := f1
    have a2 : w1.drew.cell? ⟨g, 5 + i, none⟩ = some (.int .i64 (-1)) := f2
    have HQ : Hid (w1.drew.drew.cell? ⟨g, 14, none⟩ = some (.int .i64 ((i : Int) + 1)) ∧ w1.drew.drew.cell? ⟨g, 5 + i, none⟩ = some (.int .i64 (-1)) ∧ w1.drew.drew.frozen? ⟨g, 5 + i, none⟩ = false ∧ Pr (w1.drew.drew.setCell ⟨g, 5 + i, none⟩ (.int .i64 (d))) g ⟨p.st, digN p.n d, p.h⟩ ∧ Fr w.heap.size g w (w1.drew.drew.setCell ⟨g, 5 + i, none⟩ (.int .i64 (d))) ∧ g < w1.drew.drew.heap.size) := ⟨f1, f2, f3, f4, ((hf1.drewN 1).drewN 1).trans (Fr.put _ _), f6⟩
    have l1 : g < w1.drew.heap.size := f6
    clear f1 f2 f3 f4 f6 hf1
    refine wp_region_chain [(true, [0]), (true, [1]), (true, [2]), (true, [3]), (true, [6]), (true, [7]), (false, [4, 5, 8, 9, 10, 11])] (by kernel_rfl) (by kernel_rfl) (by kernel_rfl) (fun _ _ _ _ _ h => h) ?_
    generalize w1.drew = w2 at *
    refine chain_take (v := ?_) (by simp only [pickOps, List.getElem?_toArray, List.getElem?_cons_zero]; rfl) (Or.inl ⟨rfl, fun w => ?_⟩) ?_
    rotate_left
    · go_simp <;> with_reducible rfl
    simp only [Act.put, List.setIfInBounds_toArray, List.set_cons_zero, List.set_cons_succ]
    refine chain_take (v := ?_) (by simp only [pickOps, List.getElem?_toArray, List.getElem?_cons_zero, List.getElem?_cons_succ]; rfl) (Or.inl ⟨rfl, fun w => ?_⟩) ?_
    rotate_left
    · go_simp <;> with_reducible rfl
    simp only [Act.put, List.setIfInBounds_toArray, List.set_cons_zero, List.set_cons_succ]
    refine chain_take (v := ?_) (by simp only [pickOps, List.getElem?_toArray, List.getElem?_cons_zero, List.getElem?_cons_succ]; rfl) (Or.inl ⟨rfl, fun w => ?_⟩) ?_
    rotate_left
    · go_simp <;> with_reducible rfl
    simp only [Act.put, List.setIfInBounds_toArray, List.set_cons_zero, List.set_cons_succ]
    refine chain_take (v := ?_) (by simp only [pickOps, List.getElem?_toArray, List.getElem?_cons_zero, List.getElem?_cons_succ]; rfl) (Or.inl ⟨rfl, fun w => ?_⟩) ?_
    rotate_left
    · go_simp <;> with_reducible rfl
    simp only [Act.put, List.setIfInBounds_toArray, List.set_cons_zero, List.set_cons_succ]
    refine chain_take (v := ?_) (by simp only [pickOps, List.getElem?_toArray, List.getElem?_cons_zero, List.getElem?_cons_succ]; rfl) (Or.inl ⟨rfl, fun w => ?_⟩) ?_
    rotate_left
    · go_simp <;> with_reducible rfl
    simp only [Act.put, List.setIfInBounds_toArray, List.set_cons_zero, List.set_cons_succ]
    refine chain_take (v := ?_) (by simp only [pickOps, List.getElem?_toArray, List.getElem?_cons_zero, List.getElem?_cons_succ]; rfl) (Or.inl ⟨rfl, fun w => ?_⟩) ?_
    rotate_left
    · go_simp <;> with_reducible rfl
    simp only [Act.put, List.setIfInBounds_toArray, List.set_cons_zero, List.set_cons_succ]
    refine chain_alone (by simp only [pickOps, List.getElem?_toArray, List.getElem?_cons_zero, List.getElem?_cons_succ]; rfl) ?_
    intro K hK
    go_wp2
    refine hK.out _ _ ?_
    clear hK K
    refine chain_nil ?_
    clear a1 a2 l1
    obtain ⟨b1, b2, b3, b4, b5, l2⟩ := HQ.out
    have H4 := hide b4
    have H5 := hide b5
    clear b4 b5 HQ
    go_wp2
    refine wp_region_chain [(true, [0]), (true, [1]), (true, [6]), (true, [8]), (true, [7]), (true, [9]), (true, [10]), (true, [2]), (true, [3]), (true, [11]), (true, [12]), (false, [4, 5, 13, 14])] (by kernel_rfl) (by kernel_rfl) (by kernel_rfl) (fun _ _ _ _ _ h => h) ?_
    generalize w2.drew = w3 at *
    refine chain_take (v := ?_) (by simp only [pickOps, List.getElem?_toArray, List.getElem?_cons_zero]; rfl) (Or.inl ⟨rfl, fun w => ?_⟩) ?_
    rotate_left
    · go_simp <;> with_reducible rfl
    simp only [Act.put, List.setIfInBounds_toArray, List.set_cons_zero, List.set_cons_succ]
    refine chain_take (v := ?_) (by simp only [pickOps, List.getElem?_toArray, List.getElem?_cons_zero, List.getElem?_cons_succ]; rfl) (Or.inl ⟨rfl, fun w => ?_⟩) ?_
    rotate_left
    · go_simp <;> with_reducible rfl
    simp only [Act.put, List.setIfInBounds_toArray, List.set_cons_zero, List.set_cons_succ]
    refine chain_take (v := ?_) (by simp only [pickOps, List.getElem?_toArray, List.getElem?_cons_zero, List.getElem?_cons_succ]; rfl) (Or.inl ⟨rfl, fun w => ?_⟩) ?_
    rotate_left
    · go_simp <;> with_reducible rfl
    simp only [Act.put, List.setIfInBounds_toArray, List.set_cons_zero, List.set_cons_succ]
    refine chain_take (v := ?_) (by simp only [pickOps, List.getElem?_toArray, List.getElem?_cons_zero, List.getElem?_cons_succ]; rfl) (Or.inl ⟨rfl, fun w => ?_⟩) ?_
    rotate_left
    · go_simp <;> with_reducible rfl
    simp only [Act.put, List.setIfInBounds_toArray, List.set_cons_zero, List.set_cons_succ]
    refine chain_take (v := .int .i64 (0)) (by simp only [pickOps, List.getElem?_toArray, List.getElem?_cons_zero, List.getElem?_cons_succ]; rfl) (Or.inl ⟨rfl, fun w => ?_⟩) ?_
    · go_simp
      all_goals exact wr64 _ (by omega)
    simp only [Act.put, List.setIfInBounds_toArray, List.set_cons_zero, List.set_cons_succ]
    refine chain_take (v := .int .i64 (d)) (by simp only [pickOps, List.getElem?_toArray, List.getElem?_cons_zero, List.getElem?_cons_succ]; rfl) (Or.inl ⟨rfl, fun w => ?_⟩) ?_
    · go_simp
      all_goals exact wr64 _ (by omega)
    simp only [Act.put, List.setIfInBounds_toArray, List.set_cons_zero, List.set_cons_succ]
    refine chain_take (v := ?_) (by simp only [pickOps, List.getElem?_toArray, List.getElem?_cons_zero, List.getElem?_cons_succ]; rfl) (Or.inl ⟨rfl, fun w => ?_⟩) ?_
    rotate_left
    · go_simp <;> with_reducible rfl
    simp only [Act.put, List.setIfInBounds_toArray, List.set_cons_zero, List.set_cons_succ]
    refine chain_take (v := ?_) (by simp only [pickOps, List.getElem?_toArray, List.getElem?_cons_zero, List.getElem?_cons_succ]; rfl) (Or.inl ⟨rfl, fun w => ?_⟩) ?_
    rotate_left
    · go_simp <;> with_reducible rfl
    simp only [Act.put, List.setIfInBounds_toArray, List.set_cons_zero, List.set_cons_succ]
    refine chain_take (v := ?_) (by simp only [pickOps, List.getElem?_toArray, List.getElem?_cons_zero, List.getElem?_cons_succ]; rfl) (Or.inl ⟨rfl, fun w => ?_⟩) ?_
    rotate_left
    · go_simp <;> with_reducible rfl
    simp only [Act.put, List.setIfInBounds_toArray, List.set_cons_zero, List.set_cons_succ]
    refine chain_take (v := ?_) (by simp only [pickOps, List.getElem?_toArray, List.getElem?_cons_zero, List.getElem?_cons_succ]; rfl) (Or.inl ⟨rfl, fun w => ?_⟩) ?_
    rotate_left
    · go_simp <;> with_reducible rfl
    simp only [Act.put, List.setIfInBounds_toArray, List.set_cons_zero, List.set_cons_succ]
    refine chain_take (v := ?_) (by simp only [pickOps, List.getElem?_toArray, List.getElem?_cons_zero, List.getElem?_cons_succ]; rfl) (Or.inl ⟨rfl, fun w => ?_⟩) ?_
    rotate_left
    · go_simp <;> with_reducible rfl
    simp only [Act.put, List.setIfInBounds_toArray, List.set_cons_zero, List.set_cons_succ]
    refine chain_alone (by simp only [pickOps, List.getElem?_toArray, List.getElem?_cons_zero, List.getElem?_cons_succ]; rfl) ?_
    intro K hK
    go_wp2
    refine hK.out _ _ ?_
    clear hK K
    refine chain_nil ?_
    exact bodyPost_end (v := .tuple #[]) (by simp [results, Tryz.results135]) rfl ⟨rfl, H4.out, H5.out⟩
  · have c1 := h.cnt
    have hp := List.length_pos_iff.2 hn
    obtain ⟨i, x, hi, x0, x1, -, f1, f2, f3, f4⟩ := h.dig hn d h0 h9
    have f6 := h.lt
    have i0 : (0 : Int) ≤ (i : Int) := by omega
    have i9 : (i : Int) < 9 := by omega
    have hz : ((i : Int) + 1 == 0) = false := by simp; omega
    clear c1 hp hn h
    rcases (by omega : x = -1 ∨ (0 ≤ x ∧ 10 * x + d ≤ 9999) ∨ (0 ≤ x ∧ 9999 < 10 * x + d)) with hx | ⟨hx, hy⟩ | ⟨hx, hy⟩
    · subst hx
      have e : digV (-1) d = d := by unfold digV; simp; omega
      rw [e] at f4
      clear e x0 x1
      go_enter Tryz.func135, Tryz.ntmps135
      go_wp2
      have a1 : w.drew.cell? ⟨g, 14, none⟩ = some (.int .i64 ((i : Int) + 1)) := f1
      have a2 : w.drew.cell? ⟨g, 5 + i, none⟩ = some (.int .i64 (-1)) := f2
      have HQ : Hid (w.drew.drew.cell? ⟨g, 14, none⟩ = some (.int .i64 ((i : Int) + 1)) ∧ w.drew.drew.cell? ⟨g, 5 + i, none⟩ = some (.int .i64 (-1)) ∧ w.drew.drew.frozen? ⟨g, 5 + i, none⟩ = false ∧ Pr (w.drew.drew.setCell ⟨g, 5 + i, none⟩ (.int .i64 (d))) g ⟨p.st, digN p.n d, p.h⟩ ∧ Fr w.heap.size g w (w.drew.drew.setCell ⟨g, 5 + i, none⟩ (.int .i64 (d))) ∧ g < w.drew.drew.heap.size) := ⟨f1, f2, f3, f4, ((Fr.refl.drewN 1).drewN 1).trans (Fr.put _ _), f6⟩
      have l1 : g < w.drew.heap.size := f6
      clear f1 f2 f3 f4 f6
      refine wp_region_chain [(true, [0]), (true, [1]), (true, [2]), (true, [3]), (true, [6]), (true, [7]), (false, [4, 5, 8, 9, 10, 11])] (by kernel_rfl) (by kernel_rfl) (by kernel_rfl) (fun _ _ _ _ _ h => h) ?_
      generalize w.drew = w2 at *
      refine chain_take (v := ?_) (by simp only [pickOps, List.getElem?_toArray, List.getElem?_cons_zero]; rfl) (Or.inl ⟨rfl, fun w => ?_⟩) ?_
      rotate_left
      · go_simp <;> with_reducible rfl
      simp only [Act.put, List.setIfInBounds_toArray, List.set_cons_zero, List.set_cons_succ]
      refine chain_take (v := ?_) (by simp only [pickOps, List.getElem?_toArray, List.getElem?_cons_zero, List.getElem?_cons_succ]; rfl) (Or.inl ⟨rfl, fun w => ?_⟩) ?_
      rotate_left
      · go_simp <;> with_reducible rfl
      simp only [Act.put, List.setIfInBounds_toArray, List.set_cons_zero, List.set_cons_succ]
      refine chain_take (v := ?_) (by simp only [pickOps, List.getElem?_toArray, List.getElem?_cons_zero, List.getElem?_cons_succ]; rfl) (Or.inl ⟨rfl, fun w => ?_⟩) ?_
      rotate_left
      · go_simp <;> with_reducible rfl
      simp only [Act.put, List.setIfInBounds_toArray, List.set_cons_zero, List.set_cons_succ]
      refine chain_take (v := ?_) (by simp only [pickOps, List.getElem?_toArray, List.getElem?_cons_zero, List.getElem?_cons_succ]; rfl) (Or.inl ⟨rfl, fun w => ?_⟩) ?_
      rotate_left
      · go_simp <;> with_reducible rfl
      simp only [Act.put, List.setIfInBounds_toArray, List.set_cons_zero, List.set_cons_succ]
      refine chain_take (v := ?_) (by simp only [pickOps, List.getElem?_toArray, List.getElem?_cons_zero, List.getElem?_cons_succ]; rfl) (Or.inl ⟨rfl, fun w => ?_⟩) ?_
      rotate_left
      · go_simp <;> with_reducible rfl
      simp only [Act.put, List.setIfInBounds_toArray, List.set_cons_zero, List.set_cons_succ]
      refine chain_take (v := ?_) (by simp only [pickOps, List.getElem?_toArray, List.getElem?_cons_zero, List.getElem?_cons_succ]; rfl) (Or.inl ⟨rfl, fun w => ?_⟩) ?_
      rotate_left
      · go_simp <;> with_reducible rfl
      simp only [Act.put, List.setIfInBounds_toArray, List.set_cons_zero, List.set_cons_succ]
      refine chain_alone (by simp only [pickOps, List.getElem?_toArray, List.getElem?_cons_zero, List.getElem?_cons_succ]; rfl) ?_
      intro K hK
      go_wp2
      refine hK.out _ _ ?_
      clear hK K
      refine chain_nil ?_
      clear a1 a2 l1
      obtain ⟨b1, b2, b3, b4, b5, l2⟩ := HQ.out
      have H4 := hide b4
      have H5 := hide b5
      clear b4 b5 HQ
      go_wp2
      refine wp_region_chain [(true, [0]), (true, [1]), (true, [6]), (true, [8]), (true, [7]), (true, [9]), (true, [10]), (true, [2]), (true, [3]), (true, [11]), (true, [12]), (false, [4, 5, 13, 14])] (by kernel_rfl) (by kernel_rfl) (by kernel_rfl) (fun _ _ _ _ _ h => h) ?_
      generalize w2.drew = w3 at *
      refine chain_take (v := ?_) (by simp only [pickOps, List.getElem?_toArray, List.getElem?_cons_zero]; rfl) (Or.inl ⟨rfl, fun w => ?_⟩) ?_
      rotate_left
      · go_simp <;> with_reducible rfl
      simp only [Act.put, List.setIfInBounds_toArray, List.set_cons_zero, List.set_cons_succ]
      refine chain_take (v := ?_) (by simp only [pickOps, List.getElem?_toArray, List.getElem?_cons_zero, List.getElem?_cons_succ]; rfl) (Or.inl ⟨rfl, fun w => ?_⟩) ?_
      rotate_left
      · go_simp <;> with_reducible rfl
      simp only [Act.put, List.setIfInBounds_toArray, List.set_cons_zero, List.set_cons_succ]
      refine chain_take (v := ?_) (by simp only [pickOps, List.getElem?_toArray, List.getElem?_cons_zero, List.getElem?_cons_succ]; rfl) (Or.inl ⟨rfl, fun w => ?_⟩) ?_
      rotate_left
      · go_simp <;> with_reducible rfl
      simp only [Act.put, List.setIfInBounds_toArray, List.set_cons_zero, List.set_cons_succ]
      refine chain_take (v := ?_) (by simp only [pickOps, List.getElem?_toArray, List.getElem?_cons_zero, List.getElem?_cons_succ]; rfl) (Or.inl ⟨rfl, fun w => ?_⟩) ?_
      rotate_left
      · go_simp <;> with_reducible rfl
      simp only [Act.put, List.setIfInBounds_toArray, List.set_cons_zero, List.set_cons_succ]
      refine chain_take (v := .int .i64 (0)) (by simp only [pickOps, List.getElem?_toArray, List.getElem?_cons_zero, List.getElem?_cons_succ]; rfl) (Or.inl ⟨rfl, fun w => ?_⟩) ?_
      · go_simp
        all_goals exact wr64 _ (by omega)
      simp only [Act.put, List.setIfInBounds_toArray, List.set_cons_zero, List.set_cons_succ]
      refine chain_take (v := .int .i64 (d)) (by simp only [pickOps, List.getElem?_toArray, List.getElem?_cons_zero, List.getElem?_cons_succ]; rfl) (Or.inl ⟨rfl, fun w => ?_⟩) ?_
      · go_simp
        all_goals exact wr64 _ (by omega)
      simp only [Act.put, List.setIfInBounds_toArray, List.set_cons_zero, List.set_cons_succ]
      refine chain_take (v := ?_) (by simp only [pickOps, List.getElem?_toArray, List.getElem?_cons_zero, List.getElem?_cons_succ]; rfl) (Or.inl ⟨rfl, fun w => ?_⟩) ?_
      rotate_left
      · go_simp <;> with_reducible rfl
      simp only [Act.put, List.setIfInBounds_toArray, List.set_cons_zero, List.set_cons_succ]
      refine chain_take (v := ?_) (by simp only [pickOps, List.getElem?_toArray, List.getElem?_cons_zero, List.getElem?_cons_succ]; rfl) (Or.inl ⟨rfl, fun w => ?_⟩) ?_
      rotate_left
      · go_simp <;> with_reducible rfl
      simp only [Act.put, List.setIfInBounds_toArray, List.set_cons_zero, List.set_cons_succ]
      refine chain_take (v := ?_) (by simp only [pickOps, List.getElem?_toArray, List.getElem?_cons_zero, List.getElem?_cons_succ]; rfl) (Or.inl ⟨rfl, fun w => ?_⟩) ?_
      rotate_left
      · go_simp <;> with_reducible rfl
      simp only [Act.put, List.setIfInBounds_toArray, List.set_cons_zero, List.set_cons_succ]
      refine chain_take (v := ?_) (by simp only [pickOps, List.getElem?_toArray, List.getElem?_cons_zero, List.getElem?_cons_succ]; rfl) (Or.inl ⟨rfl, fun w => ?_⟩) ?_
      rotate_left
      · go_simp <;> with_reducible rfl
      simp only [Act.put, List.setIfInBounds_toArray, List.set_cons_zero, List.set_cons_succ]
      refine chain_take (v := ?_) (by simp only [pickOps, List.getElem?_toArray, List.getElem?_cons_zero, List.getElem?_cons_succ]; rfl) (Or.inl ⟨rfl, fun w => ?_⟩) ?_
      rotate_left
      · go_simp <;> with_reducible rfl
      simp only [Act.put, List.setIfInBounds_toArray, List.set_cons_zero, List.set_cons_succ]
      refine chain_alone (by simp only [pickOps, List.getElem?_toArray, List.getElem?_cons_zero, List.getElem?_cons_succ]; rfl) ?_
      intro K hK
      go_wp2
      refine hK.out _ _ ?_
      clear hK K
      refine chain_nil ?_
      exact bodyPost_end (v := .tuple #[]) (by simp [results, Tryz.results135]) rfl ⟨rfl, H4.out, H5.out⟩
    · have e : digV x d = 10 * x + d := by unfold digV; rw [if_neg (by omega : ¬ x < 0), if_neg (by omega)]
      have hmx : max x 0 = x := by omega
      have hmn : min (10 * x + d) 9999 = 10 * x + d := by omega
      rw [e] at f4
      clear e
      go_enter Tryz.func135, Tryz.ntmps135
      go_wp2
      have a1 : w.drew.cell? ⟨g, 14, none⟩ = some (.int .i64 ((i : Int) + 1)) := f1
      have a2 : w.drew.cell? ⟨g, 5 + i, none⟩ = some (.int .i64 (x)) := f2
      have HQ : Hid (w.drew.drew.cell? ⟨g, 14, none⟩ = some (.int .i64 ((i : Int) + 1)) ∧ w.drew.drew.cell? ⟨g, 5 + i, none⟩ = some (.int .i64 (x)) ∧ w.drew.drew.frozen? ⟨g, 5 + i, none⟩ = false ∧ Pr (w.drew.drew.setCell ⟨g, 5 + i, none⟩ (.int .i64 (10 * x + d))) g ⟨p.st, digN p.n d, p.h⟩ ∧ Fr w.heap.size g w (w.drew.drew.setCell ⟨g, 5 + i, none⟩ (.int .i64 (10 * x + d))) ∧ g < w.drew.drew.heap.size) := ⟨f1, f2, f3, f4, ((Fr.refl.drewN 1).drewN 1).trans (Fr.put _ _), f6⟩
      have l1 : g < w.drew.heap.size := f6
      clear f1 f2 f3 f4 f6
      refine wp_region_chain [(true, [0]), (true, [1]), (true, [2]), (true, [3]), (true, [6]), (true, [7]), (false, [4, 5, 8, 9, 10, 11])] (by kernel_rfl) (by kernel_rfl) (by kernel_rfl) (fun _ _ _ _ _ h => h) ?_
      generalize w.drew = w2 at *
      refine chain_take (v := ?_) (by simp only [pickOps, List.getElem?_toArray, List.getElem?_cons_zero]; rfl) (Or.inl ⟨rfl, fun w => ?_⟩) ?_
      rotate_left
      · go_simp <;> with_reducible rfl
      simp only [Act.put, List.setIfInBounds_toArray, List.set_cons_zero, List.set_cons_succ]
      refine chain_take (v := ?_) (by simp only [pickOps, List.getElem?_toArray, List.getElem?_cons_zero, List.getElem?_cons_succ]; rfl) (Or.inl ⟨rfl, fun w => ?_⟩) ?_
      rotate_left
      · go_simp <;> with_reducible rfl
      simp only [Act.put, List.setIfInBounds_toArray, List.set_cons_zero, List.set_cons_succ]
      refine chain_take (v := ?_) (by simp only [pickOps, List.getElem?_toArray, List.getElem?_cons_zero, List.getElem?_cons_succ]; rfl) (Or.inl ⟨rfl, fun w => ?_⟩) ?_
      rotate_left
      · go_simp <;> with_reducible rfl
      simp only [Act.put, List.setIfInBounds_toArray, List.set_cons_zero, List.set_cons_succ]
      refine chain_take (v := ?_) (by simp only [pickOps, List.getElem?_toArray, List.getElem?_cons_zero, List.getElem?_cons_succ]; rfl) (Or.inl ⟨rfl, fun w => ?_⟩) ?_
      rotate_left
      · go_simp <;> with_reducible rfl
      simp only [Act.put, List.setIfInBounds_toArray, List.set_cons_zero, List.set_cons_succ]
      refine chain_take (v := ?_) (by simp only [pickOps, List.getElem?_toArray, List.getElem?_cons_zero, List.getElem?_cons_succ]; rfl) (Or.inl ⟨rfl, fun w => ?_⟩) ?_
      rotate_left
      · go_simp <;> with_reducible rfl
      simp only [Act.put, List.setIfInBounds_toArray, List.set_cons_zero, List.set_cons_succ]
      refine chain_take (v := ?_) (by simp only [pickOps, List.getElem?_toArray, List.getElem?_cons_zero, List.getElem?_cons_succ]; rfl) (Or.inl ⟨rfl, fun w => ?_⟩) ?_
      rotate_left
      · go_simp <;> with_reducible rfl
      simp only [Act.put, List.setIfInBounds_toArray, List.set_cons_zero, List.set_cons_succ]
      refine chain_alone (by simp only [pickOps, List.getElem?_toArray, List.getElem?_cons_zero, List.getElem?_cons_succ]; rfl) ?_
      intro K hK
      go_wp2
      refine hK.out _ _ ?_
      clear hK K
      refine chain_nil ?_
      clear a1 a2 l1
      obtain ⟨b1, b2, b3, b4, b5, l2⟩ := HQ.out
      have H4 := hide b4
      have H5 := hide b5
      clear b4 b5 HQ
      go_wp2
      refine wp_region_chain [(true, [0]), (true, [1]), (true, [6]), (true, [8]), (true, [7]), (true, [9]), (true, [10]), (true, [2]), (true, [3]), (true, [11]), (true, [12]), (false, [4, 5, 13, 14])] (by kernel_rfl) (by kernel_rfl) (by kernel_rfl) (fun _ _ _ _ _ h => h) ?_
      generalize w2.drew = w3 at *
      refine chain_take (v := ?_) (by simp only [pickOps, List.getElem?_toArray, List.getElem?_cons_zero]; rfl) (Or.inl ⟨rfl, fun w => ?_⟩) ?_
      rotate_left
      · go_simp <;> with_reducible rfl
      simp only [Act.put, List.setIfInBounds_toArray, List.set_cons_zero, List.set_cons_succ]
      refine chain_take (v := ?_) (by simp only [pickOps, List.getElem?_toArray, List.getElem?_cons_zero, List.getElem?_cons_succ]; rfl) (Or.inl ⟨rfl, fun w => ?_⟩) ?_
      rotate_left
      · go_simp <;> with_reducible rfl
      simp only [Act.put, List.setIfInBounds_toArray, List.set_cons_zero, List.set_cons_succ]
      refine chain_take (v := ?_) (by simp only [pickOps, List.getElem?_toArray, List.getElem?_cons_zero, List.getElem?_cons_succ]; rfl) (Or.inl ⟨rfl, fun w => ?_⟩) ?_
      rotate_left
      · go_simp <;> with_reducible rfl
      simp only [Act.put, List.setIfInBounds_toArray, List.set_cons_zero, List.set_cons_succ]
      refine chain_take (v := ?_) (by simp only [pickOps, List.getElem?_toArray, List.getElem?_cons_zero, List.getElem?_cons_succ]; rfl) (Or.inl ⟨rfl, fun w => ?_⟩) ?_
      rotate_left
      · go_simp <;> with_reducible rfl
      simp only [Act.put, List.setIfInBounds_toArray, List.set_cons_zero, List.set_cons_succ]
      refine chain_take (v := .int .i64 (10 * x)) (by simp only [pickOps, List.getElem?_toArray, List.getElem?_cons_zero, List.getElem?_cons_succ]; rfl) (Or.inl ⟨rfl, fun w => ?_⟩) ?_
      · go_simp
        all_goals exact wr64 _ (by omega)
      simp only [Act.put, List.setIfInBounds_toArray, List.set_cons_zero, List.set_cons_succ]
      refine chain_take (v := .int .i64 (10 * x + d)) (by simp only [pickOps, List.getElem?_toArray, List.getElem?_cons_zero, List.getElem?_cons_succ]; rfl) (Or.inl ⟨rfl, fun w => ?_⟩) ?_
      · go_simp
        all_goals exact wr64 _ (by omega)
      simp only [Act.put, List.setIfInBounds_toArray, List.set_cons_zero, List.set_cons_succ]
      refine chain_take (v := ?_) (by simp only [pickOps, List.getElem?_toArray, List.getElem?_cons_zero, List.getElem?_cons_succ]; rfl) (Or.inl ⟨rfl, fun w => ?_⟩) ?_
      rotate_left
      · go_simp <;> with_reducible rfl
      simp only [Act.put, List.setIfInBounds_toArray, List.set_cons_zero, List.set_cons_succ]
      refine chain_take (v := ?_) (by simp only [pickOps, List.getElem?_toArray, List.getElem?_cons_zero, List.getElem?_cons_succ]; rfl) (Or.inl ⟨rfl, fun w => ?_⟩) ?_
      rotate_left
      · go_simp <;> with_reducible rfl
      simp only [Act.put, List.setIfInBounds_toArray, List.set_cons_zero, List.set_cons_succ]
      refine chain_take (v := ?_) (by simp only [pickOps, List.getElem?_toArray, List.getElem?_cons_zero, List.getElem?_cons_succ]; rfl) (Or.inl ⟨rfl, fun w => ?_⟩) ?_
      rotate_left
      · go_simp <;> with_reducible rfl
      simp only [Act.put, List.setIfInBounds_toArray, List.set_cons_zero, List.set_cons_succ]
      refine chain_take (v := ?_) (by simp only [pickOps, List.getElem?_toArray, List.getElem?_cons_zero, List.getElem?_cons_succ]; rfl) (Or.inl ⟨rfl, fun w => ?_⟩) ?_
      rotate_left
      · go_simp <;> with_reducible rfl
      simp only [Act.put, List.setIfInBounds_toArray, List.set_cons_zero, List.set_cons_succ]
      refine chain_take (v := ?_) (by simp only [pickOps, List.getElem?_toArray, List.getElem?_cons_zero, List.getElem?_cons_succ]; rfl) (Or.inl ⟨rfl, fun w => ?_⟩) ?_
      rotate_left
      · go_simp <;> with_reducible rfl
      simp only [Act.put, List.setIfInBounds_toArray, List.set_cons_zero, List.set_cons_succ]
      refine chain_alone (by simp only [pickOps, List.getElem?_toArray, List.getElem?_cons_zero, List.getElem?_cons_succ]; rfl) ?_
      intro K hK
      go_wp2
      refine hK.out _ _ ?_
      clear hK K
      refine chain_nil ?_
      exact bodyPost_end (v := .tuple #[]) (by simp [results, Tryz.results135]) rfl ⟨rfl, H4.out, H5.out⟩
    · have e : digV x d = 9999 := by unfold digV; rw [if_neg (by omega : ¬ x < 0), if_pos (by omega)]
      have hmx : max x 0 = x := by omega
      have hmn : min (10 * x + d) 9999 = 9999 := by omega
      rw [e] at f4
      clear e
      go_enter Tryz.func135, Tryz.ntmps135
      go_wp2
      have a1 : w.drew.cell? ⟨g, 14, none⟩ = some (.int .i64 ((i : Int) + 1)) := f1
      have a2 : w.drew.cell? ⟨g, 5 + i, none⟩ = some (.int .i64 (x)) := f2
      have HQ : Hid (w.drew.drew.cell? ⟨g, 14, none⟩ = some (.int .i64 ((i : Int) + 1)) ∧ w.drew.drew.cell? ⟨g, 5 + i, none⟩ = some (.int .i64 (x)) ∧ w.drew.drew.frozen? ⟨g, 5 + i, none⟩ = false ∧ Pr (w.drew.drew.setCell ⟨g, 5 + i, none⟩ (.int .i64 (9999))) g ⟨p.st, digN p.n d, p.h⟩ ∧ Fr w.heap.size g w (w.drew.drew.setCell ⟨g, 5 + i, none⟩ (.int .i64 (9999))) ∧ g < w.drew.drew.heap.size) := ⟨f1, f2, f3, f4, ((Fr.refl.drewN 1).drewN 1).trans (Fr.put _ _), f6⟩
      have l1 : g < w.drew.heap.size := f6
      clear f1 f2 f3 f4 f6
      refine wp_region_chain [(true, [0]), (true, [1]), (true, [2]), (true, [3]), (true, [6]), (true, [7]), (false, [4, 5, 8, 9, 10, 11])] (by kernel_rfl) (by kernel_rfl) (by kernel_rfl) (fun _ _ _ _ _ h => h) ?_
      generalize w.drew = w2 at *
      refine chain_take (v := ?_) (by simp only [pickOps, List.getElem?_toArray, List.getElem?_cons_zero]; rfl) (Or.inl ⟨rfl, fun w => ?_⟩) ?_
      rotate_left
      · go_simp <;> with_reducible rfl
      simp only [Act.put, List.setIfInBounds_toArray, List.set_cons_zero, List.set_cons_succ]
      refine chain_take (v := ?_) (by simp only [pickOps, List.getElem?_toArray, List.getElem?_cons_zero, List.getElem?_cons_succ]; rfl) (Or.inl ⟨rfl, fun w => ?_⟩) ?_
      rotate_left
      · go_simp <;> with_reducible rfl
      simp only [Act.put, List.setIfInBounds_toArray, List.set_cons_zero, List.set_cons_succ]
      refine chain_take (v := ?_) (by simp only [pickOps, List.getElem?_toArray, List.getElem?_cons_zero, List.getElem?_cons_succ]; rfl) (Or.inl ⟨rfl, fun w => ?_⟩) ?_
      rotate_left
      · go_simp <;> with_reducible rfl
      simp only [Act.put, List.setIfInBounds_toArray, List.set_cons_zero, List.set_cons_succ]
      refine chain_take (v := ?_) (by simp only [pickOps, List.getElem?_toArray, List.getElem?_cons_zero, List.getElem?_cons_succ]; rfl) (Or.inl ⟨rfl, fun w => ?_⟩) ?_
      rotate_left
      · go_simp <;> with_reducible rfl
      simp only [Act.put, List.setIfInBounds_toArray, List.set_cons_zero, List.set_cons_succ]
      refine chain_take (v := ?_) (by simp only [pickOps, List.getElem?_toArray, List.getElem?_cons_zero, List.getElem?_cons_succ]; rfl) (Or.inl ⟨rfl, fun w => ?_⟩) ?_
      rotate_left
      · go_simp <;> with_reducible rfl
      simp only [Act.put, List.setIfInBounds_toArray, List.set_cons_zero, List.set_cons_succ]
      refine chain_take (v := ?_) (by simp only [pickOps, List.getElem?_toArray, List.getElem?_cons_zero, List.getElem?_cons_succ]; rfl) (Or.inl ⟨rfl, fun w => ?_⟩) ?_
      rotate_left
      · go_simp <;> with_reducible rfl
      simp only [Act.put, List.setIfInBounds_toArray, List.set_cons_zero, List.set_cons_succ]
      refine chain_alone (by simp only [pickOps, List.getElem?_toArray, List.getElem?_cons_zero, List.getElem?_cons_succ]; rfl) ?_
      intro K hK
      go_wp2
      refine hK.out _ _ ?_
      clear hK K
      refine chain_nil ?_
      clear a1 a2 l1
      obtain ⟨b1, b2, b3, b4, b5, l2⟩ := HQ.out
      have H4 := hide b4
      have H5 := hide b5
      clear b4 b5 HQ
      go_wp2
      refine wp_region_chain [(true, [0]), (true, [1]), (true, [6]), (true, [8]), (true, [7]), (true, [9]), (true, [10]), (true, [2]), (true, [3]), (true, [11]), (true, [12]), (false, [4, 5, 13, 14])] (by kernel_rfl) (by kernel_rfl) (by kernel_rfl) (fun _ _ _ _ _ h => h) ?_
      generalize w2.drew = w3 at *
      refine chain_take (v := ?_) (by simp only [pickOps, List.getElem?_toArray, List.getElem?_cons_zero]; rfl) (Or.inl ⟨rfl, fun w => ?_⟩) ?_
      rotate_left
      · go_simp <;> with_reducible rfl
      simp only [Act.put, List.setIfInBounds_toArray, List.set_cons_zero, List.set_cons_succ]
      refine chain_take (v := ?_) (by simp only [pickOps, List.getElem?_toArray, List.getElem?_cons_zero, List.getElem?_cons_succ]; rfl) (Or.inl ⟨rfl, fun w => ?_⟩) ?_
      rotate_left
      · go_simp <;> with_reducible rfl
      simp only [Act.put, List.setIfInBounds_toArray, List.set_cons_zero, List.set_cons_succ]
      refine chain_take (v := ?_) (by simp only [pickOps, List.getElem?_toArray, List.getElem?_cons_zero, List.getElem?_cons_succ]; rfl) (Or.inl ⟨rfl, fun w => ?_⟩) ?_
      rotate_left
      · go_simp <;> with_reducible rfl
      simp only [Act.put, List.setIfInBounds_toArray, List.set_cons_zero, List.set_cons_succ]
      refine chain_take (v := ?_) (by simp only [pickOps, List.getElem?_toArray, List.getElem?_cons_zero, List.getElem?_cons_succ]; rfl) (Or.inl ⟨rfl, fun w => ?_⟩) ?_
      rotate_left
      · go_simp <;> with_reducible rfl
      simp only [Act.put, List.setIfInBounds_toArray, List.set_cons_zero, List.set_cons_succ]
      refine chain_take (v := .int .i64 (10 * x)) (by simp only [pickOps, List.getElem?_toArray, List.getElem?_cons_zero, List.getElem?_cons_succ]; rfl) (Or.inl ⟨rfl, fun w => ?_⟩) ?_
      · go_simp
        all_goals exact wr64 _ (by omega)
      simp only [Act.put, List.setIfInBounds_toArray, List.set_cons_zero, List.set_cons_succ]
      refine chain_take (v := .int .i64 (10 * x + d)) (by simp only [pickOps, List.getElem?_toArray, List.getElem?_cons_zero, List.getElem?_cons_succ]; rfl) (Or.inl ⟨rfl, fun w => ?_⟩) ?_
      · go_simp
        all_goals exact wr64 _ (by omega)
      simp only [Act.put, List.setIfInBounds_toArray, List.set_cons_zero, List.set_cons_succ]
      refine chain_take (v := ?_) (by simp only [pickOps, List.getElem?_toArray, List.getElem?_cons_zero, List.getElem?_cons_succ]; rfl) (Or.inl ⟨rfl, fun w => ?_⟩) ?_
      rotate_left
      · go_simp <;> with_reducible rfl
      simp only [Act.put, List.setIfInBounds_toArray, List.set_cons_zero, List.set_cons_succ]
      refine chain_take (v := ?_) (by simp only [pickOps, List.getElem?_toArray, List.getElem?_cons_zero, List.getElem?_cons_succ]; rfl) (Or.inl ⟨rfl, fun w => ?_⟩) ?_
      rotate_left
      · go_simp <;> with_reducible rfl
      simp only [Act.put, List.setIfInBounds_toArray, List.set_cons_zero, List.set_cons_succ]
      refine chain_take (v := ?_) (by simp only [pickOps, List.getElem?_toArray, List.getElem?_cons_zero, List.getElem?_cons_succ]; rfl) (Or.inl ⟨rfl, fun w => ?_⟩) ?_
      rotate_left
      · go_simp <;> with_reducible rfl
      simp only [Act.put, List.setIfInBounds_toArray, List.set_cons_zero, List.set_cons_succ]
      refine chain_take (v := ?_) (by simp only [pickOps, List.getElem?_toArray, List.getElem?_cons_zero, List.getElem?_cons_succ]; rfl) (Or.inl ⟨rfl, fun w => ?_⟩) ?_
      rotate_left
      · go_simp <;> with_reducible rfl
      simp only [Act.put, List.setIfInBounds_toArray, List.set_cons_zero, List.set_cons_succ]
      refine chain_take (v := ?_) (by simp only [pickOps, List.getElem?_toArray, List.getElem?_cons_zero, List.getElem?_cons_succ]; rfl) (Or.inl ⟨rfl, fun w => ?_⟩) ?_
      rotate_left
      · go_simp <;> with_reducible rfl
      simp only [Act.put, List.setIfInBounds_toArray, List.set_cons_zero, List.set_cons_succ]
      refine chain_alone (by simp only [pickOps, List.getElem?_toArray, List.getElem?_cons_zero, List.getElem?_cons_succ]; rfl) ?_
      intro K hK
      go_wp2
      refine hK.out _ _ ?_
      clear hK K
      refine chain_nil ?_
      exact bodyPost_end (v := .tuple #[]) (by simp [results, Tryz.results135]) rfl ⟨rfl, H4.out, H5.out⟩

set_option maxHeartbeats 1000000 in
theorem asplit_any (h : Pr w g p) : Calls Tryz.prog 136 #[.pointer (some ⟨g, 5, none⟩)] w fun e w' => e = .returned (.tuple #[]) ∧ Pr w' g ⟨p.st, semiN p.n, p.h⟩ ∧ Fr w.heap.size g w w' := by
  by_cases hn : p.n = []
  · have c1 := h.cnt
    rw [hn] at c1
    have c2 : w.cell? ⟨g, 14, none⟩ = some (.int .i64 0) := c1
    have lt := h.lt
    have HP := hide h
    have E : Hid (semiN p.n = p.n ++ [-1] ++ [-1]) := by unfold Hid semiN; rw [if_pos hn, hn]; rfl
    clear c1 h hn
    go_enter Tryz.func136, Tryz.ntmps136
    go_wp2_with fail
    refine (abegin_any HP.out).mono ?_
    rintro e w1 ⟨rfl, hp1, hf1⟩
    have HP1 := hide hp1
    have HF1 := hide hf1
    clear hp1 hf1 c2 lt
    go_wp2_with fail
    refine (abegin_any HP1.out).mono ?_
    rintro e w2 ⟨rfl, hp2, hf2⟩
    go_wp2
    exact bodyPost_end (v := .tuple #[]) (by simp [results, Tryz.results136]) rfl ⟨rfl, by rw [E.out]; exact hp2, HF1.out.trans (hf2.less HF1.out.size)⟩
  · have c1 := h.cnt
    have hp := List.length_pos_iff.2 hn
    obtain ⟨i, hi⟩ : ∃ i : Nat, min p.n.length 9 = i + 1 := ⟨min p.n.length 9 - 1, by omega⟩
    rw [hi] at c1
    have c2 : w.cell? ⟨g, 14, none⟩ = some (.int .i64 ((i : Int) + 1)) := c1
    have hz : ((i : Int) + 1 == 0) = false := by simp; omega
    have lt := h.lt
    have HP := hide h
    have E : Hid (semiN p.n = p.n ++ [-1]) := by unfold Hid semiN; rw [if_neg hn]
    clear c1 h hn hi hp
    go_enter Tryz.func136, Tryz.ntmps136
    go_wp2_with fail
    refine (abegin_any HP.out).mono ?_
    rintro e w1 ⟨rfl, hp1, hf1⟩
    go_wp2
    exact bodyPost_end (v := .tuple #[]) (by simp [results, Tryz.results136]) rfl ⟨rfl, by rw [E.out]; exact hp1, hf1⟩

set_option maxHeartbeats 400000 in
theorem clonei_any (A : Option Addr) (n c : Nat) (bs : List Int) (w : World) (h : Ints .i64 w A bs) (hn : bs.length = n) (hlen : n ≤ 1000000) (hA : A ≠ none := by simp) :
    Calls Tryz.prog 171 #[.slice A n c] w (Made 3 .i64 w bs) := by
  have HN := hide hn
  clear hn
  cases A with
  | none => exact absurd rfl hA
  | some ad =>
    obtain rfl : bs.length = n := HN.out
    clear HN hA
    have e0 := fun W => Lib.run_eql_slice_nil (P := Tryz.prog) W 33 3 (some ad) bs.length c 0 0 Tryz.underlying33
    have ho := Own.empty w 3 .i64
    have hi := h.alloc (.cells #[] 3)
    clear h
    go_enter Tryz.func171, Tryz.ntmps171
    go_wp2_with (at_builtin; refine wpList_cat elemInts rfl _ _ rfl rfl rfl ho hi rfl (fun h => by cases h) (by simpa using hlen) (by omega) ?_; intro v' w2 hown2)
    go_ret
    exact ⟨_, rfl, hown2⟩

/-- The numbers that are told. -/
theorem Pr.told (h : Pr w g p) : Ints .i64 w (some ⟨g, 5, none⟩) (p.n.take 8) := by
  obtain ⟨l, ha, hs⟩ := h
  have e := ha.told
  refine .inr ⟨g, 5, rfl, fun i hi => ?_⟩
  have h8 : (p.n.take 8).length ≤ 8 := by rw [List.length_take]; omega
  rw [hs.cellR i _ (tail_num ha.len _ _ i (by omega)), ← e]
  simp only [List.getD_eq_getElem?_getD, List.getElem?_take]
  rw [if_pos (by rw [List.length_take] at hi; omega)]

set_option maxHeartbeats 1000000 in
theorem atold_any (h : Pr w g p) : Calls Tryz.prog 137 #[.pointer (some ⟨g, 5, none⟩)] w (Made 3 .i64 w (p.n.take 8)) := by
  have c1 := h.cnt
  have lt := h.lt
  have HT : Hid (Ints .i64 w.drew (some ⟨g, 5, none⟩) (p.n.take 8)) := h.drew.told
  obtain ⟨c, hc⟩ : ∃ c, min p.n.length 9 = c := ⟨_, rfl⟩
  rw [hc] at c1
  have HL : Hid ((p.n.take 8).length = min c 8) := by unfold Hid; rw [List.length_take, ← hc]; omega
  have c9 : c ≤ 9 := by omega
  have HB0 : Hid (Below w.heap.size w w.drew) := (Below.refl _ _).drewN 1
  have hxd : w.drew.cell? ⟨g, 14, none⟩ = some (.int .i64 (c : Int)) := c1
  have ltd : g < w.drew.heap.size := lt
  generalize p.n.take 8 = xs at HT HL ⊢
  clear h hc c1
  by_cases h8 : c ≤ 8
  · have h8' : (c : Int) ≤ 8 := by omega
    have c0 : (0 : Int) ≤ (c : Int) := by omega
    have c9' : (c : Int) ≤ 9 := by omega
    have hmn : min (c : Int) 8 = (c : Int) := by omega
    rw [Nat.min_eq_left h8] at HL
    go_enter Tryz.func137, Tryz.ntmps137
    go_wp2
    refine wp_region_chain [(true, [0]), (true, [3]), (true, [1]), (true, [2]), (false, [4, 5, 6, 7, 8, 9, 10])] (by kernel_rfl) (by kernel_rfl) (by kernel_rfl) (fun _ _ _ _ _ h => h) ?_
    generalize w.drew = w2 at *
    refine chain_take (v := ?_) (by simp only [pickOps, List.getElem?_toArray, List.getElem?_cons_zero]; rfl) (Or.inl ⟨rfl, fun w => ?_⟩) ?_
    rotate_left
    · go_simp <;> with_reducible rfl
    simp only [Act.put, List.setIfInBounds_toArray, List.set_cons_zero, List.set_cons_succ]
    refine chain_take (v := ?_) (by simp only [pickOps, List.getElem?_toArray, List.getElem?_cons_zero, List.getElem?_cons_succ]; rfl) (Or.inl ⟨rfl, fun w => ?_⟩) ?_
    rotate_left
    · go_simp <;> with_reducible rfl
    simp only [Act.put, List.setIfInBounds_toArray, List.set_cons_zero, List.set_cons_succ]
    refine chain_take (v := ?_) (by simp only [pickOps, List.getElem?_toArray, List.getElem?_cons_zero, List.getElem?_cons_succ]; rfl) (Or.inl ⟨rfl, fun w => ?_⟩) ?_
    rotate_left
    · go_simp <;> with_reducible rfl
    simp only [Act.put, List.setIfInBounds_toArray, List.set_cons_zero, List.set_cons_succ]
    refine chain_take (v := ?_) (by simp only [pickOps, List.getElem?_toArray, List.getElem?_cons_zero, List.getElem?_cons_succ]; rfl) (Or.inl ⟨rfl, fun w => ?_⟩) ?_
    rotate_left
    · go_simp <;> with_reducible rfl
    simp only [Act.put, List.setIfInBounds_toArray, List.set_cons_zero, List.set_cons_succ]
    refine chain_alone (by simp only [pickOps, List.getElem?_toArray, List.getElem?_cons_zero, List.getElem?_cons_succ]; rfl) ?_
    intro K hK
    go_wp2_with fail
    refine (clonei_any _ c 9 xs w2 HT.out HL.out (by omega)).mono ?_
    rintro e w1 ⟨v, rfl, hv⟩
    go_wp2
    refine hK.out _ _ ?_
    clear hK K
    refine chain_nil ?_
    go_wp2
    go_ret
    exact ⟨_, rfl, ⟨(show _ from ⟨hv.own.1, by
      rcases hv.own.2 with h0 | ⟨g', cap, cur, hv', hB, hh⟩
      · exact .inl h0
      · exact .inr ⟨g', cap, cur, hv', Nat.le_trans HB0.out.size hB, hh⟩⟩), HB0.out.trans (hv.bel.mono HB0.out.size), Nat.le_trans HB0.out.size hv.bel.size⟩⟩
  · have h9 : c = 9 := by omega
    subst h9
    have hmn : min (9 : Int) 8 = 8 := by decide
    have hxd2 : w.drew.cell? ⟨g, 14, none⟩ = some (.int .i64 9) := hxd
    clear hxd
    go_enter Tryz.func137, Tryz.ntmps137
    go_wp2
    refine wp_region_chain [(true, [0]), (true, [3]), (true, [1]), (true, [2]), (false, [4, 5, 6, 7, 8, 9, 10])] (by kernel_rfl) (by kernel_rfl) (by kernel_rfl) (fun _ _ _ _ _ h => h) ?_
    generalize w.drew = w2 at *
    refine chain_take (v := ?_) (by simp only [pickOps, List.getElem?_toArray, List.getElem?_cons_zero]; rfl) (Or.inl ⟨rfl, fun w => ?_⟩) ?_
    rotate_left
    · go_simp <;> with_reducible rfl
    simp only [Act.put, List.setIfInBounds_toArray, List.set_cons_zero, List.set_cons_succ]
    refine chain_take (v := ?_) (by simp only [pickOps, List.getElem?_toArray, List.getElem?_cons_zero, List.getElem?_cons_succ]; rfl) (Or.inl ⟨rfl, fun w => ?_⟩) ?_
    rotate_left
    · go_simp <;> with_reducible rfl
    simp only [Act.put, List.setIfInBounds_toArray, List.set_cons_zero, List.set_cons_succ]
    refine chain_take (v := ?_) (by simp only [pickOps, List.getElem?_toArray, List.getElem?_cons_zero, List.getElem?_cons_succ]; rfl) (Or.inl ⟨rfl, fun w => ?_⟩) ?_
    rotate_left
    · go_simp <;> with_reducible rfl
    simp only [Act.put, List.setIfInBounds_toArray, List.set_cons_zero, List.set_cons_succ]
    refine chain_take (v := ?_) (by simp only [pickOps, List.getElem?_toArray, List.getElem?_cons_zero, List.getElem?_cons_succ]; rfl) (Or.inl ⟨rfl, fun w => ?_⟩) ?_
    rotate_left
    · go_simp <;> with_reducible rfl
    simp only [Act.put, List.setIfInBounds_toArray, List.set_cons_zero, List.set_cons_succ]
    refine chain_alone (by simp only [pickOps, List.getElem?_toArray, List.getElem?_cons_zero, List.getElem?_cons_succ]; rfl) ?_
    intro K hK
    go_wp2_with fail
    refine (clonei_any _ 8 9 xs w2 HT.out HL.out (by omega)).mono ?_
    rintro e w1 ⟨v, rfl, hv⟩
    go_wp2
    refine hK.out _ _ ?_
    clear hK K
    refine chain_nil ?_
    go_wp2
    go_ret
    exact ⟨_, rfl, ⟨(show _ from ⟨hv.own.1, by
      rcases hv.own.2 with h0 | ⟨g', cap, cur, hv', hB, hh⟩
      · exact .inl h0
      · exact .inr ⟨g', cap, cur, hv', Nat.le_trans HB0.out.size hB, hh⟩⟩), HB0.out.trans (hv.bel.mono HB0.out.size), Nat.le_trans HB0.out.size hv.bel.size⟩⟩
end
end Go.Proofs.YtkijclgbpbhglaaGreatDoor
