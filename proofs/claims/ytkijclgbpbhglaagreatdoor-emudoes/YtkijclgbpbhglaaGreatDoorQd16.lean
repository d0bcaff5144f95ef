/-
  Contracts and plain mathematics of PArgs2, PTell.
-/
import Derived.Test.YtkijclgbpbhglaaGreatDoorQd15
import Derived.Test.YtkijclgbpbhglaaGreatDoorQd11
namespace Go.Proofs.YtkijclgbpbhglaaGreatDoor
set_option maxRecDepth 100000
set_option linter.unusedVariables false
set_option maxHeartbeats 8000000
section
open Go.ChangeShapes Go.WideShapes Go.ChangeAt Go.RowKit
theorem wr64 (n : Int) (h : -9223372036854775808 ≤ n ∧ n ≤ 9223372036854775807) : IntKind.i64.wrap n = n := by rw [IntKind.wrap_i64]; omega
section
variable {w : World} {g : Nat} {p : Ps}
theorem Pr.dig (h : Pr w g p) (hn : p.n ≠ []) (d : Int) (h0 : 0 ≤ d) (h9 : d ≤ 9) : ∃ (i : Nat) (x : Int), i < 9 ∧ -1 ≤ x ∧ x ≤ 9999 ∧ (p.n = [-1] → x = -1) ∧ w.cell? ⟨g, 14, none⟩ = some (.int .i64 ((i : Int) + 1)) ∧ w.cell? ⟨g, 5 + i, none⟩ = some (.int .i64 x) ∧
  w.frozen? ⟨g, 5 + i, none⟩ = false ∧ Pr (w.setCell ⟨g, 5 + i, none⟩ (.int .i64 (digV x d))) g ⟨p.st, digN p.n d, p.h⟩ := by
 have hp := List.length_pos_iff.2 hn
 have hc := h.cnt
 obtain ⟨l, ha, hs⟩ := h
 have hl := ha.len
 have hx : l.getD (min p.n.length 9 - 1) 0 ∈ l := getD_mem l _ (by omega)
 have hr := ha.num _ hx
 refine ⟨min p.n.length 9 - 1, l.getD (min p.n.length 9 - 1) 0, by omega, hr.1, hr.2, ?_, ?_, ?_, hs.frozen _, ?_⟩
 ·intro e
  have := ha.last hn (by rw [e]; decide)
  rw [e] at this ⊢
  exact this
 ·rw [hc]; congr 2; omega
 ·exact hs.cellR _ _ (tail_num hl _ _ _ (by omega))
 ·refine ⟨_, ha.digit hn d h0 h9, ?_⟩
  have h2 := hs.tail (min p.n.length 9 - 1) (.int .i64 (digV (l.getD (min p.n.length 9 - 1) 0) d))
  rw [tail_setn hl _ _ _ (by omega)] at h2
  show Strm _ (tailV _ (min (digN p.n d).length 9) _) _ _ _
  have e : (digN p.n d).length = p.n.length := by unfold digN; rw [if_neg hn]; simp; omega
  rw [e]
  exact h2
theorem adigit_any (h : Pr w g p) (d : Int) (h0 : 0 ≤ d) (h9 : d ≤ 9) : Calls Tryz.prog 135 #[.pointer (some ⟨g, 5, none⟩), .int .i64 d] w fun e w' => e = .returned (.tuple #[]) ∧ Pr w' g ⟨p.st, digN p.n d, p.h⟩ ∧ Fr w.heap.size g w w' := by
 have d9 : d ≤ 9999 := by omega
 have hmd : min d 9999 = d := by omega
 by_cases hn : p.n = []
 ·have c1 := h.cnt
  rw [hn] at c1
  have c2 : w.cell? ⟨g, 14, none⟩ = some (.int .i64 0) := c1
  have lt := h.lt
  have HP := hide h; have HN := hide hn; clear c1 h hn
  go_enter Tryz.func135, Tryz.ntmps135
  go_wp2_with fail
  refine (abegin_any HP.out).mono ?_
  rintro e w1 ⟨rfl, hp1, hf1⟩
  rw [HN.out] at hp1
  obtain ⟨i, x, hi, x0, x1, hx, f1, f2, f3, f4⟩ := hp1.dig (by simp) d h0 h9
  have f6 := hp1.lt
  obtain rfl : x = -1 := hx rfl
  have e : digV (-1) d = d := by unfold digV; simp; omega
  rw [e] at f4
  have e2 : digN ([] ++ [-1]) d = digN p.n d := by rw [HN.out]; exact dig_begin d h0 h9
  rw [e2] at f4
  have i0 : (0 : Int) ≤ (i : Int) := by omega
  have i9 : (i : Int) < 9 := by omega
  clear hp1 e e2 HP c2 lt x0 x1 hx; go_wp2
  have a1 : w1.drew.cell? ⟨g, 14, none⟩ = some (.int .i64 ((i : Int) + 1)) := f1
  have a2 : w1.drew.cell? ⟨g, 5 + i, none⟩ = some (.int .i64 (-1)) := f2
  have HQ : Hid (w1.drew.drew.cell? ⟨g, 14, none⟩ = some (.int .i64 ((i : Int) + 1)) ∧ w1.drew.drew.cell? ⟨g, 5 + i, none⟩ = some (.int .i64 (-1)) ∧ w1.drew.drew.frozen? ⟨g, 5 + i, none⟩ = false ∧ Pr (w1.drew.drew.setCell ⟨g, 5 + i, none⟩ (.int .i64 (d))) g ⟨p.st, digN p.n d, p.h⟩ ∧ Fr w.heap.size g w (w1.drew.drew.setCell ⟨g, 5 + i, none⟩ (.int .i64 (d))) ∧ g < w1.drew.drew.heap.size) := ⟨f1, f2, f3, f4, ((hf1.drewN 1).drewN 1).trans (Fr.put _ _), f6⟩
  have l1 : g < w1.drew.heap.size := f6
  clear f1 f2 f3 f4 f6 hf1
  refine rgC [(true, [0]), (true, [1]), (true, [2]), (true, [3]), (true, [6]), (true, [7]), (false, [4, 5, 8, 9, 10, 11])] ?_
  generalize w1.drew = w2 at *
  iterate 6 refine stC (h := ?_)
  refine alC fun K hK => ?_
  go_wp2
  refine hK.out _ _ ?_
  clear hK K
  refine chain_nil ?_
  clear a1 a2 l1
  obtain ⟨b1, b2, b3, b4, b5, l2⟩ := HQ.out
  have H4 := hide b4; have H5 := hide b5; clear b4 b5 HQ; go_wp2
  refine rgC [(true, [0]), (true, [1]), (true, [6]), (true, [8]), (true, [7]), (true, [9]), (true, [10]), (true, [2]), (true, [3]), (true, [11]), (true, [12]), (false, [4, 5, 13, 14])] ?_
  generalize w2.drew = w3 at *
  iterate 4 refine stC (h := ?_)
  refine chain_take (v := .int .i64 (0)) (by simp only [pickOps, List.getElem?_toArray, List.getElem?_cons_zero, List.getElem?_cons_succ]; rfl) (Or.inl ⟨rfl, fun w => ?_⟩) ?_
  ·go_simp
   all_goals exact wr64 _ (by omega)
  simp only [Act.put, List.setIfInBounds_toArray, List.set_cons_zero, List.set_cons_succ]
  refine chain_take (v := .int .i64 (d)) (by simp only [pickOps, List.getElem?_toArray, List.getElem?_cons_zero, List.getElem?_cons_succ]; rfl) (Or.inl ⟨rfl, fun w => ?_⟩) ?_
  ·go_simp
   all_goals exact wr64 _ (by omega)
  simp only [Act.put, List.setIfInBounds_toArray, List.set_cons_zero, List.set_cons_succ]
  iterate 5 refine stC (h := ?_)
  refine alC fun K hK => ?_
  go_wp2
  refine hK.out _ _ ?_
  clear hK K
  refine chain_nil ?_
  exact bodyPost_end (v := .tuple #[]) (by simp [results, Tryz.results135]) rfl ⟨rfl, H4.out, H5.out⟩
 ·have c1 := h.cnt
  have hp := List.length_pos_iff.2 hn
  obtain ⟨i, x, hi, x0, x1, -, f1, f2, f3, f4⟩ := h.dig hn d h0 h9
  have f6 := h.lt
  have i0 : (0 : Int) ≤ (i : Int) := by omega
  have i9 : (i : Int) < 9 := by omega
  have hz : ((i : Int) + 1 == 0) = false := by simp; omega
  clear c1 hp hn h
  rcases (by omega : x = -1 ∨ (0 ≤ x ∧ 10 * x + d ≤ 9999) ∨ (0 ≤ x ∧ 9999 < 10 * x + d)) with hx | ⟨hx, hy⟩ | ⟨hx, hy⟩
  ·subst hx
   have e : digV (-1) d = d := by unfold digV; simp; omega
   rw [e] at f4
   clear e x0 x1
   go_enter Tryz.func135, Tryz.ntmps135
   go_wp2
   have a1 : w.drew.cell? ⟨g, 14, none⟩ = some (.int .i64 ((i : Int) + 1)) := f1
   have a2 : w.drew.cell? ⟨g, 5 + i, none⟩ = some (.int .i64 (-1)) := f2
   have HQ : Hid (w.drew.drew.cell? ⟨g, 14, none⟩ = some (.int .i64 ((i : Int) + 1)) ∧ w.drew.drew.cell? ⟨g, 5 + i, none⟩ = some (.int .i64 (-1)) ∧ w.drew.drew.frozen? ⟨g, 5 + i, none⟩ = false ∧ Pr (w.drew.drew.setCell ⟨g, 5 + i, none⟩ (.int .i64 (d))) g ⟨p.st, digN p.n d, p.h⟩ ∧ Fr w.heap.size g w (w.drew.drew.setCell ⟨g, 5 + i, none⟩ (.int .i64 (d))) ∧ g < w.drew.drew.heap.size) := ⟨f1, f2, f3, f4, ((Fr.refl.drewN 1).drewN 1).trans (Fr.put _ _), f6⟩
   have l1 : g < w.drew.heap.size := f6
   clear f1 f2 f3 f4 f6
   refine rgC [(true, [0]), (true, [1]), (true, [2]), (true, [3]), (true, [6]), (true, [7]), (false, [4, 5, 8, 9, 10, 11])] ?_
   generalize w.drew = w2 at *
   iterate 6 refine stC (h := ?_)
   refine alC fun K hK => ?_
   go_wp2
   refine hK.out _ _ ?_
   clear hK K
   refine chain_nil ?_
   clear a1 a2 l1
   obtain ⟨b1, b2, b3, b4, b5, l2⟩ := HQ.out
   have H4 := hide b4; have H5 := hide b5; clear b4 b5 HQ; go_wp2
   refine rgC [(true, [0]), (true, [1]), (true, [6]), (true, [8]), (true, [7]), (true, [9]), (true, [10]), (true, [2]), (true, [3]), (true, [11]), (true, [12]), (false, [4, 5, 13, 14])] ?_
   generalize w2.drew = w3 at *
   iterate 4 refine stC (h := ?_)
   refine chain_take (v := .int .i64 (0)) (by simp only [pickOps, List.getElem?_toArray, List.getElem?_cons_zero, List.getElem?_cons_succ]; rfl) (Or.inl ⟨rfl, fun w => ?_⟩) ?_
   ·go_simp
    all_goals exact wr64 _ (by omega)
   simp only [Act.put, List.setIfInBounds_toArray, List.set_cons_zero, List.set_cons_succ]
   refine chain_take (v := .int .i64 (d)) (by simp only [pickOps, List.getElem?_toArray, List.getElem?_cons_zero, List.getElem?_cons_succ]; rfl) (Or.inl ⟨rfl, fun w => ?_⟩) ?_
   ·go_simp
    all_goals exact wr64 _ (by omega)
   simp only [Act.put, List.setIfInBounds_toArray, List.set_cons_zero, List.set_cons_succ]
   iterate 5 refine stC (h := ?_)
   refine alC fun K hK => ?_
   go_wp2
   refine hK.out _ _ ?_
   clear hK K
   refine chain_nil ?_
   exact bodyPost_end (v := .tuple #[]) (by simp [results, Tryz.results135]) rfl ⟨rfl, H4.out, H5.out⟩
  ·have e : digV x d = 10 * x + d := by unfold digV; rw [if_neg (by omega : ¬ x < 0), if_neg (by omega)]
   have hmx : max x 0 = x := by omega
   have hmn : min (10 * x + d) 9999 = 10 * x + d := by omega
   rw [e] at f4
   clear e
   go_enter Tryz.func135, Tryz.ntmps135
   go_wp2
   have a1 : w.drew.cell? ⟨g, 14, none⟩ = some (.int .i64 ((i : Int) + 1)) := f1
   have a2 : w.drew.cell? ⟨g, 5 + i, none⟩ = some (.int .i64 (x)) := f2
   have HQ : Hid (w.drew.drew.cell? ⟨g, 14, none⟩ = some (.int .i64 ((i : Int) + 1)) ∧ w.drew.drew.cell? ⟨g, 5 + i, none⟩ = some (.int .i64 (x)) ∧ w.drew.drew.frozen? ⟨g, 5 + i, none⟩ = false ∧ Pr (w.drew.drew.setCell ⟨g, 5 + i, none⟩ (.int .i64 (10 * x + d))) g ⟨p.st, digN p.n d, p.h⟩ ∧ Fr w.heap.size g w (w.drew.drew.setCell ⟨g, 5 + i, none⟩ (.int .i64 (10 * x + d))) ∧ g < w.drew.drew.heap.size) := ⟨f1, f2, f3, f4, ((Fr.refl.drewN 1).drewN 1).trans (Fr.put _ _), f6⟩
   have l1 : g < w.drew.heap.size := f6
   clear f1 f2 f3 f4 f6
   refine rgC [(true, [0]), (true, [1]), (true, [2]), (true, [3]), (true, [6]), (true, [7]), (false, [4, 5, 8, 9, 10, 11])] ?_
   generalize w.drew = w2 at *
   iterate 6 refine stC (h := ?_)
   refine alC fun K hK => ?_
   go_wp2
   refine hK.out _ _ ?_
   clear hK K
   refine chain_nil ?_
   clear a1 a2 l1
   obtain ⟨b1, b2, b3, b4, b5, l2⟩ := HQ.out
   have H4 := hide b4; have H5 := hide b5; clear b4 b5 HQ; go_wp2
   refine rgC [(true, [0]), (true, [1]), (true, [6]), (true, [8]), (true, [7]), (true, [9]), (true, [10]), (true, [2]), (true, [3]), (true, [11]), (true, [12]), (false, [4, 5, 13, 14])] ?_
   generalize w2.drew = w3 at *
   iterate 4 refine stC (h := ?_)
   refine chain_take (v := .int .i64 (10 * x)) (by simp only [pickOps, List.getElem?_toArray, List.getElem?_cons_zero, List.getElem?_cons_succ]; rfl) (Or.inl ⟨rfl, fun w => ?_⟩) ?_
   ·go_simp
    all_goals exact wr64 _ (by omega)
   simp only [Act.put, List.setIfInBounds_toArray, List.set_cons_zero, List.set_cons_succ]
   refine chain_take (v := .int .i64 (10 * x + d)) (by simp only [pickOps, List.getElem?_toArray, List.getElem?_cons_zero, List.getElem?_cons_succ]; rfl) (Or.inl ⟨rfl, fun w => ?_⟩) ?_
   ·go_simp
    all_goals exact wr64 _ (by omega)
   simp only [Act.put, List.setIfInBounds_toArray, List.set_cons_zero, List.set_cons_succ]
   iterate 5 refine stC (h := ?_)
   refine alC fun K hK => ?_
   go_wp2
   refine hK.out _ _ ?_
   clear hK K
   refine chain_nil ?_
   exact bodyPost_end (v := .tuple #[]) (by simp [results, Tryz.results135]) rfl ⟨rfl, H4.out, H5.out⟩
  ·have e : digV x d = 9999 := by unfold digV; rw [if_neg (by omega : ¬ x < 0), if_pos (by omega)]
   have hmx : max x 0 = x := by omega
   have hmn : min (10 * x + d) 9999 = 9999 := by omega
   rw [e] at f4
   clear e
   go_enter Tryz.func135, Tryz.ntmps135
   go_wp2
   have a1 : w.drew.cell? ⟨g, 14, none⟩ = some (.int .i64 ((i : Int) + 1)) := f1
   have a2 : w.drew.cell? ⟨g, 5 + i, none⟩ = some (.int .i64 (x)) := f2
   have HQ : Hid (w.drew.drew.cell? ⟨g, 14, none⟩ = some (.int .i64 ((i : Int) + 1)) ∧ w.drew.drew.cell? ⟨g, 5 + i, none⟩ = some (.int .i64 (x)) ∧ w.drew.drew.frozen? ⟨g, 5 + i, none⟩ = false ∧ Pr (w.drew.drew.setCell ⟨g, 5 + i, none⟩ (.int .i64 (9999))) g ⟨p.st, digN p.n d, p.h⟩ ∧ Fr w.heap.size g w (w.drew.drew.setCell ⟨g, 5 + i, none⟩ (.int .i64 (9999))) ∧ g < w.drew.drew.heap.size) := ⟨f1, f2, f3, f4, ((Fr.refl.drewN 1).drewN 1).trans (Fr.put _ _), f6⟩
   have l1 : g < w.drew.heap.size := f6
   clear f1 f2 f3 f4 f6
   refine rgC [(true, [0]), (true, [1]), (true, [2]), (true, [3]), (true, [6]), (true, [7]), (false, [4, 5, 8, 9, 10, 11])] ?_
   generalize w.drew = w2 at *
   iterate 6 refine stC (h := ?_)
   refine alC fun K hK => ?_
   go_wp2
   refine hK.out _ _ ?_
   clear hK K
   refine chain_nil ?_
   clear a1 a2 l1
   obtain ⟨b1, b2, b3, b4, b5, l2⟩ := HQ.out
   have H4 := hide b4; have H5 := hide b5; clear b4 b5 HQ; go_wp2
   refine rgC [(true, [0]), (true, [1]), (true, [6]), (true, [8]), (true, [7]), (true, [9]), (true, [10]), (true, [2]), (true, [3]), (true, [11]), (true, [12]), (false, [4, 5, 13, 14])] ?_
   generalize w2.drew = w3 at *
   iterate 4 refine stC (h := ?_)
   refine chain_take (v := .int .i64 (10 * x)) (by simp only [pickOps, List.getElem?_toArray, List.getElem?_cons_zero, List.getElem?_cons_succ]; rfl) (Or.inl ⟨rfl, fun w => ?_⟩) ?_
   ·go_simp
    all_goals exact wr64 _ (by omega)
   simp only [Act.put, List.setIfInBounds_toArray, List.set_cons_zero, List.set_cons_succ]
   refine chain_take (v := .int .i64 (10 * x + d)) (by simp only [pickOps, List.getElem?_toArray, List.getElem?_cons_zero, List.getElem?_cons_succ]; rfl) (Or.inl ⟨rfl, fun w => ?_⟩) ?_
   ·go_simp
    all_goals exact wr64 _ (by omega)
   simp only [Act.put, List.setIfInBounds_toArray, List.set_cons_zero, List.set_cons_succ]
   iterate 5 refine stC (h := ?_)
   refine alC fun K hK => ?_
   go_wp2
   refine hK.out _ _ ?_
   clear hK K
   refine chain_nil ?_
   exact bodyPost_end (v := .tuple #[]) (by simp [results, Tryz.results135]) rfl ⟨rfl, H4.out, H5.out⟩
theorem asplit_any (h : Pr w g p) : Calls Tryz.prog 136 #[.pointer (some ⟨g, 5, none⟩)] w fun e w' => e = .returned (.tuple #[]) ∧ Pr w' g ⟨p.st, semiN p.n, p.h⟩ ∧ Fr w.heap.size g w w' := by
 by_cases hn : p.n = []
 ·have c1 := h.cnt
  rw [hn] at c1
  have c2 : w.cell? ⟨g, 14, none⟩ = some (.int .i64 0) := c1
  have lt := h.lt
  have HP := hide h
  have E : Hid (semiN p.n = p.n ++ [-1] ++ [-1]) := by unfold Hid semiN; rw [if_pos hn, hn]; rfl
  clear c1 h hn
  go_enter Tryz.func136, Tryz.ntmps136
  go_wp2_with fail
  refine (abegin_any HP.out).mono ?_
  rintro e w1 ⟨rfl, hp1, hf1⟩
  have HP1 := hide hp1; have HF1 := hide hf1; clear hp1 hf1 c2 lt; go_wp2_with fail
  refine (abegin_any HP1.out).mono ?_
  rintro e w2 ⟨rfl, hp2, hf2⟩
  go_wp2
  exact bodyPost_end (v := .tuple #[]) (by simp [results, Tryz.results136]) rfl ⟨rfl, by rw [E.out]; exact hp2, HF1.out.trans (hf2.less HF1.out.size)⟩
 ·have c1 := h.cnt
  have hp := List.length_pos_iff.2 hn
  obtain ⟨i, hi⟩ : ∃ i : Nat, min p.n.length 9 = i + 1 := ⟨min p.n.length 9 - 1, by omega⟩
  rw [hi] at c1
  have c2 : w.cell? ⟨g, 14, none⟩ = some (.int .i64 ((i : Int) + 1)) := c1
  have hz : ((i : Int) + 1 == 0) = false := by simp; omega
  have lt := h.lt
  have HP := hide h
  have E : Hid (semiN p.n = p.n ++ [-1]) := by unfold Hid semiN; rw [if_neg hn]
  clear c1 h hn hi hp
  go_enter Tryz.func136, Tryz.ntmps136
  go_wp2_with fail
  refine (abegin_any HP.out).mono ?_
  rintro e w1 ⟨rfl, hp1, hf1⟩
  go_wp2
  exact bodyPost_end (v := .tuple #[]) (by simp [results, Tryz.results136]) rfl ⟨rfl, by rw [E.out]; exact hp1, hf1⟩
theorem clonei_any (A : Option Addr) (n c : Nat) (bs : List Int) (w : World) (h : Ints .i64 w A bs) (hn : bs.length = n) (hlen : n ≤ 1000000) (hA : A ≠ none := by simp) :
  Calls Tryz.prog 171 #[.slice A n c] w (Made 3 .i64 w bs) := by
 have HN := hide hn; clear hn
 cases A with
 | none => exact absurd rfl hA
 | some ad =>
  obtain rfl : bs.length = n := HN.out
  clear HN hA
  have e0 := fun W => Lib.run_eql_slice_nil (P := Tryz.prog) W 33 3 (some ad) bs.length c 0 0 Tryz.underlying33
  have ho := Own.empty w 3 .i64
  have hi := h.alloc (.cells #[] 3)
  clear h
  go_enter Tryz.func171, Tryz.ntmps171
  go_wp2_with (at_builtin; refine wpList_cat elemInts rfl _ _ rfl rfl rfl ho hi rfl (fun h => by cases h) (by simpa using hlen) (by omega) ?_; intro v' w2 hown2)
  go_ret
  exact ⟨_, rfl, hown2⟩
theorem Pr.told (h : Pr w g p) : Ints .i64 w (some ⟨g, 5, none⟩) (p.n.take 8) := by
 obtain ⟨l, ha, hs⟩ := h
 have e := ha.told
 refine .inr ⟨g, 5, rfl, fun i hi => ?_⟩
 have h8 : (p.n.take 8).length ≤ 8 := by rw [List.length_take]; omega
 rw [hs.cellR i _ (tail_num ha.len _ _ i (by omega)), ← e]
 simp only [List.getD_eq_getElem?_getD, List.getElem?_take]
 rw [if_pos (by rw [List.length_take] at hi; omega)]
theorem atold_any (h : Pr w g p) : Calls Tryz.prog 137 #[.pointer (some ⟨g, 5, none⟩)] w (Made 3 .i64 w (p.n.take 8)) := by
 have c1 := h.cnt
 have lt := h.lt
 have HT : Hid (Ints .i64 w.drew (some ⟨g, 5, none⟩) (p.n.take 8)) := h.drew.told
 obtain ⟨c, hc⟩ := exq (min p.n.length 9)
 rw [hc] at c1
 have HL : Hid ((p.n.take 8).length = min c 8) := by unfold Hid; rw [List.length_take, ← hc]; omega
 have c9 : c ≤ 9 := by omega
 have HB0 : Hid (Below w.heap.size w w.drew) := (Below.refl _ _).drewN 1
 have hxd : w.drew.cell? ⟨g, 14, none⟩ = some (.int .i64 c) := c1
 have ltd : g < w.drew.heap.size := lt
 generalize p.n.take 8 = xs at HT HL ⊢
 clear h hc c1
 by_cases h8 : c ≤ 8
 ·have h8' : (c : Int) ≤ 8 := by omega
  have c0 : (0 : Int) ≤ (c : Int) := by omega
  have c9' : (c : Int) ≤ 9 := by omega
  have hmn : min (c : Int) 8 = (c : Int) := by omega
  rw [Nat.min_eq_left h8] at HL
  go_enter Tryz.func137, Tryz.ntmps137
  go_wp2
  refine rgC [(true, [0]), (true, [3]), (true, [1]), (true, [2]), (false, [4, 5, 6, 7, 8, 9, 10])] ?_
  generalize w.drew = w2 at *
  iterate 4 refine stC (h := ?_)
  refine alC fun K hK => ?_
  go_wp2_with fail
  refine (clonei_any _ c 9 xs w2 HT.out HL.out (by omega)).mono ?_
  rintro e w1 ⟨v, rfl, hv⟩
  go_wp2
  refine hK.out _ _ ?_
  clear hK K
  refine chain_nil ?_
  go_wp2; go_ret
  exact ⟨_, rfl, ⟨(show _ from ⟨hv.own.1, by
   rcases hv.own.2 with h0 | ⟨g', cap, cur, hv', hB, hh⟩
   ·exact .inl h0
   ·exact .inr ⟨g', cap, cur, hv', Nat.le_trans HB0.out.size hB, hh⟩⟩), HB0.out.trans (hv.bel.mono HB0.out.size), Nat.le_trans HB0.out.size hv.bel.size⟩⟩
 ·have h9 : c = 9 := by omega
  subst h9
  have hmn : min (9 : Int) 8 = 8 := by decide
  have hxd2 : w.drew.cell? ⟨g, 14, none⟩ = some (.int .i64 9) := hxd
  clear hxd
  go_enter Tryz.func137, Tryz.ntmps137
  go_wp2
  refine rgC [(true, [0]), (true, [3]), (true, [1]), (true, [2]), (false, [4, 5, 6, 7, 8, 9, 10])] ?_
  generalize w.drew = w2 at *
  iterate 4 refine stC (h := ?_)
  refine alC fun K hK => ?_
  go_wp2_with fail
  refine (clonei_any _ 8 9 xs w2 HT.out HL.out (by omega)).mono ?_
  rintro e w1 ⟨v, rfl, hv⟩
  go_wp2
  refine hK.out _ _ ?_
  clear hK K
  refine chain_nil ?_
  go_wp2; go_ret
  exact ⟨_, rfl, ⟨(show _ from ⟨hv.own.1, by
   rcases hv.own.2 with h0 | ⟨g', cap, cur, hv', hB, hh⟩
   ·exact .inl h0
   ·exact .inr ⟨g', cap, cur, hv', Nat.le_trans HB0.out.size hB, hh⟩⟩), HB0.out.trans (hv.bel.mono HB0.out.size), Nat.le_trans HB0.out.size hv.bel.size⟩⟩
end
structure Tel (B : Nat) (w : World) (gB gL : Nat) (es : List Ev) : Prop where
 box : Whole w gB 142 [.pointer (some ⟨gL, 0, none⟩)]
 var : ∃ v, Whole w gL 54 [v] ∧ OwnE 0 56 .i32 B w w v es
 geB : B ≤ gB
 geL : B ≤ gL
section
variable {B gB gL : Nat} {w w' : World} {es : List Ev}
theorem Tel.keep (h : Tel B w gB gL es) (h1 : Stays 142 w w') (h2 : Stays 54 w w') (h3 : Stays 3 w w') (h4 : Stays 56 w w') (hz : w.heap.size ≤ w'.heap.size) : Tel B w' gB gL es := by
 obtain ⟨v, hv, ho⟩ := h.var
 exact ⟨h1.whole h.box, ⟨v, h2.whole hv, ho.keep (fun b hb => absurd hb (by omega)) h3 h4 hz⟩, h.geB, h.geL⟩
theorem Tel.fr {g : Nat} {p : Ps} (h : Tel B w gB gL es) (hp : Pr w g p) (hf : Fr w.heap.size g w w') : Tel B w' gB gL es :=
 h.keep (hp.stays hf (by decide)) (hp.stays hf (by decide)) (hp.stays hf (by decide)) (hp.stays hf (by decide)) hf.size
theorem Tel.later (h : Tel B w gB gL es) (hb : Below w.heap.size w w') : Tel B w' gB gL es := h.keep (.of_below hb) (.of_below hb) (.of_below hb) (.of_below hb) hb.size
theorem Tel.le (h : Tel B w gB gL es) : B ≤ w.heap.size := by have := h.box.lt; have := h.geB; omega
end
structure Told (B : Nat) (w : World) (gB gL : Nat) (es : List Ev) (w' : World) : Prop where
 tel : Tel B w' gB gL es
 bel : Below B w w'
 pr : ∀ t, t ≠ 56 → t ≠ 54 → Stays t w w'
theorem Told.prs {B gB gL : Nat} {w w' : World} {es : List Ev} (h : Told B w gB gL es w') {g : Nat} {p : Ps} (hp : Pr w g p) : Pr w' g p := by
 obtain ⟨l, hw⟩ := hp.whole
 exact hp.same (h.pr 93 (by decide) (by decide) g _ hw)
theorem tell1_any (B gB gL : Nat) (es : List Ev) (w : World) (h : Tel B w gB gL es) (kd r : Int) (N : Option Addr) (n c : Nat) (ns : List Int) (hn : ns.length = n) (hi : IntsT 0 3 .i64 w N ns) (hl : es.length ≤ 100000) :
  Calls Tryz.prog 132 #[.int .i64 kd, .int .i32 r, .slice N n c, .pointer (some ⟨gB, 0, none⟩)] w fun e w' => e = .returned (.tuple #[]) ∧ Told B w gB gL (es ++ [⟨kd, r, ns⟩]) w' := by
 obtain ⟨v, hv, ho⟩ := h.var
 have d0 : w.drew.cell? ⟨gB, 0, none⟩ = some (.pointer (some ⟨gL, 0, none⟩)) := h.box.cell 0
 have d1 : w.drew.cell? ⟨gL, 0, none⟩ = some v := hv.cell 0
 have HO : Hid (OwnE 0 56 .i32 B w.drew w.drew v es) := ho.keep (fun _ _ => rfl) (.of_below bd1) (.of_below bd1) (Nat.le_refl _)
 have HI : Hid (IntsT 0 3 .i64 w.drew N ns) := hi
 have HB0 : Hid (Whole w.drew gB 142 [.pointer (some ⟨gL, 0, none⟩)]) := h.box
 have HL0 : Hid (Whole w.drew gL 54 [v]) := hv
 have HBw : Hid (Below B w w.drew) := (Below.refl _ _).drewN 1
 have HST : Hid (∀ t, Stays t w w.drew) := fun t => .of_below bd1
 have geB := h.geB
 have geL := h.geL
 have HN := hide hn
 have l0' : gB < w.drew.heap.size := h.box.lt
 have l1' : gL < w.drew.heap.size := hv.lt
 clear h hv ho hi hn
 go_enter Tryz.func132, Tryz.ntmps132
 go_wp2
 refine rgL (fun w' => w'.cell? ⟨gB, 0, none⟩ = some (.pointer (some ⟨gL, 0, none⟩)) ∧ w'.cell? ⟨gL, 0, none⟩ = some v) 11 [(0, 4), (0, 5), (0, 6), (0, 7), (0, 0), (0, 1), (0, 2), (0, 3), (1, 8), (1, 9), (1, 10), (3, 11)] (⟨d0, d1⟩) ?_
 generalize w.drew = wd at *
 iterate 4 refine stL (h := ?_)
 refine stL (hy := fun w hS => by obtain ⟨s0, s1⟩ := hS; go_simp <;> with_reducible rfl) (h := ?_)
 refine stL (hy := fun w hS => by obtain ⟨s0, s1⟩ := hS; go_simp <;> with_reducible rfl) (h := ?_)
 refine stL (h := ?_)
 refine stL (hy := fun w hS => by obtain ⟨s0, s1⟩ := hS; go_simp <;> with_reducible rfl) (h := ?_)
 refine alL fun K hK => ?_
 go_wp2
 refine hK.out _ _ (⟨(HB0.out.alloc _).cell 0, (HL0.out.alloc _).cell 0⟩) ?_
 clear hK K
 refine alL fun K hK => ?_
 refine wpList_pushE elemEv kd r N c ns n HN.out HI.out (by rfl) (.tmp 10) (.tmp 15) rfl rfl rfl HO.out (by omega) (by omega) (by decide) ?_
 intro v' w1 hown st hb
 obtain ⟨A9, n9, c9, rfl⟩ := hown.slice
 have HB1 := hide ((st 142 (by decide)).whole (HB0.out.alloc _))
 have HL1 := hide ((st 54 (by decide)).whole (HL0.out.alloc _))
 go_wp2
 refine hK.out _ _ (⟨HB1.out.cell 0, HL1.out.cell 0⟩) ?_
 clear hK K
 have e1 : w1.cell? ⟨gL, 0, none⟩ = some v := HL1.out.cell 0
 have z1 := HL1.out.frozen 0
 have l2 := HL1.out.lt
 have HFIN : Hid (Told B w gB gL (es ++ [⟨kd, r, ns⟩]) (w1.setCell ⟨gL, 0, none⟩ (.slice A9 n9 c9))) := by
  refine ⟨⟨(Stays.put HL1.out (by decide)).whole HB1.out, ⟨_, HL1.out.put 0 _, hown.now.keep (fun _ hb => absurd hb (by omega)) (Stays.put HL1.out (by decide)) (Stays.put HL1.out (by decide)) (by simp [World.setCell])⟩, geB, geL⟩, ?_, fun t h1 h2 => (((HST.out t).trans (.of_below ((Below.refl _ _).alloc (Nat.le_refl _) _))).trans (st t h1)).trans (Stays.put HL1.out h2)⟩
  exact (((HBw.out.alloc (Nat.le_trans HO.out.le (Nat.le_refl _)) _).trans hb).setCell (p := ⟨gL, 0, none⟩) geL _)
 clear hown st hb HO HI HB0 HL0 HBw HST d0 d1
 refine alL fun K hK => ?_
 go_wp2
 refine hK.out _ _ (⟨HB1.out.cell 0, HL1.out.cell 0⟩) ?_
 clear hK K
 refine laL fun K hK => ?_
 go_wp2
 refine hK.out _ _ ?_
 clear hK K
 refine chainL_nil ?_
 go_wp2
 exact bodyPost_end (v := .tuple #[]) (by simp [results, Tryz.results132]) rfl ⟨rfl, HFIN.out⟩
section
variable {B gB gL g : Nat} {w : World} {p : Ps} {es : List Ev}
theorem pend_any (h : Pr w g p) (ht : Tel B w gB gL es) (hg : g < B) (hl : es.length ≤ 10000) : Calls Tryz.prog 82 #[.pointer (some ⟨g, 0, none⟩), .func (.func 132) #[] #[.pointer (some ⟨gB, 0, none⟩)]] w fun e w' => e = .returned (.tuple #[]) ∧ Pr w' g ⟨p.st, p.n, []⟩ ∧ Tel B w' gB gL (es ++ brkE p.h) ∧ Fr B g w w' := by
 rw [brk_fl]
 obtain ⟨fl, hfl0⟩ := exq (flushed p.h)
 have hfl : fl.length ≤ 1 := by rw [← hfl0]; unfold flushed; split <;> simp
 rw [hfl0]
 have HFL := hide hfl0; have HT := hide ht; have HP := hide h
 obtain ⟨l, ha, hs⟩ := h
 have HS := hide hs; have HA := hide ha
 have lt := hs.lt
 clear ha hs ht hfl0
 go_enter Tryz.func82, Tryz.ntmps82
 go_wp2_with fail
 refine (flush_any g p.h w HS.out).mono ?_
 rintro e w1 ⟨v, rfl, hov, hs1, hf1⟩
 rw [HFL.out] at hov
 obtain ⟨A, c, rfl, hi1, -, -, -⟩ := hov.typed (C := 0)
 have HT1 := hide (HT.out.fr HP.out hf1)
 have HP1 : Hid (Pr w1 g ⟨p.st, p.n, []⟩) := ⟨l, HA.out, hs1⟩
 have HF1 : Hid (Fr B g w w1) := hf1.less HT.out.le
 have HI1 := hide hi1
 obtain ⟨m, hm⟩ := exq (fl.length)
 rw [hm]
 rw [hm] at hfl
 have HM := hide hm; clear hov hs1 hf1 hi1 hm; go_wp2
 go_loopw [5, 11] (fun _ i wr => ∃ k : Nat, k ≤ m ∧ i = .int .i64 k ∧ Tel B wr gB gL (es ++ prE (fl.take k)) ∧ Pr wr g ⟨p.st, p.n, []⟩ ∧ Fr B g w wr ∧ IntsT 0 21 .i32 wr A fl) (fun _ i _ => m - (intOf i).toNat)
 case atStart => exact ⟨0, Nat.zero_le _, rfl, by rw [List.take_zero]; simpa [prE] using HT1.out, HP1.out, HF1.out, HI1.out⟩
 case round =>
  obtain ⟨k, hk, rfl, ht, hp, hf, hi⟩ := hrel
  by_cases hlt : k < m
  ·obtain ⟨b, off, rfl, hc, hb0⟩ := hi.ints.at (i := k) (by rw [HM.out]; exact hlt)
   obtain ⟨r, hr⟩ := exq (fl.getD k 0)
   rw [hr] at hc
   have HTK := hide (take_snoc fl k r (by rw [HM.out]; exact hlt) hr)
   have hlk : (es ++ prE (fl.take k)).length ≤ 100000 := by
    rw [List.length_append, prE, List.length_map, List.length_take]; omega
   have HT := hide ht; have HP := hide hp; have HF := hide hf; have HI := hide hi; clear ht hp hf hi hr; go_wp2_with fail
   refine (tell1_any B gB gL (es ++ prE (fl.take k)) wr HT.out 1 r none 0 0 [] rfl .nil hlk).mono ?_
   rintro e w2 ⟨rfl, hto⟩
   go_wp2
   go_roundw
   case rel =>
    refine ⟨k + 1, by omega, by go_num, ?_, hto.prs HP.out, HF.out.trans (Fr.of_below hto.bel), HI.out.keep (fun _ hb => absurd hb (by omega)) (hto.pr 21 (by decide) (by decide))⟩
    rw [HTK.out]
    have e : es ++ prE (fl.take k ++ [r]) = es ++ prE (fl.take k) ++ [⟨1, r, []⟩] := by simp [prE]
    rw [e]
    exact hto.tel
   case measure => simp [intOf]; omega
  ·have HTK : Hid (fl.take k = fl) := by unfold Hid; exact List.take_of_length_le (by rw [HM.out]; omega)
   rw [HTK.out] at ht
   have HT := hide ht; have HP := hide hp; have HF := hide hf; clear ht hp hf hi; go_wp2
   exact bodyPost_end (v := .tuple #[]) (by simp [results, Tryz.results82]) rfl ⟨rfl, HP.out, HT.out, HF.out⟩
theorem ptake_any (h : Pr w g p) (hok : PsOk p) (ht : Tel B w gB gL es) (hg : g < B) (hl : es.length ≤ 10000) (b : Int) (b0 : 0 ≤ b) (b1 : b ≤ 255) : Calls Tryz.prog 84 #[.pointer (some ⟨g, 0, none⟩), .int .u8 b, .func (.func 132) #[] #[.pointer (some ⟨gB, 0, none⟩)]] w fun e w' => e = .returned (.tuple #[]) ∧ Pr w' g ⟨p.st, p.n, (cut (p.h ++ [b])).2⟩ ∧ Tel B w' gB gL (es ++ prE (cut (p.h ++ [b])).1) ∧ Fr B g w w' := by
 obtain ⟨w0, hw0⟩ := exq (w.alloc (.cells #[.int .u8 b] 5))
 have hfl : (cut (p.h ++ [b])).1.length ≤ 4 := by have h1 := cut_len (p.h ++ [b]); have h2 := hok.len; rw [List.length_append] at h1; simp at h1; omega
 obtain ⟨fl, hh, hcut⟩ : ∃ fl hh, cut (p.h ++ [b]) = (fl, hh) := ⟨_, _, rfl⟩
 rw [hcut] at hfl
 rw [hcut]
 simp only at hfl ⊢
 have HCUT := hide hcut
 have hb0 : Below w.heap.size w w0 := by rw [← hw0]; exact (Below.refl _ _).alloc (Nat.le_refl _) _
 have HI0 : Hid (Ints .u8 w0 (some ⟨w.heap.size, 0, none⟩) [b]) := by unfold Hid; rw [← hw0]; exact (IntsT.new (C := 0) (k := .u8) w 5 [b]).ints
 have HB0 := hide hb0
 have HT := hide (ht.later hb0)
 have HP := hide (h.later hb0)
 have hle := ht.le
 obtain ⟨l, ha, hs⟩ := h.later hb0
 have HS := hide hs; have HA := hide ha; have HOK := hide hok
 have hby : Byte [b] := by intro x hx; simp at hx; omega
 have lt := h.lt
 have HW0 := hide hw0; clear ha hs ht hb0 h hok hw0 hcut
 go_enter Tryz.func84, Tryz.ntmps84
 go_wp2_with fail
 rw [HW0.out]
 refine (feed_any g p.h [b] (some ⟨w.heap.size, 0, none⟩) 1 1 w0 HS.out HOK.out.held HOK.out.byte hby HI0.out rfl (by omega) (by intro ad e _; cases e; simp; omega)).mono ?_
 rintro e w1 ⟨v, rfl, hov, hs1, hf1⟩
 rw [HCUT.out] at hov hs1
 simp only at hov hs1
 obtain ⟨A, c, rfl, hi1, -, -, -⟩ := hov.typed (C := 0)
 have HT1 := hide (HT.out.fr HP.out hf1)
 have HP1 : Hid (Pr w1 g ⟨p.st, p.n, hh⟩) := ⟨l, HA.out, hs1⟩
 have HF1 : Hid (Fr B g w w1) := (Fr.of_below (HB0.out.mono hle)).trans (hf1.less (Nat.le_trans hle HB0.out.size))
 have HI1 := hide hi1
 obtain ⟨m, hm⟩ := exq (fl.length)
 rw [hm]
 rw [hm] at hfl
 have HM := hide hm; clear hov hs1 hf1 hi1 hm; go_wp2
 go_loopw [7, 15] (fun _ i wr => ∃ k : Nat, k ≤ m ∧ i = .int .i64 k ∧ Tel B wr gB gL (es ++ prE (fl.take k)) ∧ Pr wr g ⟨p.st, p.n, hh⟩ ∧ Fr B g w wr ∧ IntsT 0 21 .i32 wr A fl) (fun _ i _ => m - (intOf i).toNat)
 case atStart => exact ⟨0, Nat.zero_le _, rfl, by rw [List.take_zero]; simpa [prE] using HT1.out, HP1.out, HF1.out, HI1.out⟩
 case round =>
  obtain ⟨k, hk, rfl, ht, hp, hf, hi⟩ := hrel
  by_cases hlt : k < m
  ·obtain ⟨b, off, rfl, hc, hb0⟩ := hi.ints.at (i := k) (by rw [HM.out]; exact hlt)
   obtain ⟨r, hr⟩ := exq (fl.getD k 0)
   rw [hr] at hc
   have HTK := hide (take_snoc fl k r (by rw [HM.out]; exact hlt) hr)
   have hlk : (es ++ prE (fl.take k)).length ≤ 100000 := by
    rw [List.length_append, prE, List.length_map, List.length_take]; omega
   have HT := hide ht; have HP := hide hp; have HF := hide hf; have HI := hide hi; clear ht hp hf hi hr; go_wp2_with fail
   refine (tell1_any B gB gL (es ++ prE (fl.take k)) wr HT.out 1 r none 0 0 [] rfl .nil hlk).mono ?_
   rintro e w2 ⟨rfl, hto⟩
   go_wp2
   go_roundw
   case rel =>
    refine ⟨k + 1, by omega, by go_num, ?_, hto.prs HP.out, HF.out.trans (Fr.of_below hto.bel), HI.out.keep (fun _ hb => absurd hb (by omega)) (hto.pr 21 (by decide) (by decide))⟩
    rw [HTK.out]
    have e : es ++ prE (fl.take k ++ [r]) = es ++ prE (fl.take k) ++ [⟨1, r, []⟩] := by simp [prE]
    rw [e]
    exact hto.tel
   case measure => simp [intOf]; omega
  ·have HTK : Hid (fl.take k = fl) := by unfold Hid; exact List.take_of_length_le (by rw [HM.out]; omega)
   rw [HTK.out] at ht
   have HT := hide ht; have HP := hide hp; have HF := hide hf; clear ht hp hf hi; go_wp2
   exact bodyPost_end (v := .tuple #[]) (by simp [results, Tryz.results84]) rfl ⟨rfl, HP.out, HT.out, HF.out⟩
theorem pholds_any (h : Pr w g p) (bo : Bool) (hbo : decide (p.h ≠ []) = bo) : Calls Tryz.prog 115 #[.pointer (some ⟨g, 0, none⟩)] w (Said bo w) := by
 obtain ⟨l, ha, hs⟩ := h
 have HS := hide hs
 have lt := hs.lt
 have HD : Hid (decide ((0 : Int) < (p.h.length : Int)) = bo) := by
  unfold Hid; rw [← hbo, Bool.eq_iff_iff]; simp only [decide_eq_true_iff]; rw [ne_eq, ← List.length_eq_zero_iff]; omega
 clear hs ha hbo
 go_enter Tryz.func115, Tryz.ntmps115
 go_wp2_with fail
 refine (held_any g p.h w HS.out).mono ?_
 rintro e w1 ⟨v, rfl, hov⟩
 obtain ⟨A, c, rfl, -, -, -, -⟩ := hov.form2
 have HB := hide hov.bel; clear hov HS
 generalize p.h.length = n at *
 go_wp2; go_ret
 exact ⟨ret_bool (by have := HD.out; simpa using this), HB.out⟩
theorem prest_any (h : Pr w g p) (bo : Bool) (hbo : restP p = bo) : Calls Tryz.prog 62 #[.pointer (some ⟨g, 0, none⟩)] w (Said bo w) := by
 have c1 := h.st
 have lt := h.lt
 have HP := hide h; clear h
 by_cases h0 : p.st = 0
 ·rw [h0] at c1
  obtain ⟨b1, hb1⟩ := exq (decide (p.h ≠ []))
  have HR : Hid (bo = !b1) := by unfold Hid; rw [← hbo, ← hb1]; unfold restP; rw [h0]; simp
  have HB1 := hide hb1; clear hb1 hbo h0
  go_enter Tryz.func62, Tryz.ntmps62
  go_wp2_with fail
  refine (pholds_any HP.out b1 HB1.out).mono ?_
  rintro e w1 ⟨rfl, hb⟩
  have HB := hide hb; clear hb; go_wp2; go_ret
  exact ⟨ret_bool (by rw [HR.out]), HB.out⟩
 ·obtain rfl : bo = false := by rw [← hbo]; unfold restP; simp [h0]
  have hq : (p.st == 0) = false := by simp [h0]
  clear hbo h0
  generalize p.st = st at *
  go_enter Tryz.func62, Tryz.ntmps62
  go_wp2; go_ret
  exact ⟨rfl, Below.refl _ _⟩
end
end
end Go.Proofs.YtkijclgbpbhglaaGreatDoor
