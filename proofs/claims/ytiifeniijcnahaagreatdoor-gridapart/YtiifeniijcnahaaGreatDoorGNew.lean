/-
  Contracts: a new grid, a copy, a grid of another size (the program's).
-/
import Derived.Test.YtiifeniijcnahaaGreatDoorGMade
namespace Go.Proofs.YtiifeniijcnahaaGreatDoor
set_option maxRecDepth 100000
open Go.ChangeShapes Go.WideShapes Go.ChangeAt Go.RowKit
set_option linter.unusedVariables false

/-- The call gave a grid, all new. -/
def GaveG (R C : Nat) (g : Gd) (w : World) (e : Ending) (w' : World) : Prop := ∃ G L M, e = .returned (.pointer (some ⟨G, 0, none⟩)) ∧ NewGrd R C g w G L M w'
/-- .. and no error. -/
def GaveG2 (R C : Nat) (g : Gd) (w : World) (e : Ending) (w' : World) : Prop := ∃ G L M, e = .returned (.tuple #[.pointer (some ⟨G, 0, none⟩), .int .i64 0]) ∧ NewGrd R C g w G L M w'
theorem new1_any (k q C : Nat) (A : Option Addr) (c : Nat) (z : List Cel) (w : World) (h1 : Whole w q 41 [.slice A C c]) (hc : Cels .i32 w A z) (hn : z.length = C) :
    Calls Tryz.prog 31 #[.int .i64 (k : Int), .pointer (some ⟨q, 0, none⟩)] w (Tells C z w) := by
  have c0 : w.cell? ⟨q, 0, none⟩ = some (.slice A C c) := h1.cell 0
  have lq := h1.lt
  have HC := hide hc
  have HN := hide hn
  clear h1 hc hn
  go_enter Tryz.func31, Tryz.ntmps31
  go_wp2
  go_ret
  exact ⟨A, c, rfl, Below.refl _ _, HC.out, HN.out⟩
theorem sideB_yes {n : Nat} (h1 : 1 ≤ n) (h2 : n ≤ 512) : sideB (n : Int) = true := by unfold sideB; simp; omega
theorem NewGrd.from {R C : Nat} {g : Gd} {w w0 w' : World} {G L M : Nat} (h : NewGrd R C g w0 G L M w') (hb : Below w.heap.size w w0) : NewGrd R C g w G L M w' := by
  obtain ⟨h1, h2, h3, h4, h5⟩ := h
  exact ⟨h1, hb.trans (h2.mono hb.size), Nat.le_trans hb.size h3, Nat.le_trans hb.size h4, Nat.le_trans hb.size h5⟩
set_option maxHeartbeats 2000000 in
theorem gnew_yes (R C : Nat) (r1 : 1 ≤ R) (r2 : R ≤ 512) (c1 : 1 ≤ C) (c2 : C ≤ 512) (w : World) :
    Calls Tryz.prog 6 #[.int .i64 (R : Int), .int .i64 (C : Int)] w (GaveG2 R C (newG R C) w) := by
  go_enter Tryz.func6, Tryz.ntmps6
  go_wp2_with fail
  refine (side_any R w).mono ?_
  rintro e w1 ⟨rfl, rfl⟩
  rw [sideB_yes r1 r2]
  go_wp2_with fail
  refine (side_any C w).mono ?_
  rintro e w1 ⟨rfl, rfl⟩
  rw [sideB_yes c1 c2]
  go_wp2_with fail
  refine (new_v (C : Int) rfl (lenN_nat C c2) w).mono ?_
  rintro e w1 ⟨A, c, rfl, hc, hb⟩
  obtain ⟨W0, hW0⟩ : ∃ W0, w1.alloc (.cells #[.slice A C c] 41) = W0 := ⟨_, rfl⟩
  have HX : Hid (Whole W0 w1.heap.size 41 [.slice A C c]) := by unfold Hid; rw [← hW0]; exact Whole.new w1 41 [.slice A C c]
  have HC : Hid (Cels .i32 W0 A (newC (C : Int))) := by unfold Hid; rw [← hW0]; exact hc.alloc _
  have HB : Hid (Below w.heap.size w W0) := by unfold Hid; rw [← hW0]; exact hb.alloc hb.size _
  have HW0 := hide hW0
  clear hW0 hc hb
  go_wp2_with fail
  rw [HW0.out]
  refine (made_any R C r2 c1 c2 31 _ (fun _ => newC (C : Int)) W0 (enter_of Tryz.func31 (by kernel_rfl) (by kernel_rfl)) ?_).mono ?_
  · intro k wr hk hb args hargs
    have ha2 : args = #[.int .i64 (k : Int), .pointer (some ⟨w1.heap.size, 0, none⟩)] := by simpa using hargs
    subst ha2
    exact new1_any k _ C A c _ wr (HX.out.later hb) (HC.out.below hb) (newC_len C c2)
  rintro e w2 ⟨G, L, M, rfl, hg⟩
  have HG := hide (hg.from HB.out)
  clear hg
  go_wp2
  go_ret2
  exact ⟨G, L, M, rfl, HG.out⟩
theorem gnew_no (r c : Int) (h : ¬ sizeN r c) (w : World) : Calls Tryz.prog 6 #[.int .i64 r, .int .i64 c] w fun e w' => e = .returned (.tuple #[.pointer none, .int .i64 11]) ∧ w = w' := by
  by_cases h1 : sideB r = true
  · have h2 : sideB c = false := by
      unfold sideB at *
      simp only [decide_eq_true_eq] at h1
      simp only [decide_eq_false_iff_not]
      intro q
      exact h ⟨h1, q⟩
    have H1 := hide h1
    have H2 := hide h2
    clear h1 h2 h
    go_enter Tryz.func6, Tryz.ntmps6
    go_wp2_with fail
    refine (side_any r w).mono ?_
    rintro e w1 ⟨rfl, rfl⟩
    rw [H1.out]
    go_wp2_with fail
    refine (side_any c w).mono ?_
    rintro e w1 ⟨rfl, rfl⟩
    rw [H2.out]
    go_wp2
    go_ret2
    exact ⟨rfl, rfl⟩
  · have H1 : Hid (sideB r = false) := by unfold Hid; simpa using h1
    clear h1 h
    go_enter Tryz.func6, Tryz.ntmps6
    go_wp2_with fail
    refine (side_any r w).mono ?_
    rintro e w1 ⟨rfl, rfl⟩
    rw [H1.out]
    go_wp2
    go_ret2
    exact ⟨rfl, rfl⟩

/-! ### a copy -/
section
variable {w : World} {G L M R C : Nat} {g : Gd}
set_option maxHeartbeats 1000000 in
theorem copy1_any (h : Grd w G L M R C g) (k : Nat) (hk : k < R) {q : Nat} (hq : Whole w q 24 [.pointer (some ⟨G, 0, none⟩)]) :
    Calls Tryz.prog 56 #[.int .i64 (k : Int), .pointer (some ⟨q, 0, none⟩)] w (Tells C (lAt g.ls k) w) := by
  obtain ⟨cap, ps, room, more, h⟩ := h
  obtain ⟨c0, c1, c2, lG, lL, lM⟩ := h.three
  have c3 := h.row hk
  have c4 : w.cell? ⟨q, 0, none⟩ = some (.pointer (some ⟨G, 0, none⟩)) := hq.cell 0
  have lq := hq.lt
  have HC := hide (h.cels hk)
  have HN := hide (h.lenAt hk)
  clear h hq
  go_enter Tryz.func56, Tryz.ntmps56
  go_wp2
  go_ret
  exact ⟨_, C, rfl, Below.refl _ _, HC.out, HN.out⟩
set_option maxHeartbeats 2000000 in
theorem copy_any (h : Grd w G L M R C g) (hR : 1 ≤ R) (hR2 : R ≤ 512) (hC : 1 ≤ C) (hC2 : C ≤ 512) :
    Calls Tryz.prog 21 #[.pointer (some ⟨G, 0, none⟩)] w (GaveG R C g w) := by
  obtain ⟨W0, hW0⟩ : ∃ W0, w.alloc (.cells #[.pointer (some ⟨G, 0, none⟩)] 24) = W0 := ⟨_, rfl⟩
  have HX : Hid (Whole W0 w.heap.size 24 [.pointer (some ⟨G, 0, none⟩)]) := by unfold Hid; rw [← hW0]; exact Whole.new w 24 [.pointer (some ⟨G, 0, none⟩)]
  have HB : Hid (Below w.heap.size w W0) := by unfold Hid; rw [← hW0]; exact (Below.refl _ _).alloc (Nat.le_refl _) _
  have HG := hide (h.later HB.out)
  have HLen := hide h.glen
  have HW0 := hide hW0
  clear hW0 h
  go_enter Tryz.func21, Tryz.ntmps21
  have f0 : W0.cell? ⟨w.heap.size, 0, none⟩ = some (.pointer (some ⟨G, 0, none⟩)) := HX.out.cell 0
  go_wp2
  rw [HW0.out]
  clear f0
  refine wp_region_chainL (fun w' => Below W0.heap.size W0 w') 5 [(0, 0), (0, 2), (0, 4), (1, 1), (1, 3), (3, 5), (3, 6)] (by kernel_rfl) (by kernel_rfl) (by kernel_rfl) (fun _ _ _ _ _ h => h) ?_ ?_
  · exact (Below.refl _ _).drewN 1
  refine chainL_take (v := ?_) (by simp only [List.getElem?_toArray, List.getElem?_cons_zero]; rfl) (by rfl) (fun w hS => ?_) ?_
  rotate_left
  · have f0 := (HX.out.later hS).cell 0; go_simp <;> with_reducible rfl
  simp only [Act.put, List.setIfInBounds_toArray, List.set_cons_zero, List.set_cons_succ]
  refine chainL_take (v := ?_) (by simp only [List.getElem?_toArray, List.getElem?_cons_zero, List.getElem?_cons_succ]; rfl) (by rfl) (fun w hS => ?_) ?_
  rotate_left
  · have f0 := (HX.out.later hS).cell 0; go_simp <;> with_reducible rfl
  simp only [Act.put, List.setIfInBounds_toArray, List.set_cons_zero, List.set_cons_succ]
  refine chainL_take (v := ?_) (by simp only [List.getElem?_toArray, List.getElem?_cons_zero, List.getElem?_cons_succ]; rfl) (by rfl) (fun w hS => ?_) ?_
  rotate_left
  · go_simp <;> with_reducible rfl
  simp only [Act.put, List.setIfInBounds_toArray, List.set_cons_zero, List.set_cons_succ]
  refine chainL_alone (by simp only [List.getElem?_toArray, List.getElem?_cons_zero, List.getElem?_cons_succ]; rfl) ?_
  intro K hK
  go_wp2_with fail
  refine (rows_any (HG.out.later ((Below.refl _ _).drewN 1))).mono ?_
  rintro e k1 ⟨rfl, rfl⟩
  go_wp2
  refine hK.out _ _ ((Below.refl _ _).drewN 1) ?_
  clear hK K
  refine chainL_alone (by simp only [List.getElem?_toArray, List.getElem?_cons_zero, List.getElem?_cons_succ]; rfl) ?_
  intro K hK
  go_wp2_with fail
  refine (cols_any (HG.out.later ((Below.refl _ _).drewN 1)) hR).mono ?_
  rintro e k1 ⟨rfl, rfl⟩
  go_wp2
  refine hK.out _ _ ((Below.refl _ _).drewN 1) ?_
  clear hK K
  refine chainL_late (by simp only [List.getElem?_toArray, List.getElem?_cons_zero, List.getElem?_cons_succ]; rfl) ?_
  intro K hK
  go_wp2_with fail
  refine (made_any R C hR2 hC hC2 56 _ (lAt g.ls) W0.drew (enter_of Tryz.func56 (by kernel_rfl) (by kernel_rfl)) ?_).mono ?_
  · intro k wr hk hb args hargs
    have ha2 : args = #[.int .i64 (k : Int), .pointer (some ⟨w.heap.size, 0, none⟩)] := by simpa using hargs
    subst ha2
    exact copy1_any (HG.out.later (((Below.refl _ _).drewN 1).trans hb)) k hk (HX.out.later (((Below.refl _ _).drewN 1).trans hb))
  rintro e k1 ⟨G1, L1, M1, rfl, hg, hb, n1, n2, n3⟩
  have HG1 := hide hg
  have HBk := hide (((Below.refl W0.heap.size W0).drewN 1).trans hb)
  have HN1 : Hid (W0.heap.size ≤ G1 ∧ W0.heap.size ≤ L1 ∧ W0.heap.size ≤ M1) := ⟨n1, n2, n3⟩
  clear hg hb n1 n2 n3
  go_wp2
  refine hK.out _ _ ?_
  clear hK K
  refine chainL_late (by simp only [List.getElem?_toArray, List.getElem?_cons_zero, List.getElem?_cons_succ]; rfl) ?_
  intro K hK
  go_wp2
  refine hK.out _ _ ?_
  clear hK K
  refine chainL_nil ?_
  have f0 : k1.cell? ⟨w.heap.size, 0, none⟩ = some (.pointer (some ⟨G, 0, none⟩)) := (HX.out.later HBk.out).cell 0
  have l0 := (HX.out.later HBk.out).lt
  obtain ⟨c0, c1, lG⟩ := (HG.out.later HBk.out).cursor
  obtain ⟨cap, ps, room, more, ha⟩ := HG1.out
  obtain ⟨d0, d1, d2, lG1, -, -⟩ := ha.three
  have hz := ha.top.frozen
  have HA := hide ha
  clear ha
  go_wp2
  go_ret
  have hcur := HA.out.cursor g.row g.col
  have e : ({ ls := gtab R (lAt g.ls), row := g.row, col := g.col } : Gd) = g := by
    have : gtab R (lAt g.ls) = g.ls := by rw [← HLen.out]; exact gtab_self _
    rw [this]
  refine ⟨G1, L1, M1, rfl, ?_, ?_, ?_, ?_, ?_⟩
  · rw [← e]; exact .of hcur
  · exact only2.below (HB.out.trans (HBk.out.mono HB.out.size)) (Nat.le_trans HB.out.size HBk.out.size) (Nat.le_trans HB.out.size HN1.out.1)
  · exact Nat.le_trans HB.out.size HN1.out.1
  · exact Nat.le_trans HB.out.size HN1.out.2.1
  · exact Nat.le_trans HB.out.size HN1.out.2.2
theorem copy_nil (w : World) : Calls Tryz.prog 21 #[.pointer none] w fun e w' => e = .returned (.pointer none) ∧ Below w.heap.size w w' := by
  have HB : Hid (Below w.heap.size w (w.alloc (.cells #[.pointer none] 24))) := (Below.refl _ _).alloc (Nat.le_refl _) _
  go_enter Tryz.func21, Tryz.ntmps21
  go_wp2
  go_ret
  exact ⟨rfl, HB.out⟩

/-! ### a grid of another size -/
set_option maxHeartbeats 2000000 in
theorem fit1_any (h : Grd w G L M R C g) (hC : C ≤ 512) (k C0 : Nat) (hC0 : C0 ≤ 512) {q q2 : Nat} (hq : Whole w q 24 [.pointer (some ⟨G, 0, none⟩)]) (hq2 : Whole w q2 3 [.int .i64 (C0 : Int)]) :
    Calls Tryz.prog 59 #[.int .i64 (k : Int), .pointer (some ⟨q, 0, none⟩), .pointer (some ⟨q2, 0, none⟩)] w (Tells C0 (fitC (lAt g.ls k) (C0 : Int)) w) := by
  have HG := hide h
  have H1 := hide hq
  have H2 := hide hq2
  have HN := hide (lenN_nat C0 hC0)
  have HLen := hide h.glen
  obtain ⟨X, hX⟩ : ∃ X, fitC (lAt g.ls k) (C0 : Int) = X := ⟨_, rfl⟩
  have HXL : Hid (X.length = C0) := by unfold Hid; rw [← hX, fit_len, lenN_nat C0 hC0]
  rw [hX]
  by_cases hk : k < R
  · have HLn : Hid ((lAt g.ls k).length = C) := by unfold Hid; obtain ⟨_, _, _, _, ha⟩ := h; exact ha.lenAt hk
    have HF := hide hX
    clear hX hq hq2 h
    go_enter Tryz.func59, Tryz.ntmps59
    go_wp2
    refine wp_region_chainL (fun w' => Below w.heap.size w w') 4 [(0, 1), (0, 0), (0, 3), (1, 2), (3, 4), (3, 5)] (by kernel_rfl) (by kernel_rfl) (by kernel_rfl) (fun _ _ _ _ _ h => h) ?_ ?_
    · exact (Below.refl _ _).drewN 1
    refine chainL_take (v := ?_) (by simp only [List.getElem?_toArray, List.getElem?_cons_zero, List.getElem?_cons_succ]; rfl) (by rfl) (fun w hS => ?_) ?_
    rotate_left
    · go_simp <;> with_reducible rfl
    simp only [Act.put, List.setIfInBounds_toArray, List.set_cons_zero, List.set_cons_succ]
    refine chainL_take (v := ?_) (by simp only [List.getElem?_toArray, List.getElem?_cons_zero]; rfl) (by rfl) (fun w hS => ?_) ?_
    rotate_left
    · have f0 := (H1.out.later hS).cell 0; go_simp <;> with_reducible rfl
    simp only [Act.put, List.setIfInBounds_toArray, List.set_cons_zero, List.set_cons_succ]
    refine chainL_take (v := ?_) (by simp only [List.getElem?_toArray, List.getElem?_cons_zero, List.getElem?_cons_succ]; rfl) (by rfl) (fun w hS => ?_) ?_
    rotate_left
    · have f0 := (H2.out.later hS).cell 0; go_simp <;> with_reducible rfl
    simp only [Act.put, List.setIfInBounds_toArray, List.set_cons_zero, List.set_cons_succ]
    refine chainL_alone (by simp only [List.getElem?_toArray, List.getElem?_cons_zero, List.getElem?_cons_succ]; rfl) ?_
    intro K hK
    go_wp2_with fail
    refine (gline_any (HG.out.later ((Below.refl _ _).drewN 1)) k (by unfold hasG; omega) (by omega)).mono ?_
    rintro e k1 ⟨v, rfl, hown⟩
    rw [Int.toNat_natCast] at hown
    obtain ⟨A1, c1, rfl, hc1, -⟩ := hown.form
    have Bk1 : Below w.heap.size w k1 := ((Below.refl _ _).drewN 1).trans hown.bel
    have HC1 := hide hc1
    clear hc1 hown
    rw [HLn.out]
    go_wp2
    refine hK.out _ _ (Bk1) ?_
    clear hK K
    refine chainL_late (by simp only [List.getElem?_toArray, List.getElem?_cons_zero, List.getElem?_cons_succ]; rfl) ?_
    intro K hK
    go_wp2_with fail
    refine (fit_v C0 HF.out HN.out HC1.out HLn.out).mono ?_
    rintro e k2 ⟨A2, c2, rfl, hc2, hb2⟩
    have HB2 := hide (Bk1.trans (hb2.mono Bk1.size))
    have HC2 := hide hc2
    clear hc2 hb2 Bk1
    go_wp2
    refine hK.out _ _ ?_
    clear hK K
    refine chainL_late (by simp only [List.getElem?_toArray, List.getElem?_cons_zero, List.getElem?_cons_succ]; rfl) ?_
    intro K hK
    go_wp2
    refine hK.out _ _ ?_
    clear hK K
    refine chainL_nil ?_
    go_wp2
    go_ret
    exact ⟨A2, c2, rfl, HB2.out, HC2.out, HXL.out⟩
  · have HF : Hid (fitC [] (C0 : Int) = X) := by
      unfold Hid
      rw [← hX]
      congr 1
      unfold lAt
      rw [List.getD_eq_getElem?_getD, List.getElem?_eq_none (by rw [h.glen]; omega)]
      rfl
    clear hX hq hq2 h
    go_enter Tryz.func59, Tryz.ntmps59
    go_wp2
    refine wp_region_chainL (fun w' => Below w.heap.size w w') 4 [(0, 1), (0, 0), (0, 3), (1, 2), (3, 4), (3, 5)] (by kernel_rfl) (by kernel_rfl) (by kernel_rfl) (fun _ _ _ _ _ h => h) ?_ ?_
    · exact (Below.refl _ _).drewN 1
    refine chainL_take (v := ?_) (by simp only [List.getElem?_toArray, List.getElem?_cons_zero, List.getElem?_cons_succ]; rfl) (by rfl) (fun w hS => ?_) ?_
    rotate_left
    · go_simp <;> with_reducible rfl
    simp only [Act.put, List.setIfInBounds_toArray, List.set_cons_zero, List.set_cons_succ]
    refine chainL_take (v := ?_) (by simp only [List.getElem?_toArray, List.getElem?_cons_zero]; rfl) (by rfl) (fun w hS => ?_) ?_
    rotate_left
    · have f0 := (H1.out.later hS).cell 0; go_simp <;> with_reducible rfl
    simp only [Act.put, List.setIfInBounds_toArray, List.set_cons_zero, List.set_cons_succ]
    refine chainL_take (v := ?_) (by simp only [List.getElem?_toArray, List.getElem?_cons_zero, List.getElem?_cons_succ]; rfl) (by rfl) (fun w hS => ?_) ?_
    rotate_left
    · have f0 := (H2.out.later hS).cell 0; go_simp <;> with_reducible rfl
    simp only [Act.put, List.setIfInBounds_toArray, List.set_cons_zero, List.set_cons_succ]
    refine chainL_alone (by simp only [List.getElem?_toArray, List.getElem?_cons_zero, List.getElem?_cons_succ]; rfl) ?_
    intro K hK
    go_wp2_with fail
    refine (gline_no (HG.out.later ((Below.refl _ _).drewN 1)) k (by unfold hasG; omega)).mono ?_
    rintro e k1 ⟨rfl, rfl⟩
    go_wp2
    refine hK.out _ _ ((Below.refl _ _).drewN 1) ?_
    clear hK K
    refine chainL_late (by simp only [List.getElem?_toArray, List.getElem?_cons_zero, List.getElem?_cons_succ]; rfl) ?_
    intro K hK
    go_wp2_with fail
    refine (fit_v C0 HF.out HN.out (A := none) (c := 0) (n := 0) .nil rfl).mono ?_
    rintro e k2 ⟨A2, c2, rfl, hc2, hb2⟩
    have HB2 := hide (((Below.refl w.heap.size w).drewN 1).trans hb2)
    have HC2 := hide hc2
    clear hc2 hb2
    go_wp2
    refine hK.out _ _ ?_
    clear hK K
    refine chainL_late (by simp only [List.getElem?_toArray, List.getElem?_cons_zero, List.getElem?_cons_succ]; rfl) ?_
    intro K hK
    go_wp2
    refine hK.out _ _ ?_
    clear hK K
    refine chainL_nil ?_
    go_wp2
    go_ret
    exact ⟨A2, c2, rfl, HB2.out, HC2.out, HXL.out⟩
set_option maxHeartbeats 4000000 in
theorem fit_yes (h : Grd w G L M R C g) (hC : C ≤ 512) (R0 C0 : Nat) (r1 : 1 ≤ R0) (r2 : R0 ≤ 512) (c1 : 1 ≤ C0) (c2 : C0 ≤ 512) :
    Calls Tryz.prog 23 #[.pointer (some ⟨G, 0, none⟩), .int .i64 (R0 : Int), .int .i64 (C0 : Int)] w (GaveG2 R0 C0 (fitG g R0 C0) w) := by
  obtain ⟨W0, hW0⟩ : ∃ W0, (w.alloc (.cells #[.pointer (some ⟨G, 0, none⟩)] 24)).alloc (.cells #[.int .i64 (C0 : Int)] 3) = W0 := ⟨_, rfl⟩
  have HX : Hid (Whole W0 w.heap.size 24 [.pointer (some ⟨G, 0, none⟩)]) := by unfold Hid; rw [← hW0]; exact (Whole.new w 24 [.pointer (some ⟨G, 0, none⟩)]).alloc _
  have HY : Hid (Whole W0 (w.heap.size + 1) 3 [.int .i64 (C0 : Int)]) := by unfold Hid; rw [← hW0]; exact whole_snd w _ 3 [.int .i64 (C0 : Int)]
  have HB : Hid (Below w.heap.size w W0) := by unfold Hid; rw [← hW0]; exact two_new w _ _ [.pointer (some ⟨G, 0, none⟩)] [.int .i64 (C0 : Int)]
  have HG := hide (h.later HB.out)
  have HW0 := hide hW0
  clear hW0 h
  have f0 : W0.cell? ⟨w.heap.size, 0, none⟩ = some (.pointer (some ⟨G, 0, none⟩)) := HX.out.cell 0
  have f1 : W0.cell? ⟨w.heap.size + 1, 0, none⟩ = some (.int .i64 (C0 : Int)) := HY.out.cell 0
  go_enter Tryz.func23, Tryz.ntmps23
  go_wp2_with fail
  rw [HW0.out]
  refine (side_any R0 W0).mono ?_
  rintro e w1 ⟨rfl, rfl⟩
  rw [sideB_yes r1 r2]
  go_wp2_with fail
  refine (side_any C0 W0).mono ?_
  rintro e w1 ⟨rfl, rfl⟩
  rw [sideB_yes c1 c2]
  go_wp2_with fail
  refine (made_any R0 C0 r2 c1 c2 59 _ (fun k => fitC (lAt g.ls k) (C0 : Int)) W0 (enter_of Tryz.func59 (by kernel_rfl) (by kernel_rfl)) ?_).mono ?_
  · intro k wr hk hb args hargs
    have ha2 : args = #[.int .i64 (k : Int), .pointer (some ⟨w.heap.size, 0, none⟩), .pointer (some ⟨w.heap.size + 1, 0, none⟩)] := by simpa using hargs
    subst ha2
    exact fit1_any (HG.out.later hb) hC k C0 c2 (HX.out.later hb) (HY.out.later hb)
  rintro e W3 ⟨G1, L1, M1, rfl, hg, hb, n1, n2, n3⟩
  have HX3 := hide (HX.out.later hb)
  have HG3 := hide (HG.out.later hb)
  have HN3 := hide hg
  have HB3 := hide (HB.out.trans (hb.mono HB.out.size))
  have H1 := hide (Nat.le_trans HB.out.size n1)
  have H2 := hide (Nat.le_trans HB.out.size n2)
  have H3 := hide (Nat.le_trans HB.out.size n3)
  clear hg hb n1 n2 n3 f0 f1
  have e1 : Hid (moveG ⟨gtab R0 (fun k => fitC (lAt g.ls k) (C0 : Int)), 0, 0⟩ g.row g.col C0 = fitG g R0 C0) := by
    unfold Hid moveG fitG
    simp only [gtab_len]
    congr 1
    exact gtab_eq fun i hi => (fitAtG_is _ _ _).symm
  have f0 : W3.cell? ⟨w.heap.size, 0, none⟩ = some (.pointer (some ⟨G, 0, none⟩)) := HX3.out.cell 0
  have l0 := HX3.out.lt
  obtain ⟨d0, d1, lG⟩ := HG3.out.cursor
  go_wp2
  refine wp_region_chainL (fun w' => Below W3.heap.size W3 w') 11 [(0, 0), (0, 1), (0, 2), (0, 3), (0, 4), (0, 5), (1, 6), (1, 7), (1, 8), (1, 9), (1, 10), (3, 11)] (by kernel_rfl) (by kernel_rfl) (by kernel_rfl) (fun _ _ _ _ _ h => h) ?_ ?_
  · exact (Below.refl _ _).drewN 1
  refine chainL_take (v := ?_) (by simp only [List.getElem?_toArray, List.getElem?_cons_zero]; rfl) (by rfl) (fun w hS => ?_) ?_
  rotate_left
  · go_simp <;> with_reducible rfl
  simp only [Act.put, List.setIfInBounds_toArray, List.set_cons_zero, List.set_cons_succ]
  refine chainL_take (v := ?_) (by simp only [List.getElem?_toArray, List.getElem?_cons_zero, List.getElem?_cons_succ]; rfl) (by rfl) (fun w hS => ?_) ?_
  rotate_left
  · have f2 := (HX3.out.later hS).cell 0; go_simp <;> with_reducible rfl
  simp only [Act.put, List.setIfInBounds_toArray, List.set_cons_zero, List.set_cons_succ]
  refine chainL_take (v := ?_) (by simp only [List.getElem?_toArray, List.getElem?_cons_zero, List.getElem?_cons_succ]; rfl) (by rfl) (fun w hS => ?_) ?_
  rotate_left
  · go_simp <;> with_reducible rfl
  simp only [Act.put, List.setIfInBounds_toArray, List.set_cons_zero, List.set_cons_succ]
  refine chainL_take (v := ?_) (by simp only [List.getElem?_toArray, List.getElem?_cons_zero, List.getElem?_cons_succ]; rfl) (by rfl) (fun w hS => ?_) ?_
  rotate_left
  · go_simp <;> with_reducible rfl
  simp only [Act.put, List.setIfInBounds_toArray, List.set_cons_zero, List.set_cons_succ]
  refine chainL_take (v := ?_) (by simp only [List.getElem?_toArray, List.getElem?_cons_zero, List.getElem?_cons_succ]; rfl) (by rfl) (fun w hS => ?_) ?_
  rotate_left
  · go_simp <;> with_reducible rfl
  simp only [Act.put, List.setIfInBounds_toArray, List.set_cons_zero, List.set_cons_succ]
  refine chainL_take (v := ?_) (by simp only [List.getElem?_toArray, List.getElem?_cons_zero, List.getElem?_cons_succ]; rfl) (by rfl) (fun w hS => ?_) ?_
  rotate_left
  · obtain ⟨b0, b1, -⟩ := (HG3.out.later hS).cursor; go_simp <;> with_reducible rfl
  simp only [Act.put, List.setIfInBounds_toArray, List.set_cons_zero, List.set_cons_succ]
  refine chainL_alone (by simp only [List.getElem?_toArray, List.getElem?_cons_zero, List.getElem?_cons_succ]; rfl) ?_
  intro K hK
  go_wp2
  refine hK.out _ _ ((Below.refl _ _).drewN 1) ?_
  clear hK K
  refine chainL_alone (by simp only [List.getElem?_toArray, List.getElem?_cons_zero, List.getElem?_cons_succ]; rfl) ?_
  intro K hK
  go_wp2
  refine hK.out _ _ ((Below.refl _ _).drewN 1) ?_
  clear hK K
  refine chainL_alone (by simp only [List.getElem?_toArray, List.getElem?_cons_zero, List.getElem?_cons_succ]; rfl) ?_
  intro K hK
  go_wp2
  refine hK.out _ _ ((Below.refl _ _).drewN 1) ?_
  clear hK K
  refine chainL_alone (by simp only [List.getElem?_toArray, List.getElem?_cons_zero, List.getElem?_cons_succ]; rfl) ?_
  intro K hK
  go_wp2
  refine hK.out _ _ ((Below.refl _ _).drewN 1) ?_
  clear hK K
  refine chainL_alone (by simp only [List.getElem?_toArray, List.getElem?_cons_zero, List.getElem?_cons_succ]; rfl) ?_
  intro K hK
  go_wp2
  refine hK.out _ _ ((Below.refl _ _).drewN 1) ?_
  clear hK K
  refine chainL_late (by simp only [List.getElem?_toArray, List.getElem?_cons_zero, List.getElem?_cons_succ]; rfl) ?_
  intro K hK
  go_wp2_with fail
  refine (move_any (HN3.out.later ((Below.refl _ _).drewN 1)) r1 r2 c1 c2 g.row g.col).mono ?_
  rintro e k1 ⟨rfl, hg, ho⟩
  have HGk := hide hg
  have HOk := hide ho
  clear hg ho
  go_wp2
  refine hK.out _ _ ?_
  clear hK K
  refine chainL_nil ?_
  go_wp2
  go_ret2
  refine ⟨G1, L1, M1, rfl, by rw [← e1.out]; exact HGk.out, ?_, H1.out, H2.out, H3.out⟩
  exact HOk.out.below (HB3.out.drewN 1) HB3.out.size H1.out
theorem fit_no (h : Grd w G L M R C g) (r c : Int) (hs : ¬ sizeN r c) : Calls Tryz.prog 23 #[.pointer (some ⟨G, 0, none⟩), .int .i64 r, .int .i64 c] w fun e w' => e = .returned (.tuple #[.pointer none, .int .i64 11]) ∧ Below w.heap.size w w' := by
  obtain ⟨W0, hW0⟩ : ∃ W0, (w.alloc (.cells #[.pointer (some ⟨G, 0, none⟩)] 24)).alloc (.cells #[.int .i64 c] 3) = W0 := ⟨_, rfl⟩
  have f0 : W0.cell? ⟨w.heap.size, 0, none⟩ = some (.pointer (some ⟨G, 0, none⟩)) := by rw [← hW0]; exact ((Whole.new w 24 [.pointer (some ⟨G, 0, none⟩)]).alloc _).cell 0
  have f1 : W0.cell? ⟨w.heap.size + 1, 0, none⟩ = some (.int .i64 c) := by rw [← hW0]; exact (whole_snd w _ 3 [.int .i64 c]).cell 0
  have HB : Hid (Below w.heap.size w W0) := by unfold Hid; rw [← hW0]; exact two_new w _ _ [.pointer (some ⟨G, 0, none⟩)] [.int .i64 c]
  have HW0 := hide hW0
  clear hW0 h
  by_cases h1 : sideB r = true
  · have h2 : sideB c = false := by
      unfold sideB at *
      simp only [decide_eq_true_eq] at h1
      simp only [decide_eq_false_iff_not]
      intro q
      exact hs ⟨h1, q⟩
    have H1 := hide h1
    have H2 := hide h2
    clear h1 h2 hs
    go_enter Tryz.func23, Tryz.ntmps23
    go_wp2_with fail
    rw [HW0.out]
    refine (side_any r W0).mono ?_
    rintro e w1 ⟨rfl, rfl⟩
    rw [H1.out]
    go_wp2_with fail
    refine (side_any c W0).mono ?_
    rintro e w1 ⟨rfl, rfl⟩
    rw [H2.out]
    go_wp2
    go_ret2
    exact ⟨rfl, HB.out⟩
  · have H1 : Hid (sideB r = false) := by unfold Hid; simpa using h1
    clear h1 hs
    go_enter Tryz.func23, Tryz.ntmps23
    go_wp2_with fail
    rw [HW0.out]
    refine (side_any r W0).mono ?_
    rintro e w1 ⟨rfl, rfl⟩
    rw [H1.out]
    go_wp2
    go_ret2
    exact ⟨rfl, HB.out⟩
theorem fit_nilG (r c : Int) (w : World) : Calls Tryz.prog 23 #[.pointer none, .int .i64 r, .int .i64 c] w fun e w' => e = .returned (.tuple #[.pointer none, .int .i64 1]) ∧ Below w.heap.size w w' := by
  have HB : Hid (Below w.heap.size w ((w.alloc (.cells #[.pointer none] 24)).alloc (.cells #[.int .i64 c] 3))) := two_new w _ _ [.pointer none] [.int .i64 c]
  go_enter Tryz.func23, Tryz.ntmps23
  go_wp2
  go_ret2
  exact ⟨rfl, HB.out⟩
end
end Go.Proofs.YtiifeniijcnahaaGreatDoor
