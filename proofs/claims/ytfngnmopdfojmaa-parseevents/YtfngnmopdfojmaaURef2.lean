/-
  Contracts of the document's own answers, on: beginnings, the scalar of just some bytes.
-/
import Derived.Test.YtfngnmopdfojmaaURef
import Derived.Test.YtfngnmopdfojmaaChainH
namespace Go.Proofs.Ytfngnmopdfojmaa
set_option maxRecDepth 100000
open Go.ChangeShapes Go.WideShapes Go.ChangeAt Go.RowKit
set_option linter.unusedVariables false

def begB (p : List Int) : Bool := decide (fit p = p.length)
theorem beg_iff (p : List Int) (hp : p ≠ []) (hb : Byte p) : begB p = true ↔ ((∃ m, 0 ≤ m ∧ m ≤ 55295 ∧ p <+: encS m) ∨ ∃ m, 57344 ≤ m ∧ m ≤ 1114111 ∧ p <+: encS m) := by
  cases p with
  | nil => exact absurd rfl hp
  | cons c r =>
    unfold begB
    rw [decide_eq_true_iff, ← begins_iff c r (hb c (by simp)).1]
    constructor
    · rintro ⟨m, h1, h2⟩
      rw [isSc_iff] at h1
      by_cases h : m ≤ 55295
      · exact .inl ⟨m, by omega, h, h2⟩
      · exact .inr ⟨m, by omega, by omega, h2⟩
    · rintro (⟨m, h1, h2, h3⟩ | ⟨m, h1, h2, h3⟩)
      · exact ⟨m, by rw [isSc_iff]; omega, h3⟩
      · exact ⟨m, by rw [isSc_iff]; omega, h3⟩
theorem beg_len (p : List Int) (h : 4 < p.length) : begB p = false := by
  cases p with
  | nil => simp at h
  | cons c r =>
    have := fit_sz c r
    have := sz_le c
    unfold begB; rw [decide_eq_false_iff_not]; omega

set_option maxHeartbeats 1000000 in
theorem begins_any (A : Option Addr) (n c : Nat) (p : List Int) (w : World) (hp : Ints .u8 w A p) (hn : p.length = n) (hl : n ≤ 1000000) (bp : Byte p) (h0 : 0 < n) :
    Calls Try.prog 49 #[.slice A n c] w (Said (begB p) w) := by
  have hne : p ≠ [] := by rintro rfl; simp at hn; omega
  have HI := hide (beg_iff p hne bp)
  have HF := hide (beg_len p)
  have HN := hide hn
  clear hn hne
  by_cases h4 : n ≤ 4
  · go_enter Try.func49, Try.ntmps49
    go_wp2_with fail
    refine (within_any A n c p 0 55295 w hp HN.out hl bp (by omega) (by omega) (by omega) (by omega)).mono ?_
    rintro e w1 ⟨b1, rfl, hb1, hbel⟩
    cases b1 with
    | true =>
      have HB := hide (HI.out.2 (.inl (hb1.1 rfl)))
      clear hb1
      go_wp2
      go_ret
      exact ⟨ret_bool HB.out.symm, hbel⟩
    | false =>
      have HB1 : Hid (¬ ∃ m, 0 ≤ m ∧ m ≤ 55295 ∧ p <+: encS m) := fun h => by have := hb1.2 h; cases this
      clear hb1
      go_wp2_with fail
      refine (within_any A n c p 57344 1114111 w1 (hp.below hbel) HN.out hl bp (by omega) (by omega) (by omega) (by omega)).mono ?_
      rintro e w2 ⟨b2, rfl, hb2, hbel2⟩
      have HB2 := hide hb2
      clear hb2
      go_wp2
      go_ret
      refine ⟨ret_bool ?_, hbel.trans (hbel2.mono hbel.size)⟩
      rw [Bool.eq_iff_iff, HB2.out, HI.out]
      constructor
      · exact .inr
      · rintro (h | h)
        · exact absurd h HB1.out
        · exact h
  · have h4' : decide ((n : Int) ≤ 4) = false := by simp; omega
    go_enter Try.func49, Try.ntmps49
    go_wp2
    go_ret
    exact ⟨ret_bool (HF.out (by rw [HN.out]; omega)).symm, Below.refl _ _⟩

/-- The call answered with a number and a bool, and left all that was there. -/
def Both (r : Int) (b : Bool) (w : World) (e : Ending) (w' : World) : Prop := e = .returned (.tuple #[.int .i64 r, .bool b]) ∧ Below w.heap.size w w'
def wholeB (p : List Int) : Bool := isSc (joinV p) && decide (encS (joinV p) = p)

set_option maxHeartbeats 2000000 in
theorem rscal1 (A : Option Addr) (a : Int) (c : Nat) (w : World) (hp : Ints .u8 w A [a]) (hy : Byte [a]) : Calls Try.prog 50 #[.slice A 1 c] w (Both (joinV [a]) (wholeB [a]) w) := by
  obtain ⟨B, off, rfl, c0, hB⟩ := hp.at (i := 0) (by simp)
  simp only [List.getD_cons_zero, Nat.add_zero] at c0
  have y0 : 0 ≤ a ∧ a ≤ 255 := hy a (by simp)
  obtain ⟨l0, m0⟩ := y0
  have HY := hide hy
  clear hy
  have HW : Hid (wholeB [a] = (isSc a && decide (encS a = [a]))) := by unfold Hid; rfl
  have HJ : Hid (joinV [a] = a) := by unfold Hid; rfl
  by_cases hs : isSc a = true
  · have hs' := hs
    clear hs
    have HS : Hid (∀ w', Below w.heap.size w w' → (convert 35 9 (.slice (some ⟨B, off, none⟩) 1 c)).run Try.prog w' = .ok (.string (strOf [a])) w') := fun w' h =>
      run_strOf (P := Try.prog) w' 35 9 5 Try.underlying35 Try.underlying5 Try.underlying9 _ c [a] (hp.below h) HY.out
    go_enter Try.func50, Try.ntmps50
    go_wp2
    refine wp_region_chainH (fun w' => Below w.heap.size w w') [(true, 0), (false, 1), (false, 2), (false, 3), (true, 4), (true, 7), (true, 8), (false, 5), (true, 11), (false, 6), (false, 9), (false, 10), (false, 12)] (by kernel_rfl) (by kernel_rfl) (by kernel_rfl) (fun _ _ _ _ _ h => h) ?_ ?_
    · exact ((Below.refl _ _).drewN 1)
    refine chainH_take (v := ?_) (by simp only [List.getElem?_toArray, List.getElem?_cons_zero]; rfl) (by rfl) (fun w hS => ?_) ?_
    rotate_left
    · go_simp <;> with_reducible rfl
    simp only [Act.put, List.setIfInBounds_toArray, List.set_cons_zero, List.set_cons_succ]
    refine chainH_alone (by simp only [List.getElem?_toArray, List.getElem?_cons_zero, List.getElem?_cons_succ]; rfl) ?_
    intro K hK
    go_wp2
    refine hK.out _ _ ((Below.refl _ _).drewN 1) ?_
    clear hK K
    refine chainH_alone (by simp only [List.getElem?_toArray, List.getElem?_cons_zero, List.getElem?_cons_succ]; rfl) ?_
    intro K hK
    go_wp2_with fail
    refine (rscalar_any _ _).mono ?_
    rintro e w' ⟨rfl, rfl⟩
    go_wp2
    refine hK.out _ _ ((Below.refl _ _).drewN 1) ?_
    clear hK K
    refine chainH_alone (by simp only [List.getElem?_toArray, List.getElem?_cons_zero, List.getElem?_cons_succ]; rfl) ?_
    intro K hK
    go_wp2
    refine hK.out _ _ ((Below.refl _ _).drewN 1) ?_
    clear hK K
    refine chainH_take (v := ?_) (by simp only [List.getElem?_toArray, List.getElem?_cons_zero, List.getElem?_cons_succ]; rfl) (by rfl) (fun w hS => ?_) ?_
    rotate_left
    · go_simp <;> with_reducible rfl
    simp only [Act.put, List.setIfInBounds_toArray, List.set_cons_zero, List.set_cons_succ]
    refine chainH_take (v := ?_) (by simp only [List.getElem?_toArray, List.getElem?_cons_zero, List.getElem?_cons_succ]; rfl) (by rfl) (fun w hS => ?_) ?_
    rotate_left
    · go_simp <;> with_reducible rfl
    simp only [Act.put, List.setIfInBounds_toArray, List.set_cons_zero, List.set_cons_succ]
    refine chainH_take (v := ?_) (by simp only [List.getElem?_toArray, List.getElem?_cons_zero, List.getElem?_cons_succ]; rfl) (by rfl) (fun w hS => ?_) ?_
    rotate_left
    · have := HS.out w hS; go_simp <;> with_reducible rfl
    simp only [Act.put, List.setIfInBounds_toArray, List.set_cons_zero, List.set_cons_succ]
    refine chainH_alone (by simp only [List.getElem?_toArray, List.getElem?_cons_zero, List.getElem?_cons_succ]; rfl) ?_
    intro K hK
    go_wp2_with fail
    refine (rbytes_sc _ _ hs').mono ?_
    rintro e w1 ⟨v, rfl, hv⟩
    obtain ⟨A1, c1, rfl, hi1, hc1, hA1⟩ := hv.form
    have hb2 : Below w.heap.size w w1 := ((Below.refl _ _).drewN 1).trans (hv.bel.mono (Nat.le_refl _))
    have r2 := run_strOf (P := Try.prog) w1 35 9 5 Try.underlying35 Try.underlying5 Try.underlying9 A1 c1 _ hi1 (encS_byte _ hs')
    go_wp2
    refine hK.out _ _ hb2 ?_
    clear hK K
    refine chainH_take (v := ?_) (by simp only [List.getElem?_toArray, List.getElem?_cons_zero, List.getElem?_cons_succ]; rfl) (by rfl) (fun w hS => ?_) ?_
    rotate_left
    · go_simp <;> with_reducible rfl
    simp only [Act.put, List.setIfInBounds_toArray, List.set_cons_zero, List.set_cons_succ]
    refine chainH_alone (by simp only [List.getElem?_toArray, List.getElem?_cons_zero, List.getElem?_cons_succ]; rfl) ?_
    intro K hK
    go_wp2
    refine hK.out _ _ hb2 ?_
    clear hK K
    refine chainH_alone (by simp only [List.getElem?_toArray, List.getElem?_cons_zero, List.getElem?_cons_succ]; rfl) ?_
    intro K hK
    go_wp2
    refine hK.out _ _ hb2 ?_
    clear hK K
    refine chainH_alone (by simp only [List.getElem?_toArray, List.getElem?_cons_zero, List.getElem?_cons_succ]; rfl) ?_
    intro K hK
    go_wp2
    refine hK.out _ _ hb2 ?_
    clear hK K
    refine chainH_alone (by simp only [List.getElem?_toArray, List.getElem?_cons_zero, List.getElem?_cons_succ]; rfl) ?_
    intro K hK
    go_wp2
    refine hK.out _ _ hb2 ?_
    clear hK K
    refine chainH_nil ?_
    go_wp2
    go_ret2
    exact ⟨by rw [HJ.out, HW.out, hs', strOf_beq _ _ (encS_byte _ hs') HY.out, Bool.true_and]; rfl, hb2⟩
  · have hs' : isSc a = false := by simpa using hs
    clear hs
    go_enter Try.func50, Try.ntmps50
    go_wp2
    go_quiet ((go_at_call 53; exact Calls.quiet_of_same ((rscalar_any _ _).mono fun e w' h => ⟨h.1, h.2.symm⟩)))
    go_wp2
    go_ret2
    exact ⟨by rw [HJ.out, HW.out, hs', Bool.false_and]; rfl, (Below.refl _ _).drewN _⟩

set_option maxHeartbeats 2000000 in
theorem rscal2 (A : Option Addr) (a b : Int) (c : Nat) (w : World) (hp : Ints .u8 w A [a, b]) (hy : Byte [a, b]) : Calls Try.prog 50 #[.slice A 2 c] w (Both (joinV [a, b]) (wholeB [a, b]) w) := by
  obtain ⟨B, off, rfl, c0, hB⟩ := hp.at (i := 0) (by simp)
  obtain ⟨B1, off1, q1, c1, _⟩ := hp.at (i := 1) (by simp)
  cases q1
  simp only [List.getD_cons_zero, Nat.add_zero] at c0
  have y0 : 0 ≤ a ∧ a ≤ 255 := hy a (by simp)
  obtain ⟨l0, m0⟩ := y0
  simp only [List.getD_cons_zero, List.getD_cons_succ] at c1
  have y1 : 0 ≤ b ∧ b ≤ 255 := hy b (by simp)
  obtain ⟨l1, m1⟩ := y1
  have HY := hide hy
  clear hy
  obtain ⟨R, hR⟩ : ∃ R, R = (a - 192) * 64 + b - 128 := ⟨_, rfl⟩
  have HW : Hid (wholeB [a, b] = (isSc R && decide (encS R = [a, b]))) := by unfold Hid; rw [hR]; rfl
  have HJ : Hid (joinV [a, b] = R) := by unfold Hid; rw [hR]; rfl
  have HR := hide hR
  clear hR
  by_cases hs : isSc R = true
  · have hs' := hs
    clear hs
    have HS : Hid (∀ w', Below w.heap.size w w' → (convert 35 9 (.slice (some ⟨B, off, none⟩) 2 c)).run Try.prog w' = .ok (.string (strOf [a, b])) w') := fun w' h =>
      run_strOf (P := Try.prog) w' 35 9 5 Try.underlying35 Try.underlying5 Try.underlying9 _ c [a, b] (hp.below h) HY.out
    go_enter Try.func50, Try.ntmps50
    go_wp2
    rw [← HR.out]
    refine wp_region_chainH (fun w' => Below w.heap.size w w') [(true, 0), (false, 1), (false, 2), (false, 3), (true, 4), (true, 7), (true, 8), (false, 5), (true, 11), (false, 6), (false, 9), (false, 10), (false, 12)] (by kernel_rfl) (by kernel_rfl) (by kernel_rfl) (fun _ _ _ _ _ h => h) ?_ ?_
    · exact ((Below.refl _ _).drewN 1)
    refine chainH_take (v := ?_) (by simp only [List.getElem?_toArray, List.getElem?_cons_zero]; rfl) (by rfl) (fun w hS => ?_) ?_
    rotate_left
    · go_simp <;> with_reducible rfl
    simp only [Act.put, List.setIfInBounds_toArray, List.set_cons_zero, List.set_cons_succ]
    refine chainH_alone (by simp only [List.getElem?_toArray, List.getElem?_cons_zero, List.getElem?_cons_succ]; rfl) ?_
    intro K hK
    go_wp2
    refine hK.out _ _ ((Below.refl _ _).drewN 1) ?_
    clear hK K
    refine chainH_alone (by simp only [List.getElem?_toArray, List.getElem?_cons_zero, List.getElem?_cons_succ]; rfl) ?_
    intro K hK
    go_wp2_with fail
    refine (rscalar_any _ _).mono ?_
    rintro e w' ⟨rfl, rfl⟩
    go_wp2
    refine hK.out _ _ ((Below.refl _ _).drewN 1) ?_
    clear hK K
    refine chainH_alone (by simp only [List.getElem?_toArray, List.getElem?_cons_zero, List.getElem?_cons_succ]; rfl) ?_
    intro K hK
    go_wp2
    refine hK.out _ _ ((Below.refl _ _).drewN 1) ?_
    clear hK K
    refine chainH_take (v := ?_) (by simp only [List.getElem?_toArray, List.getElem?_cons_zero, List.getElem?_cons_succ]; rfl) (by rfl) (fun w hS => ?_) ?_
    rotate_left
    · go_simp <;> with_reducible rfl
    simp only [Act.put, List.setIfInBounds_toArray, List.set_cons_zero, List.set_cons_succ]
    refine chainH_take (v := ?_) (by simp only [List.getElem?_toArray, List.getElem?_cons_zero, List.getElem?_cons_succ]; rfl) (by rfl) (fun w hS => ?_) ?_
    rotate_left
    · go_simp <;> with_reducible rfl
    simp only [Act.put, List.setIfInBounds_toArray, List.set_cons_zero, List.set_cons_succ]
    refine chainH_take (v := ?_) (by simp only [List.getElem?_toArray, List.getElem?_cons_zero, List.getElem?_cons_succ]; rfl) (by rfl) (fun w hS => ?_) ?_
    rotate_left
    · have := HS.out w hS; go_simp <;> with_reducible rfl
    simp only [Act.put, List.setIfInBounds_toArray, List.set_cons_zero, List.set_cons_succ]
    refine chainH_alone (by simp only [List.getElem?_toArray, List.getElem?_cons_zero, List.getElem?_cons_succ]; rfl) ?_
    intro K hK
    go_wp2_with fail
    refine (rbytes_sc _ _ hs').mono ?_
    rintro e w1 ⟨v, rfl, hv⟩
    obtain ⟨A1, c1, rfl, hi1, hc1, hA1⟩ := hv.form
    have hb2 : Below w.heap.size w w1 := ((Below.refl _ _).drewN 1).trans (hv.bel.mono (Nat.le_refl _))
    have r2 := run_strOf (P := Try.prog) w1 35 9 5 Try.underlying35 Try.underlying5 Try.underlying9 A1 c1 _ hi1 (encS_byte _ hs')
    go_wp2
    refine hK.out _ _ hb2 ?_
    clear hK K
    refine chainH_take (v := ?_) (by simp only [List.getElem?_toArray, List.getElem?_cons_zero, List.getElem?_cons_succ]; rfl) (by rfl) (fun w hS => ?_) ?_
    rotate_left
    · go_simp <;> with_reducible rfl
    simp only [Act.put, List.setIfInBounds_toArray, List.set_cons_zero, List.set_cons_succ]
    refine chainH_alone (by simp only [List.getElem?_toArray, List.getElem?_cons_zero, List.getElem?_cons_succ]; rfl) ?_
    intro K hK
    go_wp2
    refine hK.out _ _ hb2 ?_
    clear hK K
    refine chainH_alone (by simp only [List.getElem?_toArray, List.getElem?_cons_zero, List.getElem?_cons_succ]; rfl) ?_
    intro K hK
    go_wp2
    refine hK.out _ _ hb2 ?_
    clear hK K
    refine chainH_alone (by simp only [List.getElem?_toArray, List.getElem?_cons_zero, List.getElem?_cons_succ]; rfl) ?_
    intro K hK
    go_wp2
    refine hK.out _ _ hb2 ?_
    clear hK K
    refine chainH_alone (by simp only [List.getElem?_toArray, List.getElem?_cons_zero, List.getElem?_cons_succ]; rfl) ?_
    intro K hK
    go_wp2
    refine hK.out _ _ hb2 ?_
    clear hK K
    refine chainH_nil ?_
    go_wp2
    go_ret2
    exact ⟨by rw [HJ.out, HW.out, hs', strOf_beq _ _ (encS_byte _ hs') HY.out, Bool.true_and]; rfl, hb2⟩
  · have hs' : isSc R = false := by simpa using hs
    clear hs
    go_enter Try.func50, Try.ntmps50
    go_wp2
    rw [← HR.out]
    go_quiet ((go_at_call 53; exact Calls.quiet_of_same ((rscalar_any _ _).mono fun e w' h => ⟨h.1, h.2.symm⟩)))
    go_wp2
    go_ret2
    exact ⟨by rw [HJ.out, HW.out, hs', Bool.false_and]; rfl, (Below.refl _ _).drewN _⟩

set_option maxHeartbeats 2000000 in
theorem rscal3 (A : Option Addr) (a b d : Int) (c : Nat) (w : World) (hp : Ints .u8 w A [a, b, d]) (hy : Byte [a, b, d]) : Calls Try.prog 50 #[.slice A 3 c] w (Both (joinV [a, b, d]) (wholeB [a, b, d]) w) := by
  obtain ⟨B, off, rfl, c0, hB⟩ := hp.at (i := 0) (by simp)
  obtain ⟨B1, off1, q1, c1, _⟩ := hp.at (i := 1) (by simp)
  cases q1
  obtain ⟨B2, off2, q2, c2, _⟩ := hp.at (i := 2) (by simp)
  cases q2
  simp only [List.getD_cons_zero, Nat.add_zero] at c0
  have y0 : 0 ≤ a ∧ a ≤ 255 := hy a (by simp)
  obtain ⟨l0, m0⟩ := y0
  simp only [List.getD_cons_zero, List.getD_cons_succ] at c1
  have y1 : 0 ≤ b ∧ b ≤ 255 := hy b (by simp)
  obtain ⟨l1, m1⟩ := y1
  simp only [List.getD_cons_zero, List.getD_cons_succ] at c2
  have y2 : 0 ≤ d ∧ d ≤ 255 := hy d (by simp)
  obtain ⟨l2, m2⟩ := y2
  have HY := hide hy
  clear hy
  obtain ⟨R, hR⟩ : ∃ R, R = (a - 224) * 4096 + (b - 128) * 64 + d - 128 := ⟨_, rfl⟩
  have HW : Hid (wholeB [a, b, d] = (isSc R && decide (encS R = [a, b, d]))) := by unfold Hid; rw [hR]; rfl
  have HJ : Hid (joinV [a, b, d] = R) := by unfold Hid; rw [hR]; rfl
  have HR := hide hR
  clear hR
  by_cases hs : isSc R = true
  · have hs' := hs
    clear hs
    have HS : Hid (∀ w', Below w.heap.size w w' → (convert 35 9 (.slice (some ⟨B, off, none⟩) 3 c)).run Try.prog w' = .ok (.string (strOf [a, b, d])) w') := fun w' h =>
      run_strOf (P := Try.prog) w' 35 9 5 Try.underlying35 Try.underlying5 Try.underlying9 _ c [a, b, d] (hp.below h) HY.out
    go_enter Try.func50, Try.ntmps50
    go_wp2
    go_quiet (fail)
    go_wp2
    have hb0 : Below w.heap.size w (w.drewN nq) := (Below.refl _ _).drewN _
    generalize w.drewN nq = w0 at *
    rw [← HR.out]
    refine wp_region_chainH (fun w' => Below w.heap.size w w') [(true, 0), (false, 1), (false, 2), (false, 3), (true, 4), (true, 7), (true, 8), (false, 5), (true, 11), (false, 6), (false, 9), (false, 10), (false, 12)] (by kernel_rfl) (by kernel_rfl) (by kernel_rfl) (fun _ _ _ _ _ h => h) ?_ ?_
    · exact (hb0.drewN 1)
    refine chainH_take (v := ?_) (by simp only [List.getElem?_toArray, List.getElem?_cons_zero]; rfl) (by rfl) (fun w hS => ?_) ?_
    rotate_left
    · go_simp <;> with_reducible rfl
    simp only [Act.put, List.setIfInBounds_toArray, List.set_cons_zero, List.set_cons_succ]
    refine chainH_alone (by simp only [List.getElem?_toArray, List.getElem?_cons_zero, List.getElem?_cons_succ]; rfl) ?_
    intro K hK
    go_wp2
    refine hK.out _ _ (hb0.drewN 1) ?_
    clear hK K
    refine chainH_alone (by simp only [List.getElem?_toArray, List.getElem?_cons_zero, List.getElem?_cons_succ]; rfl) ?_
    intro K hK
    go_wp2_with fail
    refine (rscalar_any _ _).mono ?_
    rintro e w' ⟨rfl, rfl⟩
    go_wp2
    refine hK.out _ _ (hb0.drewN 1) ?_
    clear hK K
    refine chainH_alone (by simp only [List.getElem?_toArray, List.getElem?_cons_zero, List.getElem?_cons_succ]; rfl) ?_
    intro K hK
    go_wp2
    refine hK.out _ _ (hb0.drewN 1) ?_
    clear hK K
    refine chainH_take (v := ?_) (by simp only [List.getElem?_toArray, List.getElem?_cons_zero, List.getElem?_cons_succ]; rfl) (by rfl) (fun w hS => ?_) ?_
    rotate_left
    · go_simp <;> with_reducible rfl
    simp only [Act.put, List.setIfInBounds_toArray, List.set_cons_zero, List.set_cons_succ]
    refine chainH_take (v := ?_) (by simp only [List.getElem?_toArray, List.getElem?_cons_zero, List.getElem?_cons_succ]; rfl) (by rfl) (fun w hS => ?_) ?_
    rotate_left
    · go_simp <;> with_reducible rfl
    simp only [Act.put, List.setIfInBounds_toArray, List.set_cons_zero, List.set_cons_succ]
    refine chainH_take (v := ?_) (by simp only [List.getElem?_toArray, List.getElem?_cons_zero, List.getElem?_cons_succ]; rfl) (by rfl) (fun w hS => ?_) ?_
    rotate_left
    · have := HS.out w hS; go_simp <;> with_reducible rfl
    simp only [Act.put, List.setIfInBounds_toArray, List.set_cons_zero, List.set_cons_succ]
    refine chainH_alone (by simp only [List.getElem?_toArray, List.getElem?_cons_zero, List.getElem?_cons_succ]; rfl) ?_
    intro K hK
    go_wp2_with fail
    refine (rbytes_sc _ _ hs').mono ?_
    rintro e w1 ⟨v, rfl, hv⟩
    obtain ⟨A1, c1, rfl, hi1, hc1, hA1⟩ := hv.form
    have hb2 : Below w.heap.size w w1 := (hb0.drewN 1).trans (hv.bel.mono hb0.size)
    have r2 := run_strOf (P := Try.prog) w1 35 9 5 Try.underlying35 Try.underlying5 Try.underlying9 A1 c1 _ hi1 (encS_byte _ hs')
    go_wp2
    refine hK.out _ _ hb2 ?_
    clear hK K
    refine chainH_take (v := ?_) (by simp only [List.getElem?_toArray, List.getElem?_cons_zero, List.getElem?_cons_succ]; rfl) (by rfl) (fun w hS => ?_) ?_
    rotate_left
    · go_simp <;> with_reducible rfl
    simp only [Act.put, List.setIfInBounds_toArray, List.set_cons_zero, List.set_cons_succ]
    refine chainH_alone (by simp only [List.getElem?_toArray, List.getElem?_cons_zero, List.getElem?_cons_succ]; rfl) ?_
    intro K hK
    go_wp2
    refine hK.out _ _ hb2 ?_
    clear hK K
    refine chainH_alone (by simp only [List.getElem?_toArray, List.getElem?_cons_zero, List.getElem?_cons_succ]; rfl) ?_
    intro K hK
    go_wp2
    refine hK.out _ _ hb2 ?_
    clear hK K
    refine chainH_alone (by simp only [List.getElem?_toArray, List.getElem?_cons_zero, List.getElem?_cons_succ]; rfl) ?_
    intro K hK
    go_wp2
    refine hK.out _ _ hb2 ?_
    clear hK K
    refine chainH_alone (by simp only [List.getElem?_toArray, List.getElem?_cons_zero, List.getElem?_cons_succ]; rfl) ?_
    intro K hK
    go_wp2
    refine hK.out _ _ hb2 ?_
    clear hK K
    refine chainH_nil ?_
    go_wp2
    go_ret2
    exact ⟨by rw [HJ.out, HW.out, hs', strOf_beq _ _ (encS_byte _ hs') HY.out, Bool.true_and]; rfl, hb2⟩
  · have hs' : isSc R = false := by simpa using hs
    clear hs
    go_enter Try.func50, Try.ntmps50
    go_wp2
    go_quiet (fail)
    go_wp2
    have hb0 : Below w.heap.size w (w.drewN nq) := (Below.refl _ _).drewN _
    generalize w.drewN nq = w0 at *
    rw [← HR.out]
    go_quiet ((go_at_call 53; exact Calls.quiet_of_same ((rscalar_any _ _).mono fun e w' h => ⟨h.1, h.2.symm⟩)))
    go_wp2
    go_ret2
    exact ⟨by rw [HJ.out, HW.out, hs', Bool.false_and]; rfl, hb0.drewN _⟩

set_option maxHeartbeats 2000000 in
theorem rscal4 (A : Option Addr) (a b d e : Int) (c : Nat) (w : World) (hp : Ints .u8 w A [a, b, d, e]) (hy : Byte [a, b, d, e]) : Calls Try.prog 50 #[.slice A 4 c] w (Both (joinV [a, b, d, e]) (wholeB [a, b, d, e]) w) := by
  obtain ⟨B, off, rfl, c0, hB⟩ := hp.at (i := 0) (by simp)
  obtain ⟨B1, off1, q1, c1, _⟩ := hp.at (i := 1) (by simp)
  cases q1
  obtain ⟨B2, off2, q2, c2, _⟩ := hp.at (i := 2) (by simp)
  cases q2
  obtain ⟨B3, off3, q3, c3, _⟩ := hp.at (i := 3) (by simp)
  cases q3
  simp only [List.getD_cons_zero, Nat.add_zero] at c0
  have y0 : 0 ≤ a ∧ a ≤ 255 := hy a (by simp)
  obtain ⟨l0, m0⟩ := y0
  simp only [List.getD_cons_zero, List.getD_cons_succ] at c1
  have y1 : 0 ≤ b ∧ b ≤ 255 := hy b (by simp)
  obtain ⟨l1, m1⟩ := y1
  simp only [List.getD_cons_zero, List.getD_cons_succ] at c2
  have y2 : 0 ≤ d ∧ d ≤ 255 := hy d (by simp)
  obtain ⟨l2, m2⟩ := y2
  simp only [List.getD_cons_zero, List.getD_cons_succ] at c3
  have y3 : 0 ≤ e ∧ e ≤ 255 := hy e (by simp)
  obtain ⟨l3, m3⟩ := y3
  have HY := hide hy
  clear hy
  obtain ⟨R, hR⟩ : ∃ R, R = (a - 240) * 262144 + (b - 128) * 4096 + (d - 128) * 64 + e - 128 := ⟨_, rfl⟩
  have HW : Hid (wholeB [a, b, d, e] = (isSc R && decide (encS R = [a, b, d, e]))) := by unfold Hid; rw [hR]; rfl
  have HJ : Hid (joinV [a, b, d, e] = R) := by unfold Hid; rw [hR]; rfl
  have HR := hide hR
  clear hR
  by_cases hs : isSc R = true
  · have hs' := hs
    clear hs
    have HS : Hid (∀ w', Below w.heap.size w w' → (convert 35 9 (.slice (some ⟨B, off, none⟩) 4 c)).run Try.prog w' = .ok (.string (strOf [a, b, d, e])) w') := fun w' h =>
      run_strOf (P := Try.prog) w' 35 9 5 Try.underlying35 Try.underlying5 Try.underlying9 _ c [a, b, d, e] (hp.below h) HY.out
    go_enter Try.func50, Try.ntmps50
    go_wp2
    go_quiet (fail)
    go_wp2
    have hb0 : Below w.heap.size w (w.drewN nq) := (Below.refl _ _).drewN _
    generalize w.drewN nq = w0 at *
    rw [← HR.out]
    refine wp_region_chainH (fun w' => Below w.heap.size w w') [(true, 0), (false, 1), (false, 2), (false, 3), (true, 4), (true, 7), (true, 8), (false, 5), (true, 11), (false, 6), (false, 9), (false, 10), (false, 12)] (by kernel_rfl) (by kernel_rfl) (by kernel_rfl) (fun _ _ _ _ _ h => h) ?_ ?_
    · exact (hb0.drewN 1)
    refine chainH_take (v := ?_) (by simp only [List.getElem?_toArray, List.getElem?_cons_zero]; rfl) (by rfl) (fun w hS => ?_) ?_
    rotate_left
    · go_simp <;> with_reducible rfl
    simp only [Act.put, List.setIfInBounds_toArray, List.set_cons_zero, List.set_cons_succ]
    refine chainH_alone (by simp only [List.getElem?_toArray, List.getElem?_cons_zero, List.getElem?_cons_succ]; rfl) ?_
    intro K hK
    go_wp2
    refine hK.out _ _ (hb0.drewN 1) ?_
    clear hK K
    refine chainH_alone (by simp only [List.getElem?_toArray, List.getElem?_cons_zero, List.getElem?_cons_succ]; rfl) ?_
    intro K hK
    go_wp2_with fail
    refine (rscalar_any _ _).mono ?_
    rintro e w' ⟨rfl, rfl⟩
    go_wp2
    refine hK.out _ _ (hb0.drewN 1) ?_
    clear hK K
    refine chainH_alone (by simp only [List.getElem?_toArray, List.getElem?_cons_zero, List.getElem?_cons_succ]; rfl) ?_
    intro K hK
    go_wp2
    refine hK.out _ _ (hb0.drewN 1) ?_
    clear hK K
    refine chainH_take (v := ?_) (by simp only [List.getElem?_toArray, List.getElem?_cons_zero, List.getElem?_cons_succ]; rfl) (by rfl) (fun w hS => ?_) ?_
    rotate_left
    · go_simp <;> with_reducible rfl
    simp only [Act.put, List.setIfInBounds_toArray, List.set_cons_zero, List.set_cons_succ]
    refine chainH_take (v := ?_) (by simp only [List.getElem?_toArray, List.getElem?_cons_zero, List.getElem?_cons_succ]; rfl) (by rfl) (fun w hS => ?_) ?_
    rotate_left
    · go_simp <;> with_reducible rfl
    simp only [Act.put, List.setIfInBounds_toArray, List.set_cons_zero, List.set_cons_succ]
    refine chainH_take (v := ?_) (by simp only [List.getElem?_toArray, List.getElem?_cons_zero, List.getElem?_cons_succ]; rfl) (by rfl) (fun w hS => ?_) ?_
    rotate_left
    · have := HS.out w hS; go_simp <;> with_reducible rfl
    simp only [Act.put, List.setIfInBounds_toArray, List.set_cons_zero, List.set_cons_succ]
    refine chainH_alone (by simp only [List.getElem?_toArray, List.getElem?_cons_zero, List.getElem?_cons_succ]; rfl) ?_
    intro K hK
    go_wp2_with fail
    refine (rbytes_sc _ _ hs').mono ?_
    rintro e w1 ⟨v, rfl, hv⟩
    obtain ⟨A1, c1, rfl, hi1, hc1, hA1⟩ := hv.form
    have hb2 : Below w.heap.size w w1 := (hb0.drewN 1).trans (hv.bel.mono hb0.size)
    have r2 := run_strOf (P := Try.prog) w1 35 9 5 Try.underlying35 Try.underlying5 Try.underlying9 A1 c1 _ hi1 (encS_byte _ hs')
    go_wp2
    refine hK.out _ _ hb2 ?_
    clear hK K
    refine chainH_take (v := ?_) (by simp only [List.getElem?_toArray, List.getElem?_cons_zero, List.getElem?_cons_succ]; rfl) (by rfl) (fun w hS => ?_) ?_
    rotate_left
    · go_simp <;> with_reducible rfl
    simp only [Act.put, List.setIfInBounds_toArray, List.set_cons_zero, List.set_cons_succ]
    refine chainH_alone (by simp only [List.getElem?_toArray, List.getElem?_cons_zero, List.getElem?_cons_succ]; rfl) ?_
    intro K hK
    go_wp2
    refine hK.out _ _ hb2 ?_
    clear hK K
    refine chainH_alone (by simp only [List.getElem?_toArray, List.getElem?_cons_zero, List.getElem?_cons_succ]; rfl) ?_
    intro K hK
    go_wp2
    refine hK.out _ _ hb2 ?_
    clear hK K
    refine chainH_alone (by simp only [List.getElem?_toArray, List.getElem?_cons_zero, List.getElem?_cons_succ]; rfl) ?_
    intro K hK
    go_wp2
    refine hK.out _ _ hb2 ?_
    clear hK K
    refine chainH_alone (by simp only [List.getElem?_toArray, List.getElem?_cons_zero, List.getElem?_cons_succ]; rfl) ?_
    intro K hK
    go_wp2
    refine hK.out _ _ hb2 ?_
    clear hK K
    refine chainH_nil ?_
    go_wp2
    go_ret2
    exact ⟨by rw [HJ.out, HW.out, hs', strOf_beq _ _ (encS_byte _ hs') HY.out, Bool.true_and]; rfl, hb2⟩
  · have hs' : isSc R = false := by simpa using hs
    clear hs
    go_enter Try.func50, Try.ntmps50
    go_wp2
    go_quiet (fail)
    go_wp2
    have hb0 : Below w.heap.size w (w.drewN nq) := (Below.refl _ _).drewN _
    generalize w.drewN nq = w0 at *
    rw [← HR.out]
    go_quiet ((go_at_call 53; exact Calls.quiet_of_same ((rscalar_any _ _).mono fun e w' h => ⟨h.1, h.2.symm⟩)))
    go_wp2
    go_ret2
    exact ⟨by rw [HJ.out, HW.out, hs', Bool.false_and]; rfl, hb0.drewN _⟩

end Go.Proofs.Ytfngnmopdfojmaa
