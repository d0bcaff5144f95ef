/-
  Contracts of the document's own answers: a number in ranges, a rune's width.
-/
import Derived.Test.YtdeoeihbmdgipaaDoorWOf
namespace Go.Proofs.YtdeoeihbmdgipaaDoor
open Go.ChangeShapes Go.WideShapes Go.ChangeAt Go.RowKit
set_option linter.unusedVariables false

theorem inB_drop (r : Int) (l : List Int) (j : Nat) (x y : Int) (h : j + 1 < l.length) (hx : l.getD j 0 = x) (hy : l.getD (j + 1) 0 = y) :
    inB r (l.drop j) = ((decide (x ≤ r) && decide (r ≤ y)) || inB r (l.drop (j + 2))) := by
  rw [drop_at l j x (by omega) hx, drop_at l (j + 1) y h hy]; rfl

set_option maxHeartbeats 1000000 in
theorem in_any (r : Int) (A : Option Addr) (n c : Nat) (l : List Int) (w : World) (h : Ints .i64 w A l) (hl : l.length = n) (hm : n % 2 = 0) (hn : n ≤ 1000) :
    Calls Tryd.prog 66 #[.int .i64 r, .slice A n c] w (Said (inB r l) w) := by
  have HL := hide hl
  have HM := hide hm
  clear hl hm
  go_enter Tryd.func66, Tryd.ntmps66
  go_wp2
  go_loopw [5] (fun i wr => ∃ j : Nat, j ≤ n ∧ j % 2 = 0 ∧ i = .int .i64 j ∧ inB r (l.drop j) = inB r l ∧ w = wr) (fun i _ => n - (intOf i).toNat)
  case atStart => exact ⟨0, Nat.zero_le _, rfl, rfl, rfl, rfl⟩
  case round =>
    obtain ⟨j, hj, hj2, rfl, he, rfl⟩ := hrel
    have HE := hide he
    have hcase : (j + 1 < n) ∨ (n ≤ j) := by have := HM.out; omega
    clear he
    rcases hcase with hlt | hge
    · obtain ⟨b, off, rfl, hc, hb⟩ := h.at (i := j) (by rw [HL.out]; omega)
      obtain ⟨b2, off2, e2, hc2, hb2⟩ := h.at (i := j + 1) (by rw [HL.out]; omega)
      cases e2
      obtain ⟨x, hx⟩ : ∃ x, l.getD j 0 = x := ⟨_, rfl⟩
      obtain ⟨y, hy⟩ : ∃ y, l.getD (j + 1) 0 = y := ⟨_, rfl⟩
      have HD := hide (inB_drop r l j x y (by rw [HL.out]; omega) hx hy)
      rw [hx] at hc
      rw [hy] at hc2
      have HJ := hide hj2
      clear hx hy hj2
      by_cases c1 : x ≤ r
      · by_cases c2 : r ≤ y
        · have E : Hid (inB r l = true) := by unfold Hid; rw [← HE.out, HD.out]; simp [c1, c2]
          go_wp2
          go_ret
          exact ⟨ret_bool E.out.symm, Below.refl _ _⟩
        · have E : Hid (inB r (l.drop (j + 2)) = inB r l) := by unfold Hid; rw [← HE.out, HD.out]; simp [c2]
          go_wp2
          go_roundw
          case rel => exact ⟨j + 2, by omega, by have := HJ.out; omega, by go_num, E.out, by trivial⟩
          case measure => simp [intOf]; omega
      · have E : Hid (inB r (l.drop (j + 2)) = inB r l) := by unfold Hid; rw [← HE.out, HD.out]; simp [c1]
        go_wp2
        go_roundw
        case rel => exact ⟨j + 2, by omega, by have := HJ.out; omega, by go_num, E.out, by trivial⟩
        case measure => simp [intOf]; omega
    · have E : Hid (inB r l = false) := by unfold Hid; rw [← HE.out, List.drop_eq_nil_of_le (by rw [HL.out]; omega)]; rfl
      have hge1 : (n : Int) ≤ (j : Int) + 1 := by omega
      clear hj2
      go_wp2
      go_ret
      exact ⟨ret_bool E.out.symm, Below.refl _ _⟩

def ctl : List Int := [127, 159]
set_option maxHeartbeats 2000000 in
theorem rof_any (r : Int) (w : World) : Calls Tryd.prog 58 #[.int .i64 r] w (Num .i64 (wOf r) w) := by
  by_cases h0 : r < 32
  · have E : Hid (wOf r = -1) := wOf_no r (.inl h0)
    go_enter Tryd.func58, Tryd.ntmps58
    go_wp2
    go_ret
    exact ⟨ret_int E.out.symm, Below.refl _ _⟩
  have n1 : Ints .i64 (w.alloc (.cells #[.int .i64 127, .int .i64 159] 3)) (some ⟨w.heap.size, 0, none⟩) [127, 159] := Ints.new .i64 w 3 [127, 159]
  by_cases h1 : inB r [127, 159] = true
  · have E : Hid (wOf r = -1) := by unfold Hid wOf; rw [if_pos (.inr (.inl h1))]
    have H1 := hide h1
    clear h1
    go_enter Tryd.func58, Tryd.ntmps58
    go_wp2_with fail
    refine (in_any r _ 2 2 [127, 159] _ n1 rfl rfl (by omega)).mono ?_
    rintro e w1 ⟨rfl, hb1⟩
    rw [H1.out]
    go_wp2
    go_ret
    exact ⟨ret_int E.out.symm, ((Below.refl _ _).alloc (Nat.le_refl _) _).trans (hb1.mono (by simp))⟩
  have h1' : inB r [127, 159] = false := by simpa using h1
  have H1 := hide h1'
  by_cases h2 : isSc r = true
  case neg =>
    have h2' : isSc r = false := by simpa using h2
    have E : Hid (wOf r = -1) := by unfold Hid wOf; rw [if_pos (.inr (.inr h2'))]
    have H2 := hide h2'
    clear h1 h1' h2 h2'
    go_enter Tryd.func58, Tryd.ntmps58
    go_wp2_with fail
    refine (in_any r _ 2 2 [127, 159] _ n1 rfl rfl (by omega)).mono ?_
    rintro e w1 ⟨rfl, hb1⟩
    rw [H1.out]
    have bel1 : Below w.heap.size w w1 := ((Below.refl _ _).alloc (Nat.le_refl _) _).trans (hb1.mono (by simp))
    go_wp2_with fail
    refine (rscalar_any r w1).mono ?_
    rintro e w2 ⟨rfl, rfl⟩
    rw [H2.out]
    go_wp2
    go_ret
    exact ⟨ret_int E.out.symm, bel1⟩
  case pos =>
  have H2 := hide h2
  have hN : ¬ (r < 32 ∨ inB r [127, 159] = true ∨ isSc r = false) := by
    rintro (q | q | q)
    · exact h0 q
    · exact h1 q
    · rw [h2] at q; cases q
  have HN := hide hN
  clear hN h1 h1' h2
  by_cases h3 : inB r marks = true
  · have E : Hid (wOf r = 0) := by unfold Hid wOf; rw [if_neg HN.out, if_pos h3]
    have H3 := hide h3
    clear h3
    go_enter Tryd.func58, Tryd.ntmps58
    go_wp2_with fail
    refine (in_any r _ 2 2 [127, 159] _ n1 rfl rfl (by omega)).mono ?_
    rintro e w1 ⟨rfl, hb1⟩
    rw [H1.out]
    have bel1 : Below w.heap.size w w1 := ((Below.refl _ _).alloc (Nat.le_refl _) _).trans (hb1.mono (by simp))
    go_wp2_with fail
    refine (rscalar_any r w1).mono ?_
    rintro e w2 ⟨rfl, rfl⟩
    rw [H2.out]
    go_wp2_with fail
    refine (in_any r _ 10 10 marks _ (Ints.new .i64 w1 3 marks) rfl rfl (by omega)).mono ?_
    rintro e w2 ⟨rfl, hb2⟩
    rw [H3.out]
    go_wp2
    go_ret
    exact ⟨ret_int E.out.symm, (bel1.alloc bel1.size _).trans (hb2.mono (by have := bel1.size; simp; omega))⟩
  have h3' : inB r marks = false := by simpa using h3
  have H3 := hide h3'
  obtain ⟨v, hv, hvw⟩ : ∃ v : Bool, inB r wides = v ∧ wOf r = (if v = true then 2 else 1) := ⟨_, rfl, by unfold wOf; rw [if_neg HN.out, if_neg h3]⟩
  have HV := hide hv
  have HVW := hide hvw
  clear h3 h3' hv hvw
  go_enter Tryd.func58, Tryd.ntmps58
  go_wp2_with fail
  refine (in_any r _ 2 2 [127, 159] _ n1 rfl rfl (by omega)).mono ?_
  rintro e w1 ⟨rfl, hb1⟩
  rw [H1.out]
  have bel1 : Below w.heap.size w w1 := ((Below.refl _ _).alloc (Nat.le_refl _) _).trans (hb1.mono (by simp))
  go_wp2_with fail
  refine (rscalar_any r w1).mono ?_
  rintro e w2 ⟨rfl, rfl⟩
  rw [H2.out]
  go_wp2_with fail
  refine (in_any r _ 10 10 marks _ (Ints.new .i64 w1 3 marks) rfl rfl (by omega)).mono ?_
  rintro e w2 ⟨rfl, hb2⟩
  rw [H3.out]
  have bel2 : Below w.heap.size w w2 := (bel1.alloc bel1.size _).trans (hb2.mono (by have := bel1.size; simp; omega))
  go_wp2_with fail
  refine (in_any r _ 22 22 wides _ (Ints.new .i64 w2 3 wides) rfl rfl (by omega)).mono ?_
  rintro e w3 ⟨rfl, hb3⟩
  rw [HV.out]
  have bel3 : Below w.heap.size w w3 := (bel2.alloc bel2.size _).trans (hb3.mono (by have := bel2.size; simp; omega))
  cases v
  · go_wp2
    go_ret
    exact ⟨ret_int (by rw [HVW.out]; rfl), bel3⟩
  · go_wp2
    go_ret
    exact ⟨ret_int (by rw [HVW.out]; rfl), bel3⟩
end Go.Proofs.YtdeoeihbmdgipaaDoor
