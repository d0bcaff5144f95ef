/-
  Contracts and plain mathematics of WOf, WRef, COf, CMark, CWrong, Chain, ChainH.
-/
import Derived.Test.YtkijclgbpbhglaaGreatDoorQd2
import Derived.Test.YtkijclgbpbhglaaGreatDoorQd1
import Derived.Orders
import Derived.Deep.RegionHeld
namespace Go.Proofs.YtkijclgbpbhglaaGreatDoor
set_option maxRecDepth 100000
set_option linter.unusedVariables false
set_option maxHeartbeats 8000000
section
open Go.ChangeShapes Go.WideShapes Go.ChangeAt Go.RowKit
theorem tab_at (k : Nat) (hk : k < 18) : ∃ f t d : Int, spans[k]? = some (f, t, d) ∧ ∀ w, (Instr.index 220 (.agg spanCells.toArray) (.int .i64 k)).run Tryz.prog w = .ok (.agg #[.int .i32 f, .int .i32 t, .int .i64 d]) w := by
 have e : k < spans.length := hk
 refine ⟨spans[k].1, spans[k].2.1, spans[k].2.2, List.getElem?_eq_getElem e, fun w => ?_⟩
 obtain ⟨f, t, d, h1, h2⟩ := tab_index w k hk
 rw [List.getElem?_eq_getElem e] at h1
 rw [Option.some.inj h1]
 exact h2
theorem wOf_nsc (r : Int) (h : isSc r = false) : wOf r = -1 := by
 unfold wOf; rw [if_pos]; exact .inr (.inr h)
theorem exec_tab (w : World) (hS : Spans w) (ρ : Operand → Value) (o : Oper) (ho : o.op = .load 220 (.global 0)) (hρ : ρ (.global 0) = .pointer (some ⟨0, 0, none⟩)) :
  (execOp ρ o).run Tryz.prog w = .ok (.value (.agg spanCells.toArray)) w := by
 unfold execOp
 simp only [ho, hρ, Instr.loadAt, Instr.sureAddr, Sem.run_bind, Sem.run_pure, Result.andThen_ok, run_loadVar_mid w 0 0 220 spanCells _ hS Tryz.underlying220 rfl (by rw [spanCells_len]; exact info220)]
theorem of_any (r : Int) (w : World) (hS : Spans w) : Calls Tryz.prog 143 #[.int .i32 r] w (Num .i64 (wOf r) w) := by
 by_cases hsc : isSc r = true
 ·have HL := hide (look_wOf r hsc)
  go_enter Tryz.func143, Tryz.ntmps143
  go_wp2_with (first | (go_at_call 121; refine (scalar_any _ _).mono ?_; rintro e w' ⟨rfl, rfl⟩) | (with_reducible refine wpList_val (o := ⟨some 8, _, _, _, _, _⟩) rfl (v := .agg spanCells.toArray) ?_ ?_))
  ·exact exec_tab w hS _ _ rfl rfl
  go_wp2; clear hsc
  go_loopw [4, 9] (fun s i wr => ∃ k : Nat, k ≤ 18 ∧ i = .int .i64 k ∧ look r (spans.drop k) = wOf r ∧ Below w.heap.size w wr) (fun _ i _ => 18 - (intOf i).toNat)
  case atStart => exact ⟨0, Nat.zero_le _, rfl, HL.out, Below.refl _ _⟩
  case round =>
   obtain ⟨k, hk, rfl, hl, hbel⟩ := hrel
   have HK := hide hl; clear hl
   by_cases hlt : k < 18
   ·obtain ⟨f, t, d, he, hrun⟩ := tab_at k hlt
    have HD := hide (look_drop r k hlt f t d he)
    clear he
    by_cases c1 : f ≤ r
    ·by_cases c2 : r ≤ t
     ·have e : d = wOf r := by rw [← HK.out, HD.out, if_pos ⟨c1, c2⟩]
      have E := hide e; clear e; go_wp2; go_ret
      exact ⟨ret_int E.out, hbel.alloc hbel.size _⟩
     ·have HN : Hid (look r (spans.drop (k + 1)) = wOf r) := by unfold Hid; rw [← HK.out, HD.out, if_neg (fun h => c2 h.2)]
      go_wp2
      go_roundw
      case rel => exact ⟨k + 1, by omega, by go_num, HN.out, hbel.alloc hbel.size _⟩
      case measure => simp [intOf]; omega
    ·have HN : Hid (look r (spans.drop (k + 1)) = wOf r) := by unfold Hid; rw [← HK.out, HD.out, if_neg (fun h => c1 h.1)]
     go_wp2
     go_roundw
     case rel => exact ⟨k + 1, by omega, by go_num, HN.out, hbel.alloc hbel.size _⟩
     case measure => simp [intOf]; omega
   ·have e : wOf r = 1 := by rw [← HK.out, List.drop_eq_nil_of_le (by show spans.length ≤ k; have : spans.length = 18 := rfl; omega)]; rfl
    have E := hide e; clear e; go_wp2; go_ret
    exact ⟨ret_int E.out.symm, hbel⟩
 ·have hf : isSc r = false := by simpa using hsc
  have HW := hide (wOf_nsc r hf)
  clear hsc
  go_enter Tryz.func143, Tryz.ntmps143
  go_wp2_with (go_at_call 121; refine (scalar_any _ _).mono ?_; rintro e w' ⟨rfl, rfl⟩)
  go_ret
  exact ⟨ret_int HW.out.symm, Below.refl _ _⟩
theorem mark_any (r : Int) (w : World) (hS : Spans w) : Calls Tryz.prog 94 #[.int .i32 r] w (Said (wOf r == 0) w) := by
 go_enter Tryz.func94, Tryz.ntmps94
 go_wp2_with fail
 refine (of_any r w hS).mono ?_
 rintro e w1 ⟨rfl, hb⟩
 go_wp2; go_ret
 exact ⟨rfl, hb⟩
theorem inB_drop (r : Int) (l : List Int) (j : Nat) (x y : Int) (h : j + 1 < l.length) (hx : l.getD j 0 = x) (hy : l.getD (j + 1) 0 = y) :
  inB r (l.drop j) = ((decide (x ≤ r) && decide (r ≤ y)) || inB r (l.drop (j + 2))) := by
 rw [drop_at l j x (by omega) hx, drop_at l (j + 1) y h hy]; rfl
theorem in_any (r : Int) (A : Option Addr) (n c : Nat) (l : List Int) (w : World) (h : Ints .i64 w A l) (hl : l.length = n) (hm : n % 2 = 0) (hn : n ≤ 1000) :
  Calls Tryz.prog 157 #[.int .i64 r, .slice A n c] w (Said (inB r l) w) := by
 have HL := hide hl; have HM := hide hm; clear hl hm
 go_enter Tryz.func157, Tryz.ntmps157
 go_wp2
 go_loopw [5] (fun i wr => ∃ j : Nat, j ≤ n ∧ j % 2 = 0 ∧ i = .int .i64 j ∧ inB r (l.drop j) = inB r l ∧ w = wr) (fun i _ => n - (intOf i).toNat)
 case atStart => exact ⟨0, Nat.zero_le _, rfl, rfl, rfl, rfl⟩
 case round =>
  obtain ⟨j, hj, hj2, rfl, he, rfl⟩ := hrel
  have HE := hide he
  have hcase : (j + 1 < n) ∨ (n ≤ j) := by have := HM.out; omega
  clear he
  rcases hcase with hlt | hge
  ·obtain ⟨b, off, rfl, hc, hb⟩ := h.at (i := j) (by rw [HL.out]; omega)
   obtain ⟨b2, off2, e2, hc2, hb2⟩ := h.at (i := j + 1) (by rw [HL.out]; omega)
   cases e2
   obtain ⟨x, hx⟩ := exq (l.getD j 0)
   obtain ⟨y, hy⟩ := exq (l.getD (j + 1) 0)
   have HD := hide (inB_drop r l j x y (by rw [HL.out]; omega) hx hy)
   rw [hx] at hc
   rw [hy] at hc2
   have HJ := hide hj2; clear hx hy hj2
   by_cases c1 : x ≤ r
   ·by_cases c2 : r ≤ y
    ·have E : Hid (inB r l = true) := by unfold Hid; rw [← HE.out, HD.out]; simp [c1, c2]
     go_wp2; go_ret
     exact ⟨ret_bool E.out.symm, Below.refl _ _⟩
    ·have E : Hid (inB r (l.drop (j + 2)) = inB r l) := by unfold Hid; rw [← HE.out, HD.out]; simp [c2]
     go_wp2
     go_roundw
     case rel => exact ⟨j + 2, by omega, by have := HJ.out; omega, by go_num, E.out, by trivial⟩
     case measure => simp [intOf]; omega
   ·have E : Hid (inB r (l.drop (j + 2)) = inB r l) := by unfold Hid; rw [← HE.out, HD.out]; simp [c1]
    go_wp2
    go_roundw
    case rel => exact ⟨j + 2, by omega, by have := HJ.out; omega, by go_num, E.out, by trivial⟩
    case measure => simp [intOf]; omega
  ·have E : Hid (inB r l = false) := by unfold Hid; rw [← HE.out, List.drop_eq_nil_of_le (by rw [HL.out]; omega)]; rfl
   have hge1 : (n : Int) ≤ (j : Int) + 1 := by omega
   clear hj2; go_wp2; go_ret
   exact ⟨ret_bool E.out.symm, Below.refl _ _⟩
theorem rof_any (r : Int) (w : World) : Calls Tryz.prog 103 #[.int .i64 r] w (Num .i64 (wOf r) w) := by
 by_cases h0 : r < 32
 ·have E : Hid (wOf r = -1) := wOf_no r (.inl h0)
  go_enter Tryz.func103, Tryz.ntmps103
  go_wp2; go_ret
  exact ⟨ret_int E.out.symm, Below.refl _ _⟩
 have n1 : Ints .i64 (w.alloc (.cells #[.int .i64 127, .int .i64 159] 3)) (some ⟨w.heap.size, 0, none⟩) [127, 159] := Ints.new .i64 w 3 [127, 159]
 by_cases h1 : inB r [127, 159] = true
 ·have E : Hid (wOf r = -1) := by unfold Hid wOf; rw [if_pos (.inr (.inl h1))]
  have H1 := hide h1; clear h1
  go_enter Tryz.func103, Tryz.ntmps103
  go_wp2_with fail
  refine (in_any r _ 2 2 [127, 159] _ n1 rfl rfl (by omega)).mono ?_
  rintro e w1 ⟨rfl, hb1⟩
  rw [H1.out]
  go_wp2; go_ret
  exact ⟨ret_int E.out.symm, ((Below.refl _ _).alloc (Nat.le_refl _) _).trans (hb1.mono (by simp))⟩
 have h1' : inB r [127, 159] = false := by simpa using h1
 have H1 := hide h1'
 by_cases h2 : isSc r = true
 case neg =>
  have h2' : isSc r = false := by simpa using h2
  have E : Hid (wOf r = -1) := by unfold Hid wOf; rw [if_pos (.inr (.inr h2'))]
  have H2 := hide h2'; clear h1 h1' h2 h2'
  go_enter Tryz.func103, Tryz.ntmps103
  go_wp2_with fail
  refine (in_any r _ 2 2 [127, 159] _ n1 rfl rfl (by omega)).mono ?_
  rintro e w1 ⟨rfl, hb1⟩
  rw [H1.out]
  have bel1 : Below w.heap.size w w1 := ((Below.refl _ _).alloc (Nat.le_refl _) _).trans (hb1.mono (by simp))
  go_wp2_with fail
  refine (rscalar_any r w1).mono ?_
  rintro e w2 ⟨rfl, rfl⟩
  rw [H2.out]
  go_wp2; go_ret
  exact ⟨ret_int E.out.symm, bel1⟩
 case pos =>
 have H2 := hide h2
 have hN : ¬ (r < 32 ∨ inB r [127, 159] = true ∨ isSc r = false) := by
  rintro (q | q | q)
  ·exact h0 q
  ·exact h1 q
  ·rw [h2] at q; cases q
 have HN := hide hN; clear hN h1 h1' h2
 by_cases h3 : inB r marks = true
 ·have E : Hid (wOf r = 0) := by unfold Hid wOf; rw [if_neg HN.out, if_pos h3]
  have H3 := hide h3; clear h3
  go_enter Tryz.func103, Tryz.ntmps103
  go_wp2_with fail
  refine (in_any r _ 2 2 [127, 159] _ n1 rfl rfl (by omega)).mono ?_
  rintro e w1 ⟨rfl, hb1⟩
  rw [H1.out]
  have bel1 : Below w.heap.size w w1 := ((Below.refl _ _).alloc (Nat.le_refl _) _).trans (hb1.mono (by simp))
  go_wp2_with fail
  refine (rscalar_any r w1).mono ?_
  rintro e w2 ⟨rfl, rfl⟩
  rw [H2.out]
  go_wp2_with fail
  refine (in_any r _ 10 10 marks _ (Ints.new .i64 w1 3 marks) rfl rfl (by omega)).mono ?_
  rintro e w2 ⟨rfl, hb2⟩
  rw [H3.out]
  go_wp2; go_ret
  exact ⟨ret_int E.out.symm, (bel1.alloc bel1.size _).trans (hb2.mono (by have := bel1.size; simp; omega))⟩
 have h3' : inB r marks = false := by simpa using h3
 have H3 := hide h3'
 obtain ⟨v, hv, hvw⟩ : ∃ v : Bool, inB r wides = v ∧ wOf r = (if v = true then 2 else 1) := ⟨_, rfl, by unfold wOf; rw [if_neg HN.out, if_neg h3]⟩
 have HV := hide hv; have HVW := hide hvw; clear h3 h3' hv hvw
 go_enter Tryz.func103, Tryz.ntmps103
 go_wp2_with fail
 refine (in_any r _ 2 2 [127, 159] _ n1 rfl rfl (by omega)).mono ?_
 rintro e w1 ⟨rfl, hb1⟩
 rw [H1.out]
 have bel1 : Below w.heap.size w w1 := ((Below.refl _ _).alloc (Nat.le_refl _) _).trans (hb1.mono (by simp))
 go_wp2_with fail
 refine (rscalar_any r w1).mono ?_
 rintro e w2 ⟨rfl, rfl⟩
 rw [H2.out]
 go_wp2_with fail
 refine (in_any r _ 10 10 marks _ (Ints.new .i64 w1 3 marks) rfl rfl (by omega)).mono ?_
 rintro e w2 ⟨rfl, hb2⟩
 rw [H3.out]
 have bel2 : Below w.heap.size w w2 := (bel1.alloc bel1.size _).trans (hb2.mono (by have := bel1.size; simp; omega))
 go_wp2_with fail
 refine (in_any r _ 22 22 wides _ (Ints.new .i64 w2 3 wides) rfl rfl (by omega)).mono ?_
 rintro e w3 ⟨rfl, hb3⟩
 rw [HV.out]
 have bel3 : Below w.heap.size w w3 := (bel2.alloc bel2.size _).trans (hb3.mono (by have := bel2.size; simp; omega))
 cases v
 ·go_wp2
  go_ret
  exact ⟨ret_int (by rw [HVW.out]; rfl), bel3⟩
 ·go_wp2
  go_ret
  exact ⟨ret_int (by rw [HVW.out]; rfl), bel3⟩
theorem ofC_1 (r : Int) (p : Pn) (h : wOf r = 1) : ofC r p = (⟨r, 0, 0, 1, p⟩, true) := by unfold ofC; rw [if_pos h]
theorem ofC_2 (r : Int) (p : Pn) (h : wOf r = 2) : ofC r p = (⟨r, 0, 0, 2, p⟩, true) := by unfold ofC; rw [if_neg (by omega), if_pos h]
theorem ofC_no (r : Int) (p : Pn) (h : wOf r < 1) : ofC r p = (zeroC, false) := by unfold ofC; rw [if_neg (by omega), if_neg (by omega)]
theorem cof_any (r : Int) (f g b : Nat) (w : World) (hS : Spans w) : Calls Tryz.prog 96 #[.int .i32 r, .agg #[.int .u8 f, .int .u8 g, .int .u8 b]] w (Celled2 .i32 (ofC r ⟨f, g, b⟩) w) := by
 have hS2 := (hS.alloc (.cells #[.int .u8 f, .int .u8 g, .int .u8 b] 65)).alloc (.cells #[.int .i32 0, .int .i32 0, .int .i32 0, .int .u8 0, .int .u8 0, .int .u8 0, .int .u8 0] 73)
 have HS := hide hS2; clear hS2 hS
 rcases wOf_range r with h | h | h | h
 ·have E := hide (ofC_no r ⟨f, g, b⟩ (by omega))
  have HW := hide h; clear h
  go_enter Tryz.func96, Tryz.ntmps96
  go_wp2_with fail
  refine (of_any r _ HS.out).mono ?_
  rintro e w1 ⟨rfl, hb1⟩
  rw [HW.out]
  obtain ⟨hc, hz⟩ := bcell hb1
  have hb := (two_new w 65 73 [.int .u8 f, .int .u8 g, .int .u8 b] [.int .i32 0, .int .i32 0, .int .i32 0, .int .u8 0, .int .u8 0, .int .u8 0, .int .u8 0]).trans (hb1.mono (by simp; omega))
  have HV := hide ((whole_snd w (.cells #[.int .u8 f, .int .u8 g, .int .u8 b] 65) 73 [.int .i32 0, .int .i32 0, .int .i32 0, .int .u8 0, .int .u8 0, .int .u8 0, .int .u8 0]).later hb1)
  go_wp2
  exact ret72 Tryz.results96 (.inl rfl) rfl rfl rfl (put7 HV.out _ _ _ _ _ _ _) ⟨by rw [E.out]; rfl, below_put7 hb (Nat.le_succ _) _ _ _ _ _ _ _⟩
 ·have E := hide (ofC_no r ⟨f, g, b⟩ (by omega))
  have HW := hide h; clear h
  go_enter Tryz.func96, Tryz.ntmps96
  go_wp2_with fail
  refine (of_any r _ HS.out).mono ?_
  rintro e w1 ⟨rfl, hb1⟩
  rw [HW.out]
  obtain ⟨hc, hz⟩ := bcell hb1
  have hb := (two_new w 65 73 [.int .u8 f, .int .u8 g, .int .u8 b] [.int .i32 0, .int .i32 0, .int .i32 0, .int .u8 0, .int .u8 0, .int .u8 0, .int .u8 0]).trans (hb1.mono (by simp; omega))
  have HV := hide ((whole_snd w (.cells #[.int .u8 f, .int .u8 g, .int .u8 b] 65) 73 [.int .i32 0, .int .i32 0, .int .i32 0, .int .u8 0, .int .u8 0, .int .u8 0, .int .u8 0]).later hb1)
  go_wp2
  exact ret72 Tryz.results96 (.inl rfl) rfl rfl rfl (put7 HV.out _ _ _ _ _ _ _) ⟨by rw [E.out]; rfl, below_put7 hb (Nat.le_succ _) _ _ _ _ _ _ _⟩
 ·have E := hide (ofC_1 r ⟨f, g, b⟩ h)
  have HW := hide h; clear h
  go_enter Tryz.func96, Tryz.ntmps96
  go_wp2_with fail
  refine (of_any r _ HS.out).mono ?_
  rintro e w1 ⟨rfl, hb1⟩
  rw [HW.out]
  obtain ⟨hc, hz⟩ := bcell hb1
  have hb := (two_new w 65 73 [.int .u8 f, .int .u8 g, .int .u8 b] [.int .i32 0, .int .i32 0, .int .i32 0, .int .u8 0, .int .u8 0, .int .u8 0, .int .u8 0]).trans (hb1.mono (by simp; omega))
  have HV := hide ((whole_snd w (.cells #[.int .u8 f, .int .u8 g, .int .u8 b] 65) 73 [.int .i32 0, .int .i32 0, .int .i32 0, .int .u8 0, .int .u8 0, .int .u8 0, .int .u8 0]).later hb1)
  go_wp2
  exact ret72 Tryz.results96 (.inl rfl) rfl rfl rfl (put7 HV.out _ _ _ _ _ _ _) ⟨by rw [E.out]; rfl, below_put7 hb (Nat.le_succ _) _ _ _ _ _ _ _⟩
 ·have E := hide (ofC_2 r ⟨f, g, b⟩ h)
  have HW := hide h; clear h
  go_enter Tryz.func96, Tryz.ntmps96
  go_wp2_with fail
  refine (of_any r _ HS.out).mono ?_
  rintro e w1 ⟨rfl, hb1⟩
  rw [HW.out]
  obtain ⟨hc, hz⟩ := bcell hb1
  have hb := (two_new w 65 73 [.int .u8 f, .int .u8 g, .int .u8 b] [.int .i32 0, .int .i32 0, .int .i32 0, .int .u8 0, .int .u8 0, .int .u8 0, .int .u8 0]).trans (hb1.mono (by simp; omega))
  have HV := hide ((whole_snd w (.cells #[.int .u8 f, .int .u8 g, .int .u8 b] 65) 73 [.int .i32 0, .int .i32 0, .int .i32 0, .int .u8 0, .int .u8 0, .int .u8 0, .int .u8 0]).later hb1)
  go_wp2
  exact ret72 Tryz.results96 (.inl rfl) rfl rfl rfl (put7 HV.out _ _ _ _ _ _ _) ⟨by rw [E.out]; rfl, below_put7 hb (Nat.le_succ _) _ _ _ _ _ _ _⟩
theorem rcof_any (r : Int) (f g b : Nat) (w : World) : Calls Tryz.prog 105 #[.int .i64 r, .agg #[.int .u8 f, .int .u8 g, .int .u8 b]] w (Celled2 .i64 (ofC r ⟨f, g, b⟩) w) := by
 rcases wOf_range r with h | h | h | h
 ·have E := hide (ofC_no r ⟨f, g, b⟩ (by omega))
  have HW := hide h; clear h
  go_enter Tryz.func105, Tryz.ntmps105
  go_wp2_with fail
  refine (rof_any r _).mono ?_
  rintro e w1 ⟨rfl, hb1⟩
  rw [HW.out]
  obtain ⟨hc, hz⟩ := bcell hb1
  have hb := (two_new w 38 166 [.int .u8 f, .int .u8 g, .int .u8 b] [.int .i64 0, .int .i64 0, .int .i64 0, .int .u8 0, .int .u8 0, .int .u8 0, .int .u8 0]).trans (hb1.mono (by simp; omega))
  have HV := hide ((whole_snd w (.cells #[.int .u8 f, .int .u8 g, .int .u8 b] 38) 166 [.int .i64 0, .int .i64 0, .int .i64 0, .int .u8 0, .int .u8 0, .int .u8 0, .int .u8 0]).later hb1)
  go_wp2
  exact ret72 Tryz.results105 (.inr rfl) rfl rfl rfl (put7 HV.out _ _ _ _ _ _ _) ⟨by rw [E.out]; rfl, below_put7 hb (Nat.le_succ _) _ _ _ _ _ _ _⟩
 ·have E := hide (ofC_no r ⟨f, g, b⟩ (by omega))
  have HW := hide h; clear h
  go_enter Tryz.func105, Tryz.ntmps105
  go_wp2_with fail
  refine (rof_any r _).mono ?_
  rintro e w1 ⟨rfl, hb1⟩
  rw [HW.out]
  obtain ⟨hc, hz⟩ := bcell hb1
  have hb := (two_new w 38 166 [.int .u8 f, .int .u8 g, .int .u8 b] [.int .i64 0, .int .i64 0, .int .i64 0, .int .u8 0, .int .u8 0, .int .u8 0, .int .u8 0]).trans (hb1.mono (by simp; omega))
  have HV := hide ((whole_snd w (.cells #[.int .u8 f, .int .u8 g, .int .u8 b] 38) 166 [.int .i64 0, .int .i64 0, .int .i64 0, .int .u8 0, .int .u8 0, .int .u8 0, .int .u8 0]).later hb1)
  go_wp2
  exact ret72 Tryz.results105 (.inr rfl) rfl rfl rfl (put7 HV.out _ _ _ _ _ _ _) ⟨by rw [E.out]; rfl, below_put7 hb (Nat.le_succ _) _ _ _ _ _ _ _⟩
 ·have E := hide (ofC_1 r ⟨f, g, b⟩ h)
  have HW := hide h; clear h
  go_enter Tryz.func105, Tryz.ntmps105
  go_wp2_with fail
  refine (rof_any r _).mono ?_
  rintro e w1 ⟨rfl, hb1⟩
  rw [HW.out]
  obtain ⟨hc, hz⟩ := bcell hb1
  have hb := (two_new w 38 166 [.int .u8 f, .int .u8 g, .int .u8 b] [.int .i64 0, .int .i64 0, .int .i64 0, .int .u8 0, .int .u8 0, .int .u8 0, .int .u8 0]).trans (hb1.mono (by simp; omega))
  have HV := hide ((whole_snd w (.cells #[.int .u8 f, .int .u8 g, .int .u8 b] 38) 166 [.int .i64 0, .int .i64 0, .int .i64 0, .int .u8 0, .int .u8 0, .int .u8 0, .int .u8 0]).later hb1)
  go_wp2
  exact ret72 Tryz.results105 (.inr rfl) rfl rfl rfl (put7 HV.out _ _ _ _ _ _ _) ⟨by rw [E.out]; rfl, below_put7 hb (Nat.le_succ _) _ _ _ _ _ _ _⟩
 ·have E := hide (ofC_2 r ⟨f, g, b⟩ h)
  have HW := hide h; clear h
  go_enter Tryz.func105, Tryz.ntmps105
  go_wp2_with fail
  refine (rof_any r _).mono ?_
  rintro e w1 ⟨rfl, hb1⟩
  rw [HW.out]
  obtain ⟨hc, hz⟩ := bcell hb1
  have hb := (two_new w 38 166 [.int .u8 f, .int .u8 g, .int .u8 b] [.int .i64 0, .int .i64 0, .int .i64 0, .int .u8 0, .int .u8 0, .int .u8 0, .int .u8 0]).trans (hb1.mono (by simp; omega))
  have HV := hide ((whole_snd w (.cells #[.int .u8 f, .int .u8 g, .int .u8 b] 38) 166 [.int .i64 0, .int .i64 0, .int .i64 0, .int .u8 0, .int .u8 0, .int .u8 0, .int .u8 0]).later hb1)
  go_wp2
  exact ret72 Tryz.results105 (.inr rfl) rfl rfl rfl (put7 HV.out _ _ _ _ _ _ _) ⟨by rw [E.out]; rfl, below_put7 hb (Nat.le_succ _) _ _ _ _ _ _ _⟩
theorem cells7 {w : World} {q : Nat} {t : TypeId} {x0 x1 x2 x3 x4 x5 x6 : Value} (h : Whole w q t [x0, x1, x2, x3, x4, x5, x6]) :
  w.cell? ⟨q, 0, none⟩ = some x0 ∧ w.cell? ⟨q, 1, none⟩ = some x1 ∧ w.cell? ⟨q, 2, none⟩ = some x2 ∧ w.cell? ⟨q, 3, none⟩ = some x3 ∧ w.cell? ⟨q, 4, none⟩ = some x4 ∧ w.cell? ⟨q, 5, none⟩ = some x5 ∧ w.cell? ⟨q, 6, none⟩ = some x6 ∧ ∀ i, w.frozen? ⟨q, i, none⟩ = false :=
 ⟨h.cell 0, h.cell 1, h.cell 2, h.cell 3, h.cell 4, h.cell 5, h.cell 6, h.frozen⟩
theorem whole_put {w : World} {q o : Nat} {t : TypeId} {l : List Value} {r : Nat} (h : Whole w r t l) (hq : r ≠ q) (x : Value) : Whole (w.setCell ⟨q, o, none⟩ x) r t l := by
 unfold Whole
 rw [Below.heap_setCell _ _ _ _ hq]
 exact h
theorem idx0 (m n : Value) (w : World) : (Instr.index 71 (.agg #[m, n]) (.int .i64 0)).run Tryz.prog w = .ok m w := by kernel_rfl
theorem idx1 (m n : Value) (w : World) : (Instr.index 71 (.agg #[m, n]) (.int .i64 1)).run Tryz.prog w = .ok n w := by kernel_rfl
theorem markC_rune (c : Cel) (r : Int) (h : ¬ wOf r = 0) : markC c r = (c, false) := by unfold markC; rw [if_neg (fun q => h q.1)]
theorem markC_half (c : Cel) (r : Int) (h : bearsC c = false) : markC c r = (c, false) := by unfold markC; rw [if_neg (fun q => by rw [h] at q; cases q.2)]
theorem markC_fst (c : Cel) (r : Int) (h : wOf r = 0) (hb : bearsC c = true) (hm : c.m = 0) : markC c r = ({ c with m := r }, true) := by unfold markC; rw [if_pos ⟨h, hb⟩, if_pos hm]
theorem markC_snd (c : Cel) (r : Int) (h : wOf r = 0) (hb : bearsC c = true) (hm : ¬ c.m = 0) (hn : c.n = 0) : markC c r = ({ c with n := r }, true) := by unfold markC; rw [if_pos ⟨h, hb⟩, if_neg hm, if_pos hn]
theorem markC_full (c : Cel) (r : Int) (h : wOf r = 0) (hb : bearsC c = true) (hm : ¬ c.m = 0) (hn : ¬ c.n = 0) : markC c r = (c, false) := by unfold markC; rw [if_pos ⟨h, hb⟩, if_neg hm, if_neg hn]
theorem cmark_any (r m n : Int) (d f g b : Nat) (x : Int) (w : World) (hS : Spans w) : Calls Tryz.prog 209 #[.agg #[.int .i32 r, .int .i32 m, .int .i32 n, .int .u8 d, .int .u8 f, .int .u8 g, .int .u8 b], .int .i32 x] w (Celled2 .i32 (markC ⟨r, m, n, d, ⟨f, g, b⟩⟩ x) w) := by
 obtain ⟨W0, hW0⟩ := exq ((w.alloc (.cells #[.int .i32 r, .int .i32 m, .int .i32 n, .int .u8 d, .int .u8 f, .int .u8 g, .int .u8 b] 73)).alloc (.cells #[.int .i32 0, .int .i32 0, .int .i32 0, .int .u8 0, .int .u8 0, .int .u8 0, .int .u8 0] 73))
 have HS : Hid (Spans W0) := by unfold Hid; rw [← hW0]; exact (hS.alloc _).alloc _
 have HB : Hid (Below w.heap.size w W0) := by unfold Hid; rw [← hW0]; exact two_new _ _ _ _ _
 have HC : Hid (Whole W0 w.heap.size 73 [.int .i32 r, .int .i32 m, .int .i32 n, .int .u8 d, .int .u8 f, .int .u8 g, .int .u8 b]) := by unfold Hid; rw [← hW0]; exact (Whole.new _ _ _).alloc _
 have HR : Hid (Whole W0 (w.heap.size + 1) 73 [.int .i32 0, .int .i32 0, .int .i32 0, .int .u8 0, .int .u8 0, .int .u8 0, .int .u8 0]) := by unfold Hid; rw [← hW0]; exact whole_snd _ _ _ _
 have HW0 := hide hW0; clear hS hW0
 by_cases h0 : wOf x = 0
 case neg =>
  have HX : Hid ((wOf x == 0) = false) := by unfold Hid; simpa using h0
  have E := hide (markC_rune ⟨r, m, n, d, ⟨f, g, b⟩⟩ x h0)
  clear h0
  go_enter Tryz.func209, Tryz.ntmps209
  go_wp2_with fail
  rw [HW0.out]
  refine (mark_any x _ HS.out).mono ?_
  rintro e w1 ⟨rfl, hb1⟩
  rw [HX.out]
  have HC1 := hide (HC.out.later hb1)
  have HR1 := hide (HR.out.later hb1)
  have HB1 := hide (HB.out.trans (hb1.mono HB.out.size))
  obtain ⟨c0, c1, c2, c3, c4, c5, c6, cz⟩ := cells7 HC1.out
  obtain ⟨d0, d1, d2, d3, d4, d5, d6, dz⟩ := cells7 HR1.out
  go_wp2
  exact ret72 Tryz.results209 (.inl rfl) rfl rfl rfl (put7 HR1.out _ _ _ _ _ _ _) ⟨by rw [E.out]; rfl, below_put7 HB1.out (Nat.le_succ _) _ _ _ _ _ _ _⟩
 case pos =>
  have HX : Hid ((wOf x == 0) = true) := by unfold Hid; simpa using h0
  cases hb0 : bearsC ⟨r, m, n, d, ⟨f, g, b⟩⟩
  case false =>
   have E := hide (markC_half ⟨r, m, n, d, ⟨f, g, b⟩⟩ x hb0)
   have HBR := hide hb0; clear hb0 h0
   go_enter Tryz.func209, Tryz.ntmps209
   go_wp2_with fail
   rw [HW0.out]
   refine (mark_any x _ HS.out).mono ?_
   rintro e w1 ⟨rfl, hb1⟩
   rw [HX.out]
   have HC1 := hide (HC.out.later hb1)
   have HR1 := hide (HR.out.later hb1)
   have HB1 := hide (HB.out.trans (hb1.mono HB.out.size))
   obtain ⟨c0, c1, c2, c3, c4, c5, c6, cz⟩ := cells7 HC1.out
   go_wp2_with fail
   refine (bears_any r m n d f g b _).mono ?_
   rintro e w2 ⟨rfl, hb2⟩
   rw [HBR.out]
   have HC2 := hide (HC1.out.later hb2)
   have HR2 := hide (HR1.out.later hb2)
   have HB2 := hide (HB1.out.trans (hb2.mono HB1.out.size))
   clear c0 c1 c2 c3 c4 c5 c6 cz
   obtain ⟨c0, c1, c2, c3, c4, c5, c6, cz⟩ := cells7 HC2.out
   obtain ⟨d0, d1, d2, d3, d4, d5, d6, dz⟩ := cells7 HR2.out
   go_wp2
   exact ret72 Tryz.results209 (.inl rfl) rfl rfl rfl (put7 HR2.out _ _ _ _ _ _ _) ⟨by rw [E.out]; rfl, below_put7 HB2.out (Nat.le_succ _) _ _ _ _ _ _ _⟩
  case true =>
   have HX0 := hide h0; have HBR := hide hb0; clear hb0 h0
   go_enter Tryz.func209, Tryz.ntmps209
   go_wp2_with fail
   rw [HW0.out]
   refine (mark_any x _ HS.out).mono ?_
   rintro e w1 ⟨rfl, hb1⟩
   rw [HX.out]
   have HC1 := hide (HC.out.later hb1)
   have HR1 := hide (HR.out.later hb1)
   have HB1 := hide (HB.out.trans (hb1.mono HB.out.size))
   obtain ⟨c0, c1, c2, c3, c4, c5, c6, cz⟩ := cells7 HC1.out
   go_wp2_with fail
   refine (bears_any r m n d f g b _).mono ?_
   rintro e w2 ⟨rfl, hb2⟩
   rw [HBR.out]
   have HC2 := hide (HC1.out.later hb2)
   have HR2 := hide (HR1.out.later hb2)
   have HB2 := hide (HB1.out.trans (hb2.mono HB1.out.size))
   clear c0 c1 c2 c3 c4 c5 c6 cz
   obtain ⟨c0, c1, c2, c3, c4, c5, c6, cz⟩ := cells7 HC2.out
   obtain ⟨d0, d1, d2, d3, d4, d5, d6, dz⟩ := cells7 HR2.out
   go_wp2
   go_loopw [6, 7, 19] (fun _ _ i wr => (i = .int .i64 0 ∨ (i = .int .i64 1 ∧ Hid (¬ m = 0)) ∨ (i = .int .i64 2 ∧ Hid (¬ m = 0) ∧ Hid (¬ n = 0))) ∧ w2 = wr) (fun _ _ i _ => 2 - (intOf i).toNat)
   case atStart => exact ⟨.inl rfl, rfl⟩
   case round =>
    have i0 := idx0 (.int .i32 m) (.int .i32 n)
    have i1 := idx1 (.int .i32 m) (.int .i32 n)
    obtain ⟨hcase, rfl⟩ := hrel
    rcases hcase with rfl | ⟨rfl, H1⟩ | ⟨rfl, H1, H2⟩
    ·by_cases hm : m = 0
     ·have E := hide (markC_fst ⟨r, m, n, d, ⟨f, g, b⟩⟩ x HX0.out HBR.out hm)
      have hq : (m == 0) = true := by simpa using hm
      clear hm; go_wp2
      exact ret72 Tryz.results209 (.inl rfl) rfl rfl rfl (put7 (whole_put HR2.out (Nat.succ_ne_self _) _) _ _ _ _ _ _ _) ⟨by rw [E.out]; rfl, below_put7 (HB2.out.setCell (p := ⟨w.heap.size, 1, none⟩) (Nat.le_refl _) _) (Nat.le_succ _) _ _ _ _ _ _ _⟩
     ·have hq : (m == 0) = false := by simpa using hm
      have HM := hide hm; clear hm; go_wp2
      go_roundw
      case rel => exact ⟨.inr (.inl ⟨by go_num, HM⟩), by trivial⟩
      case measure => simp [intOf]
    ·by_cases hn : n = 0
     ·have E := hide (markC_snd ⟨r, m, n, d, ⟨f, g, b⟩⟩ x HX0.out HBR.out H1.out hn)
      have hq : (n == 0) = true := by simpa using hn
      clear hn; go_wp2
      exact ret72 Tryz.results209 (.inl rfl) rfl rfl rfl (put7 (whole_put HR2.out (Nat.succ_ne_self _) _) _ _ _ _ _ _ _) ⟨by rw [E.out]; rfl, below_put7 (HB2.out.setCell (p := ⟨w.heap.size, 2, none⟩) (Nat.le_refl _) _) (Nat.le_succ _) _ _ _ _ _ _ _⟩
     ·have hq : (n == 0) = false := by simpa using hn
      have HN := hide hn; clear hn; go_wp2
      go_roundw
      case rel => exact ⟨.inr (.inr ⟨by go_num, H1, HN⟩), by trivial⟩
      case measure => simp [intOf]
    ·have E := hide (markC_full ⟨r, m, n, d, ⟨f, g, b⟩⟩ x HX0.out HBR.out H1.out H2.out)
     go_wp2
     exact ret72 Tryz.results209 (.inl rfl) rfl rfl rfl (put7 HR2.out _ _ _ _ _ _ _) ⟨by rw [E.out]; rfl, below_put7 HB2.out (Nat.le_succ _) _ _ _ _ _ _ _⟩
def wrongC (z : Bool) (x : Int) : Bool := if x = 0 then false else z || !(wOf x == 0)
theorem wrong_0 (z : Bool) (x : Int) (h : x = 0) : wrongC z x = false := by unfold wrongC; rw [if_pos h]
theorem wrong_n (z : Bool) (x : Int) (h : ¬ x = 0) : wrongC z x = (z || !(wOf x == 0)) := by unfold wrongC; rw [if_neg h]
theorem marks_wrong (m n : Int) : marksC m n = !(wrongC false m || wrongC (m == 0) n) := by
 unfold marksC wrongC
 by_cases h : m = 0
 ·subst h
  by_cases h2 : n = 0
  ·simp [h2]
  ·simp [h2]
 ·have e : (m == 0) = false := by simpa using h
  rw [if_neg h, if_neg h, e]
  by_cases h2 : n = 0
  ·simp [h2]; rfl
  ·simp [h2]; rfl
def WrongMark (q : Nat) (z : Bool) (x : Int) (w : World) (e : Ending) (w' : World) : Prop :=
 e = .returned (.bool (wrongC z x)) ∧ Whole w' q 4 [.bool (z || (x == 0))] ∧ Fr w.heap.size q w w'
theorem wrong_any (q : Nat) (z : Bool) (x : Int) (w : World) (hq : Whole w q 4 [.bool z]) (hS : Spans w) : Calls Tryz.prog 173 #[.int .i32 x, .pointer (some ⟨q, 0, none⟩)] w (WrongMark q z x w) := by
 have c0 : w.cell? ⟨q, 0, none⟩ = some (.bool z) := hq.cell 0
 have z0 := hq.frozen 0
 have HQ := hide hq; have HS := hide hS; clear hq hS
 by_cases h : x = 0
 ·have E := hide (wrong_0 z x h)
  have e0 : (x == 0) = true := by simpa using h
  have E0 := hide e0; clear h
  go_enter Tryz.func173, Tryz.ntmps173
  go_wp2; go_ret
  exact ⟨ret_bool E.out.symm, by rw [E0.out, Bool.or_true]; exact HQ.out.put 0 _, Fr.put 0 _⟩
 ·have E := hide (wrong_n z x h)
  have e0 : (x == 0) = false := by simpa using h
  have E0 := hide e0; clear h
  cases z
  ·go_enter Tryz.func173, Tryz.ntmps173
   go_wp2_with fail
   refine (mark_any x _ HS.out).mono ?_
   rintro e w1 ⟨rfl, hb⟩
   go_wp2; go_ret
   exact ⟨ret_bool (by rw [E.out]; rfl), by rw [E0.out]; exact HQ.out.later hb, Fr.of_below hb⟩
  ·go_enter Tryz.func173, Tryz.ntmps173
   go_wp2; go_ret
   exact ⟨ret_bool (by rw [E.out]; rfl), by rw [E0.out]; exact HQ.out, Fr.refl⟩
theorem spans_ne {w : World} {g t : Nat} {x : Value} (hS : Spans w) (h : Whole w g t [x]) : 0 ≠ g := by
 rintro rfl
 have h1 := hS 1 (.int .i32 31) rfl
 rw [Nat.zero_add, h.cell 1] at h1
 cases h1
theorem Fr.spans {g : Nat} {w w' : World} (h : Fr w.heap.size g w w') (hS : Spans w) (hg : 0 ≠ g) : Spans w' := fun j v hv => by
 have := hS j v hv
 rw [← this]
 exact World.cell?_of_block (w := w) (h.block 0 hS.size hg)
theorem Fr.whole {g g2 : Nat} {w w' : World} {t : TypeId} {l : List Value} (h : Fr w.heap.size g w w') (hw : Whole w g2 t l) (hne : g2 ≠ g) : Whole w' g2 t l := (h.block g2 hw.lt hne).trans hw
def FoundMark (q : Nat) (m n : Int) (w : World) (e : Ending) (w' : World) : Prop :=
 e = .returned (.int .i64 (if wrongC false m = true then 0 else if wrongC (m == 0) n = true then 1 else -1)) ∧ Fr w.heap.size q w w'
theorem indexf_any (q a : Nat) (m n : Int) (w : World) (hq : Whole w q 4 [.bool false]) (ha : Whole w a 71 [.int .i32 m, .int .i32 n]) (hne : a ≠ q) (hS : Spans w) :
  Calls Tryz.prog 192 #[.slice (some ⟨a, 0, none⟩) 2 2, .func (.func 173) #[] #[.pointer (some ⟨q, 0, none⟩)]] w (FoundMark q m n w) := by
 have hg0 := spans_ne hS hq
 have HQ := hide hq; have HA := hide ha; have HS := hide hS; clear hq ha hS
 go_enter Tryz.func192, Tryz.ntmps192
 go_wp2
 go_loopw [5, 8] (fun _ i wr => ((i = .int .i64 0 ∧ Whole wr q 4 [.bool false]) ∨ (i = .int .i64 1 ∧ Hid (wrongC false m = false) ∧ Whole wr q 4 [.bool (m == 0)]) ∨ (i = .int .i64 2 ∧ Hid (wrongC false m = false) ∧ Hid (wrongC (m == 0) n = false))) ∧ Fr w.heap.size q w wr) (fun _ i _ => 2 - (intOf i).toNat)
 case atStart => exact ⟨.inl ⟨rfl, HQ.out⟩, Fr.refl⟩
 case round =>
  obtain ⟨hcase, hfr⟩ := hrel
  have HFR := hide hfr
  have HA2 := hide (hfr.whole HA.out hne)
  have HS2 := hide (hfr.spans HS.out hg0)
  clear hfr
  have a0 : wr.cell? ⟨a, 0, none⟩ = some (.int .i32 m) := HA2.out.cell 0
  have a1 : wr.cell? ⟨a, 1, none⟩ = some (.int .i32 n) := HA2.out.cell 1
  rcases hcase with ⟨rfl, hq⟩ | ⟨rfl, H1, hq⟩ | ⟨rfl, H1, H2⟩
  ·have HC := hide (wrong_any q false m wr hq HS2.out)
   clear hq
   cases hw : wrongC false m
   ·have HW := hide hw
    clear hw; go_wp2_with fail
    refine HC.out.mono ?_
    rintro e w1 ⟨rfl, h2, h3⟩
    rw [HW.out]
    have H2 := hide h2
    have H3 : Hid (Fr w.heap.size q w w1) := HFR.out.trans (h3.less HFR.out.size)
    clear h2 h3; go_wp2
    go_roundw
    case rel => exact ⟨.inr (.inl ⟨by go_num, by first | exact HW | exact hide trivial, by simpa using H2.out⟩), H3.out⟩
    case measure => simp [intOf]
   ·have HW := hide hw
    clear hw; go_wp2_with fail
    refine HC.out.mono ?_
    rintro e w1 ⟨rfl, h2, h3⟩
    rw [HW.out]
    go_wp2; go_ret
    exact ⟨ret_int (by rw [HW.out]; rfl), HFR.out.trans (h3.less HFR.out.size)⟩
  ·obtain ⟨z, hz⟩ := exq ((m == 0))
   have HZ := hide hz
   rw [hz] at hq
   have HC := hide (wrong_any q z n wr hq HS2.out)
   clear hq hz
   cases hw : wrongC z n
   ·have HW := hide hw
    clear hw; go_wp2_with fail
    refine HC.out.mono ?_
    rintro e w1 ⟨rfl, h2, h3⟩
    rw [HW.out]
    have H3 : Hid (Fr w.heap.size q w w1) := HFR.out.trans (h3.less HFR.out.size)
    clear h2 h3; go_wp2
    go_roundw
    case rel => exact ⟨.inr (.inr ⟨by go_num, H1, by unfold Hid; rw [HZ.out]; exact HW.out⟩), H3.out⟩
    case measure => simp [intOf]
   ·have HW := hide hw
    clear hw; go_wp2_with fail
    refine HC.out.mono ?_
    rintro e w1 ⟨rfl, h2, h3⟩
    rw [HW.out]
    go_wp2; go_ret
    exact ⟨ret_int (by rw [H1.out, HZ.out, HW.out]; rfl), HFR.out.trans (h3.less HFR.out.size)⟩
  ·go_wp2
   go_ret
   exact ⟨ret_int (by rw [H1.out, H2.out]; rfl), HFR.out⟩
def HasWrong (q : Nat) (m n : Int) (w : World) (e : Ending) (w' : World) : Prop := e = .returned (.bool (!marksC m n)) ∧ Fr w.heap.size q w w'
theorem contains_any (q a : Nat) (m n : Int) (w : World) (hq : Whole w q 4 [.bool false]) (ha : Whole w a 71 [.int .i32 m, .int .i32 n]) (hne : a ≠ q) (hS : Spans w) :
  Calls Tryz.prog 174 #[.slice (some ⟨a, 0, none⟩) 2 2, .func (.func 173) #[] #[.pointer (some ⟨q, 0, none⟩)]] w (HasWrong q m n w) := by
 have HC := hide (indexf_any q a m n w hq ha hne hS)
 have HM := hide (marks_wrong m n)
 clear hq ha hS
 obtain ⟨x, hx⟩ := exq (wrongC false m)
 obtain ⟨y, hy⟩ := exq (wrongC (m == 0) n)
 have HX := hide hx; have HY := hide hy; clear hx hy
 cases x <;> cases y
 all_goals
  go_enter Tryz.func174, Tryz.ntmps174
  go_wp2_with fail
  refine HC.out.mono ?_
  rintro e w1 ⟨rfl, h3⟩
  rw [HX.out, HY.out]
  go_wp2; go_ret
  exact ⟨ret_bool (by rw [HM.out, HX.out, HY.out]; rfl), h3⟩
theorem rmarks_any (m n : Int) (w : World) (hS : Spans w) : Calls Tryz.prog 144 #[.agg #[.int .i32 m, .int .i32 n]] w (Said (marksC m n) w) := by
 obtain ⟨W0, hW0⟩ := exq ((w.alloc (.cells #[.int .i32 m, .int .i32 n] 71)).alloc (.cells #[.bool false] 4))
 have HS : Hid (Spans W0) := by unfold Hid; rw [← hW0]; exact (hS.alloc _).alloc _
 have HB : Hid (Below w.heap.size w W0) := by unfold Hid; rw [← hW0]; exact two_new _ _ _ _ _
 have HA : Hid (Whole W0 w.heap.size 71 [.int .i32 m, .int .i32 n]) := by unfold Hid; rw [← hW0]; exact (Whole.new _ _ _).alloc _
 have HQ : Hid (Whole W0 (w.heap.size + 1) 4 [.bool false]) := by unfold Hid; rw [← hW0]; exact whole_snd _ _ _ _
 have HZ : Hid (w.heap.size + 1 ≤ W0.heap.size) := by unfold Hid; rw [← hW0]; simp
 have HW0 := hide hW0; clear hS hW0
 go_enter Tryz.func144, Tryz.ntmps144
 go_wp2_with fail
 rw [HW0.out]
 refine (contains_any (w.heap.size + 1) w.heap.size m n W0 HQ.out HA.out (by omega) HS.out).mono ?_
 rintro e w1 ⟨rfl, h3⟩
 go_wp2; go_ret
 exact ⟨ret_bool (by simp), HB.out.trans (h3.below (by have := HZ.out; omega) (by omega))⟩
end
section
open Go.RowKit
def pickOps (ops : Array Oper) : List Nat → List Oper
 | [] => []
 | i :: r => match ops[i]? with
  | some o => o :: pickOps ops r
  | none => []
def wpChain (P : Program) (ops : Array Oper) (Q : Exit → Act → World → Prop) : List (Bool × List Nat) → Act → World → Prop
 | [], a, w => Q .normal a w
 | (true, l) :: r, a, w => match pickOps ops l with
  | [o] => ∃ v, Yields P ops o v a ∧ wpChain P ops Q r (a.put o.dst v) w
  | _ => False
 | (false, l) :: r, a, w => ∀ K : Act → World → Prop, (∀ a w, wpChain P ops Q r a w → K a w) → wpList P ops (Exit.then K Q) (pickOps ops l) a w
def aloneOk (ops : Array Oper) : List Nat → Array Bool → Bool
 | [], _ => true
 | i :: r, listed => (Region.ready .any ops listed == [i]) && aloneOk ops r (listed.setIfInBounds i true)
def listAll : List Nat → Array Bool → Array Bool
 | [], listed => listed
 | i :: r, listed => listAll r (listed.setIfInBounds i true)
def chainOk (ops : Array Oper) : List (Bool × List Nat) → Array Bool → Bool
 | [], listed => (Region.ready .any ops listed).isEmpty
 | (true, l) :: r, listed => match l with
  | [i] => Region.free .any ops listed i && (Region.ready .any ops listed).contains i && chainOk ops r (listed.setIfInBounds i true)
  | _ => false
 | (false, l) :: r, listed => aloneOk ops l listed && chainOk ops r (listAll l listed)
def chainLen : List (Bool × List Nat) → Nat
 | [] => 0
 | (_, l) :: r => l.length + chainLen r
section
variable {P : Program} {ops : Array Oper} {Q : Exit → Act → World → Prop}
theorem upon_list {o : Oper} {a : Act} {K M N : Act → World → Prop} (hM : ∀ a w, M a w → K a w) (r : Result Next) (h : o.upon P a M (Exit.then N Q) r) : o.upon P a K Q r := by
 cases r with
 | ok n w' =>
  cases n <;> simp only [Oper.upon] at h ⊢
  case value => exact hM _ _ h
  case skip => exact hM _ _ h
  case defer => exact hM _ _ h
  case enter =>
   refine Calls.mono h fun e w'' he => ?_
   cases e with
   | returned => exact hM _ _ he
   | panicked => exact he
   | outgrown => exact he
  case row => exact Rows.mono h fun _ _ he => hM _ _ he
 | halt x w' => cases x <;> simp only [Oper.upon] at h ⊢ <;> exact h
theorem any_of_list (N : Act → World → Prop) (fuel : Nat) : ∀ (l : List Nat) (listed : Array Bool) (a : Act) (w : World), aloneOk ops l listed = true →
  (∀ a w, N a w → wpAny P .any ops Q fuel (listAll l listed) a w) → wpList P ops (Exit.then N Q) (pickOps ops l) a w → wpAny P .any ops Q (l.length + fuel) listed a w := by
 intro l
 induction l with
 | nil => intro listed a w _ hN h; simpa [listAll] using hN a w h
 | cons i r ih =>
  intro listed a w hok hN h
  simp only [aloneOk, Bool.and_eq_true, beq_iff_eq] at hok
  obtain ⟨hr, hok⟩ := hok
  have hlen : (i :: r).length + fuel = (r.length + fuel) + 1 := by simp; omega
  rw [hlen]
  refine wpAny_all hr (by simp) fun j hj => ?_
  obtain rfl : j = i := by simpa using hj
  have hmem : j ∈ Region.ready .any ops listed := by rw [hr]; simp
  obtain ⟨_, o, ho, _⟩ := mem_ready.1 hmem
  simp only [pickOps, ho] at h
  unfold wpOp
  simp only [ho]
  unfold wpList at h
  split at h
  ·rename_i hw
   rw [if_pos hw]
   rcases h with h | ⟨h1, h2⟩
   ·exact .inl (upon_list (fun a' w' h' => ih _ a' w' hok hN h') _ h)
   ·exact .inr ⟨h1, h2⟩
  ·rename_i hw
   rw [if_neg hw]
   exact ih _ _ _ hok hN h
theorem any_of_chain (hs : Region.noSelect ops = true) (hQ : ∀ c (d : Tmp) v a w, Q (.panic c) (Act.put a (some d) v) w → Q (.panic c) a w) :
  ∀ (l : List (Bool × List Nat)) (listed : Array Bool) (a : Act) (w : World), chainOk ops l listed = true → wpChain P ops Q l a w → wpAny P .any ops Q (chainLen l) listed a w := by
 intro l
 induction l with
 | nil =>
  intro listed a w hok h
  exact wpAny_done (by simpa [chainOk] using hok) h 0
 | cons x r ih =>
  obtain ⟨b, l⟩ := x
  intro listed a w hok h
  cases b with
  | true =>
   match l, hok, h with
   | [i], hok, h =>
    simp only [chainOk, Bool.and_eq_true] at hok
    obtain ⟨⟨hf, hr⟩, hok⟩ := hok
    have hmem : i ∈ Region.ready .any ops listed := by simpa using hr
    obtain ⟨_, o, ho, _⟩ := mem_ready.1 hmem
    simp only [wpChain, pickOps, ho] at h
    obtain ⟨v, hy, h⟩ := h
    have hlen : chainLen ((true, [i]) :: r) = chainLen r + 1 := by simp [chainLen]; omega
    rw [hlen]
    refine wpAny_take ho hs hf hr (fun c a w hh => ?_) hy (ih _ _ _ hok h)
    cases hd : o.dst with
    | none => rw [hd] at hh; exact hh
    | some d => rw [hd] at hh; exact hQ c d v a w hh
   | [], hok, _ => simp [chainOk] at hok
   | _ :: _ :: _, hok, _ => simp [chainOk] at hok
  | false =>
   simp only [chainOk, Bool.and_eq_true] at hok
   obtain ⟨h1, h2⟩ := hok
   exact any_of_list (wpChain P ops Q r) (chainLen r) l listed a w h1 (fun a w h' => ih _ a w h2 h') (h _ fun _ _ h' => h')
theorem wp_region_chain {id : Nat} {a : Act} {w : World} (l : List (Bool × List Nat)) (hm : P.follows .mixedOrders = true) (hs : Region.noSelect ops = true)
  (hok : (chainOk ops l (Array.replicate ops.size false) && (chainLen l == ops.size)) = true) (hQ : ∀ c (d : Tmp) v a w, Q (.panic c) (Act.put a (some d) v) w → Q (.panic c) a w)
  (h : wpChain P ops Q l a w.drew) : (Code.region id ops true).wp P Q a w := by
 simp only [Bool.and_eq_true, beq_iff_eq] at hok
 refine wp_region_any hm ?_
 rw [← hok.2]
 exact any_of_chain hs hQ l _ a _ (by rw [hok.2]; exact hok.1) h
theorem chain_alone {l : List Nat} {r : List (Bool × List Nat)} {os : List Oper} {a : Act} {w : World} (hos : pickOps ops l = os)
  (h : ∀ K : Act → World → Prop, Hid (∀ a w, wpChain P ops Q r a w → K a w) → wpList P ops (Exit.then K Q) os a w) : wpChain P ops Q ((false, l) :: r) a w := by
 subst hos
 exact fun K hK => h K hK
theorem chain_nil {a : Act} {w : World} (h : Q .normal a w) : wpChain P ops Q [] a w := h
theorem chain_take {l : List Nat} {r : List (Bool × List Nat)} {o : Oper} {v : Value} {a : Act} {w : World} (ho : pickOps ops l = [o]) (hy : Yields P ops o v a)
  (h : wpChain P ops Q r (a.put o.dst v) w) : wpChain P ops Q ((true, l) :: r) a w := by
 simp only [wpChain, ho]
 exact ⟨v, hy, h⟩
end
section
variable {P : Program} {ops : Array Oper} {Q : Exit → Act → World → Prop}
theorem rgC {id : Nat} {a : Act} {w : World} (l : List (Bool × List Nat)) (h : wpChain P ops Q l a w.drew) (hm : P.follows .mixedOrders = true := by kernel_rfl) (hs : Region.noSelect ops = true := by kernel_rfl)
  (hok : (chainOk ops l (Array.replicate ops.size false) && (chainLen l == ops.size)) = true := by kernel_rfl) (hQ : ∀ c (d : Tmp) v a w, Q (.panic c) (Act.put a (some d) v) w → Q (.panic c) a w := by exact fun _ _ _ _ _ h => h) : (Code.region id ops true).wp P Q a w := wp_region_chain l hm hs hok hQ h
theorem alC {l : List Nat} {r : List (Bool × List Nat)} {os : List Oper} {a : Act} {w : World}
  (h : ∀ K : Act → World → Prop, Hid (∀ a w, wpChain P ops Q r a w → K a w) → wpList P ops (Exit.then K Q) os a w) (ho : pickOps ops l = os := by simp only [pickOps, List.getElem?_toArray, List.getElem?_cons_zero, List.getElem?_cons_succ] <;> rfl) : wpChain P ops Q ((false, l) :: r) a w := chain_alone ho h
theorem stC {l : List Nat} {r : List (Bool × List Nat)} {o : Oper} {v : Value} {a a2 : Act} {w : World} (ho : pickOps ops l = [o] := by simp only [pickOps, List.getElem?_toArray, List.getElem?_cons_zero, List.getElem?_cons_succ] <;> rfl)
  (hw : Region.wanted o (yielded ops a.tmps) = true := by rfl) (hy : ∀ w, (execOp a.eval o).run P w = .ok (.value v) w := by intro w; go_simp <;> with_reducible rfl)
  (ha : a.put o.dst v = a2 := by simp only [Act.put, List.setIfInBounds_toArray, List.set_cons_zero, List.set_cons_succ] <;> rfl) (h : wpChain P ops Q r a2 w) : wpChain P ops Q ((true, l) :: r) a w := chain_take ho (Or.inl ⟨hw, hy⟩) (ha ▸ h)
end
def wpChainH (P : Program) (ops : Array Oper) (Q : Exit → Act → World → Prop) (S : World → Prop) : List (Bool × Nat) → Act → World → Prop
 | [], a, w => Q .normal a w
 | (true, i) :: r, a, w => match ops[i]? with
  | some o => ∃ v, YieldsIf P ops S o v a ∧ wpChainH P ops Q S r (a.put o.dst v) w
  | none => False
 | (false, i) :: r, a, w => match ops[i]? with
  | some o => ∀ K : Act → World → Prop, (∀ a w, S w → wpChainH P ops Q S r a w → K a w) → wpList P ops (Exit.then K Q) [o] a w
  | none => False
def chainOkH (ops : Array Oper) : List (Bool × Nat) → Array Bool → Bool
 | [], listed => (Region.ready .any ops listed).isEmpty
 | (true, i) :: r, listed => Region.free .any ops listed i && (Region.ready .any ops listed).contains i && chainOkH ops r (listed.setIfInBounds i true)
 | (false, i) :: r, listed => (Region.ready .any ops listed == [i]) && chainOkH ops r (listed.setIfInBounds i true)
section
variable {P : Program} {ops : Array Oper} {Q : Exit → Act → World → Prop} {S : World → Prop}
theorem any_of_chainH (hs : Region.noSelect ops = true) (hQ : ∀ c (d : Tmp) v a w, Q (.panic c) (Act.put a (some d) v) w → Q (.panic c) a w) :
  ∀ (l : List (Bool × Nat)) (listed : Array Bool) (a : Act) (w : World), chainOkH ops l listed = true → S w → wpChainH P ops Q S l a w → wpAnyH P .any ops Q S l.length listed a w := by
 intro l
 induction l with
 | nil =>
  intro listed a w hok _ h
  exact wpAnyH_done (by simpa [chainOkH] using hok) h 0
 | cons x r ih =>
  obtain ⟨b, i⟩ := x
  intro listed a w hok hS h
  cases b with
  | true =>
   simp only [chainOkH, Bool.and_eq_true] at hok
   obtain ⟨⟨hf, hr⟩, hok⟩ := hok
   have hmem : i ∈ Region.ready .any ops listed := by simpa using hr
   obtain ⟨_, o, ho, _⟩ := mem_ready.1 hmem
   simp only [wpChainH, ho] at h
   obtain ⟨v, hy, h⟩ := h
   refine wpAnyH_take ho hs hf hr (fun c a w hh => ?_) hy hS (ih _ _ _ hok hS h)
   cases hd : o.dst with
   | none => rw [hd] at hh; exact hh
   | some d => rw [hd] at hh; exact hQ c d v a w hh
  | false =>
   simp only [chainOkH, Bool.and_eq_true, beq_iff_eq] at hok
   obtain ⟨hr, hok⟩ := hok
   refine wpAnyH_all hr (by simp) fun j hj => ?_
   obtain rfl : j = i := by simpa using hj
   have hmem : j ∈ Region.ready .any ops listed := by rw [hr]; simp
   obtain ⟨_, o, ho, _⟩ := mem_ready.1 hmem
   simp only [wpChainH, ho] at h
   have h := h (fun a' w' => S w' ∧ wpAnyH P .any ops Q S r.length (listed.setIfInBounds j true) a' w') (fun a' w' hS' h' => ⟨hS', ih _ a' w' hok hS' h'⟩)
   unfold wpOp
   simp only [ho]
   unfold wpList at h
   split at h
   ·rename_i hw
    rw [if_pos hw]
    rcases h with h | ⟨h1, h2⟩
    ·exact .inl (upon_list (fun a' w' h' => h') _ h)
    ·exact .inr ⟨h1, h2⟩
   ·rename_i hw
    rw [if_neg hw]
    exact h
theorem wp_region_chainH {id : Nat} {a : Act} {w : World} (S : World → Prop) (l : List (Bool × Nat)) (hm : P.follows .mixedOrders = true) (hs : Region.noSelect ops = true)
  (hok : (chainOkH ops l (Array.replicate ops.size false) && (l.length == ops.size)) = true) (hQ : ∀ c (d : Tmp) v a w, Q (.panic c) (Act.put a (some d) v) w → Q (.panic c) a w)
  (hS : S w.drew) (h : wpChainH P ops Q S l a w.drew) : (Code.region id ops true).wp P Q a w := by
 simp only [Bool.and_eq_true, beq_iff_eq] at hok
 refine wp_region_held (S := S) hm ?_
 rw [← hok.2]
 exact any_of_chainH hs hQ l _ a _ (by rw [hok.2]; exact hok.1) hS h
theorem chainH_alone {i : Nat} {r : List (Bool × Nat)} {o : Oper} {a : Act} {w : World} (ho : ops[i]? = some o)
  (h : ∀ K : Act → World → Prop, Hid (∀ a w, S w → wpChainH P ops Q S r a w → K a w) → wpList P ops (Exit.then K Q) [o] a w) : wpChainH P ops Q S ((false, i) :: r) a w := by
 simp only [wpChainH, ho]
 exact fun K hK => h K hK
theorem chainH_nil {a : Act} {w : World} (h : Q .normal a w) : wpChainH P ops Q S [] a w := h
theorem chainH_take {i : Nat} {r : List (Bool × Nat)} {o : Oper} {v : Value} {a : Act} {w : World} (ho : ops[i]? = some o) (hw : Region.wanted o (yielded ops a.tmps) = true)
  (hy : ∀ w, S w → (execOp a.eval o).run P w = .ok (.value v) w) (h : wpChainH P ops Q S r (a.put o.dst v) w) : wpChainH P ops Q S ((true, i) :: r) a w := by
 simp only [wpChainH, ho]
 exact ⟨v, Or.inl ⟨hw, hy⟩, h⟩
theorem chainH_skip {i : Nat} {r : List (Bool × Nat)} {o : Oper} {a : Act} {w : World} (ho : ops[i]? = some o) (hw : Region.wanted o (yielded ops a.tmps) = false)
  (h : wpChainH P ops Q S r (a.put o.dst undef) w) : wpChainH P ops Q S ((true, i) :: r) a w := by
 simp only [wpChainH, ho]
 exact ⟨undef, Or.inr ⟨hw, rfl⟩, h⟩
theorem chainH_pass {i : Nat} {r : List (Bool × Nat)} {o : Oper} {a : Act} {w : World} (ho : ops[i]? = some o) (hw : Region.wanted o (yielded ops a.tmps) = false) (hS : S w)
  (h : wpChainH P ops Q S r (a.put o.dst undef) w) : wpChainH P ops Q S ((false, i) :: r) a w := by
 simp only [wpChainH, ho]
 intro K hK; unfold wpList
 rw [if_neg (by rw [hw]; simp)]
 exact hK _ _ hS h
end
section
variable {P : Program} {ops : Array Oper} {Q : Exit → Act → World → Prop} {S : World → Prop}
theorem rgH {id : Nat} {a : Act} {w : World} (S : World → Prop) (l : List (Bool × Nat)) (hS : S w.drew) (h : wpChainH P ops Q S l a w.drew) (hm : P.follows .mixedOrders = true := by kernel_rfl) (hs : Region.noSelect ops = true := by kernel_rfl)
  (hok : (chainOkH ops l (Array.replicate ops.size false) && (l.length == ops.size)) = true := by kernel_rfl) (hQ : ∀ c (d : Tmp) v a w, Q (.panic c) (Act.put a (some d) v) w → Q (.panic c) a w := by exact fun _ _ _ _ _ h => h) : (Code.region id ops true).wp P Q a w := wp_region_chainH S l hm hs hok hQ hS h
theorem alH {i : Nat} {r : List (Bool × Nat)} {o : Oper} {a : Act} {w : World}
  (h : ∀ K : Act → World → Prop, Hid (∀ a w, S w → wpChainH P ops Q S r a w → K a w) → wpList P ops (Exit.then K Q) [o] a w) (ho : ops[i]? = some o := by simp only [List.getElem?_toArray, List.getElem?_cons_zero, List.getElem?_cons_succ] <;> rfl) : wpChainH P ops Q S ((false, i) :: r) a w := chainH_alone ho h
theorem stH {i : Nat} {r : List (Bool × Nat)} {o : Oper} {v : Value} {a a2 : Act} {w : World} (ho : ops[i]? = some o := by simp only [List.getElem?_toArray, List.getElem?_cons_zero, List.getElem?_cons_succ] <;> rfl) (hw : Region.wanted o (yielded ops a.tmps) = true := by rfl) (hy : ∀ w, S w → (execOp a.eval o).run P w = .ok (.value v) w := by intro w hS; go_simp <;> with_reducible rfl)
  (ha : a.put o.dst v = a2 := by simp only [Act.put, List.setIfInBounds_toArray, List.set_cons_zero, List.set_cons_succ] <;> rfl) (h : wpChainH P ops Q S r a2 w) : wpChainH P ops Q S ((true, i) :: r) a w := chainH_take ho hw hy (ha ▸ h)
theorem skH {i : Nat} {r : List (Bool × Nat)} {o : Oper} {a a2 : Act} {w : World} (ho : ops[i]? = some o := by simp only [List.getElem?_toArray, List.getElem?_cons_zero, List.getElem?_cons_succ] <;> rfl) (hw : Region.wanted o (yielded ops a.tmps) = false := by rfl) (ha : a.put o.dst undef = a2 := by simp only [Act.put, List.setIfInBounds_toArray, List.set_cons_zero, List.set_cons_succ] <;> rfl) (h : wpChainH P ops Q S r a2 w) : wpChainH P ops Q S ((true, i) :: r) a w := chainH_skip ho hw (ha ▸ h)
theorem paH {i : Nat} {r : List (Bool × Nat)} {o : Oper} {a a2 : Act} {w : World} (hS : S w) (ho : ops[i]? = some o := by simp only [List.getElem?_toArray, List.getElem?_cons_zero, List.getElem?_cons_succ] <;> rfl) (hw : Region.wanted o (yielded ops a.tmps) = false := by rfl) (ha : a.put o.dst undef = a2 := by simp only [Act.put, List.setIfInBounds_toArray, List.set_cons_zero, List.set_cons_succ] <;> rfl) (h : wpChainH P ops Q S r a2 w) : wpChainH P ops Q S ((false, i) :: r) a w := chainH_pass ho hw hS (ha ▸ h)
end
end
end Go.Proofs.YtkijclgbpbhglaaGreatDoor
