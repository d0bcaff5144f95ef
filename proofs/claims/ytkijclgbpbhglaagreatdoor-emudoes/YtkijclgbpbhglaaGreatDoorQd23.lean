/-
  Contracts and plain mathematics of NOnce, NTurn, NRWith.
-/
import Derived.Test.YtkijclgbpbhglaaGreatDoorQd20
import Derived.Deep.DeepCutAuto
import Derived.Deep.CutBlock
namespace Go.Proofs.YtkijclgbpbhglaaGreatDoor
set_option maxRecDepth 100000
set_option linter.unusedVariables false
set_option maxHeartbeats 8000000
section
open Go.ChangeShapes Go.WideShapes Go.ChangeAt Go.RowKit
theorem dye1_any (c : Int) (q : Nat) (f g b : Int) (w : World) (h : Whole w q 65 [.int .u8 f, .int .u8 g, .int .u8 b]) :
  Calls Tryz.prog 116 #[.int .u8 c, .pointer (some ⟨q, 0, none⟩)] w fun e w' => e = .returned (.tuple #[]) ∧ w.setCell ⟨q, 1, none⟩ (.int .u8 c) = w' := by
 have h1 := h.cell 1
 have h2 := h.frozen 1
 have h3 : w.cell? ⟨q, 1, none⟩ = some (.int .u8 g) := h1
 clear h h1
 go_enter Tryz.func116, Tryz.ntmps116
 go_wp2
 go_end0
 exact ⟨rfl, rfl⟩
theorem dye2_any (c : Int) (q : Nat) (f g b : Int) (w : World) (h : Whole w q 65 [.int .u8 f, .int .u8 g, .int .u8 b]) :
  Calls Tryz.prog 118 #[.int .u8 c, .pointer (some ⟨q, 0, none⟩)] w fun e w' => e = .returned (.tuple #[]) ∧ w.setCell ⟨q, 2, none⟩ (.int .u8 c) = w' := by
 have h1 := h.cell 2
 have h2 := h.frozen 2
 have h3 : w.cell? ⟨q, 2, none⟩ = some (.int .u8 b) := h1
 clear h h1
 go_enter Tryz.func118, Tryz.ntmps118
 go_wp2
 go_end0
 exact ⟨rfl, rfl⟩
def forF (n : Int) : Prop := (30 ≤ n ∧ n ≤ 37) ∨ n = 39 ∨ (90 ≤ n ∧ n ≤ 97)
theorem forF_lt {n : Int} (h : forF n) : 30 ≤ n ∧ n ≤ 97 := by unfold forF at h; omega
theorem dye_forF {n : Int} (h : forF n) (g : Nat) : dyeN g n = dyeN 0 n := by
 unfold forF at h
 unfold dyeN
 repeat' split
 all_goals first | rfl | omega
theorem color_any (n : Int) (h : forF n) (w : World) : Calls Tryz.prog 119 #[.int .i64 n] w fun e w' => e = .returned (.int .u8 (dyeN 0 n : Int)) ∧ w = w' := by
 rcases h with ⟨h1, h2⟩ | rfl | ⟨h1, h2⟩
 ·have e : dyeN 0 n = (n - 29).toNat := by unfold dyeN; rw [if_pos ⟨h1, h2⟩]
  rw [e]; exact color_dark n h1 h2 w
 ·exact color_none w
 ·have e : dyeN 0 n = (n - 81).toNat := by unfold dyeN; rw [if_neg (by omega), if_pos ⟨h1, h2⟩]
  rw [e]; exact color_bright n h1 h2 w
def OnceTo (n : Int) (f g b : Nat) (w : World) (p : Pn) : Prop := Calls Tryz.prog 64 #[.agg #[.int .u8 f, .int .u8 g, .int .u8 b], .int .i64 n] w (Penned p w)
theorem once_0 (f g b : Nat) (w : World) : OnceTo 0 f g b w ⟨0, 0, 0⟩ := by
 unfold OnceTo
 go_enter Tryz.func64, Tryz.ntmps64
 go_wp2
 exact ret3 Tryz.results64 (.inl rfl) rfl rfl (pn_whole_snd w _ _ _) ⟨rfl, ((Below.refl _ _).alloc (Nat.le_refl _) _).alloc (by simp) _⟩
theorem once_1 (f g b : Nat) (hf : f < 256) (w : World) : OnceTo 1 f g b w ⟨withN f 1 true, g, b⟩ := by
 unfold OnceTo
 go_enter Tryz.func64, Tryz.ntmps64
 go_wp2_with fail
 refine (pn_with_any f g b 1 true hf (by omega) _).mono ?_
 rintro e w1 ⟨rfl, hb1⟩
 obtain ⟨hc, hz⟩ := pn_bcell hb1
 go_wp2
 refine ret3 Tryz.results64 (.inl rfl) rfl rfl (pn_put3 (x := .int .u8 0) (y := .int .u8 0) (z := .int .u8 0) ((pn_whole_snd w _ _ _).later hb1)) ⟨rfl, ?_⟩
 exact ((((((Below.refl w.heap.size w).alloc (Nat.le_refl _) _).alloc (by simp) _).trans (hb1.mono (by simp; omega))).setCell (by simp) _).setCell (by simp) _).setCell (by simp) _
theorem once_2 (f g b : Nat) (hf : f < 256) (w : World) : OnceTo 2 f g b w ⟨withN f 2 true, g, b⟩ := by
 unfold OnceTo
 go_enter Tryz.func64, Tryz.ntmps64
 go_wp2_with fail
 refine (pn_with_any f g b 2 true hf (by omega) _).mono ?_
 rintro e w1 ⟨rfl, hb1⟩
 obtain ⟨hc, hz⟩ := pn_bcell hb1
 go_wp2
 refine ret3 Tryz.results64 (.inl rfl) rfl rfl (pn_put3 (x := .int .u8 0) (y := .int .u8 0) (z := .int .u8 0) ((pn_whole_snd w _ _ _).later hb1)) ⟨rfl, ?_⟩
 exact ((((((Below.refl w.heap.size w).alloc (Nat.le_refl _) _).alloc (by simp) _).trans (hb1.mono (by simp; omega))).setCell (by simp) _).setCell (by simp) _).setCell (by simp) _
theorem once_4 (f g b : Nat) (hf : f < 256) (w : World) : OnceTo 4 f g b w ⟨withN f 4 true, g, b⟩ := by
 unfold OnceTo
 go_enter Tryz.func64, Tryz.ntmps64
 go_wp2_with fail
 refine (pn_with_any f g b 4 true hf (by omega) _).mono ?_
 rintro e w1 ⟨rfl, hb1⟩
 obtain ⟨hc, hz⟩ := pn_bcell hb1
 go_wp2
 refine ret3 Tryz.results64 (.inl rfl) rfl rfl (pn_put3 (x := .int .u8 0) (y := .int .u8 0) (z := .int .u8 0) ((pn_whole_snd w _ _ _).later hb1)) ⟨rfl, ?_⟩
 exact ((((((Below.refl w.heap.size w).alloc (Nat.le_refl _) _).alloc (by simp) _).trans (hb1.mono (by simp; omega))).setCell (by simp) _).setCell (by simp) _).setCell (by simp) _
theorem once_5 (f g b : Nat) (hf : f < 256) (w : World) : OnceTo 5 f g b w ⟨withN f 8 true, g, b⟩ := by
 unfold OnceTo
 go_enter Tryz.func64, Tryz.ntmps64
 go_wp2_with fail
 refine (pn_with_any f g b 8 true hf (by omega) _).mono ?_
 rintro e w1 ⟨rfl, hb1⟩
 obtain ⟨hc, hz⟩ := pn_bcell hb1
 go_wp2
 refine ret3 Tryz.results64 (.inl rfl) rfl rfl (pn_put3 (x := .int .u8 0) (y := .int .u8 0) (z := .int .u8 0) ((pn_whole_snd w _ _ _).later hb1)) ⟨rfl, ?_⟩
 exact ((((((Below.refl w.heap.size w).alloc (Nat.le_refl _) _).alloc (by simp) _).trans (hb1.mono (by simp; omega))).setCell (by simp) _).setCell (by simp) _).setCell (by simp) _
theorem once_7 (f g b : Nat) (hf : f < 256) (w : World) : OnceTo 7 f g b w ⟨withN f 16 true, g, b⟩ := by
 unfold OnceTo
 go_enter Tryz.func64, Tryz.ntmps64
 go_wp2_with fail
 refine (pn_with_any f g b 16 true hf (by omega) _).mono ?_
 rintro e w1 ⟨rfl, hb1⟩
 obtain ⟨hc, hz⟩ := pn_bcell hb1
 go_wp2
 refine ret3 Tryz.results64 (.inl rfl) rfl rfl (pn_put3 (x := .int .u8 0) (y := .int .u8 0) (z := .int .u8 0) ((pn_whole_snd w _ _ _).later hb1)) ⟨rfl, ?_⟩
 exact ((((((Below.refl w.heap.size w).alloc (Nat.le_refl _) _).alloc (by simp) _).trans (hb1.mono (by simp; omega))).setCell (by simp) _).setCell (by simp) _).setCell (by simp) _
theorem once_22 (f g b : Nat) (hf : f < 256) (w : World) : OnceTo 22 f g b w ⟨withN f 3 false, g, b⟩ := by
 unfold OnceTo
 go_enter Tryz.func64, Tryz.ntmps64
 go_wp2_with fail
 refine (pn_with_any f g b 3 false hf (by omega) _).mono ?_
 rintro e w1 ⟨rfl, hb1⟩
 obtain ⟨hc, hz⟩ := pn_bcell hb1
 go_wp2
 refine ret3 Tryz.results64 (.inl rfl) rfl rfl (pn_put3 (x := .int .u8 0) (y := .int .u8 0) (z := .int .u8 0) ((pn_whole_snd w _ _ _).later hb1)) ⟨rfl, ?_⟩
 exact ((((((Below.refl w.heap.size w).alloc (Nat.le_refl _) _).alloc (by simp) _).trans (hb1.mono (by simp; omega))).setCell (by simp) _).setCell (by simp) _).setCell (by simp) _
theorem once_24 (f g b : Nat) (hf : f < 256) (w : World) : OnceTo 24 f g b w ⟨withN f 4 false, g, b⟩ := by
 unfold OnceTo
 go_enter Tryz.func64, Tryz.ntmps64
 go_wp2_with fail
 refine (pn_with_any f g b 4 false hf (by omega) _).mono ?_
 rintro e w1 ⟨rfl, hb1⟩
 obtain ⟨hc, hz⟩ := pn_bcell hb1
 go_wp2
 refine ret3 Tryz.results64 (.inl rfl) rfl rfl (pn_put3 (x := .int .u8 0) (y := .int .u8 0) (z := .int .u8 0) ((pn_whole_snd w _ _ _).later hb1)) ⟨rfl, ?_⟩
 exact ((((((Below.refl w.heap.size w).alloc (Nat.le_refl _) _).alloc (by simp) _).trans (hb1.mono (by simp; omega))).setCell (by simp) _).setCell (by simp) _).setCell (by simp) _
theorem once_25 (f g b : Nat) (hf : f < 256) (w : World) : OnceTo 25 f g b w ⟨withN f 8 false, g, b⟩ := by
 unfold OnceTo
 go_enter Tryz.func64, Tryz.ntmps64
 go_wp2_with fail
 refine (pn_with_any f g b 8 false hf (by omega) _).mono ?_
 rintro e w1 ⟨rfl, hb1⟩
 obtain ⟨hc, hz⟩ := pn_bcell hb1
 go_wp2
 refine ret3 Tryz.results64 (.inl rfl) rfl rfl (pn_put3 (x := .int .u8 0) (y := .int .u8 0) (z := .int .u8 0) ((pn_whole_snd w _ _ _).later hb1)) ⟨rfl, ?_⟩
 exact ((((((Below.refl w.heap.size w).alloc (Nat.le_refl _) _).alloc (by simp) _).trans (hb1.mono (by simp; omega))).setCell (by simp) _).setCell (by simp) _).setCell (by simp) _
theorem once_27 (f g b : Nat) (hf : f < 256) (w : World) : OnceTo 27 f g b w ⟨withN f 16 false, g, b⟩ := by
 unfold OnceTo
 go_enter Tryz.func64, Tryz.ntmps64
 go_wp2_with fail
 refine (pn_with_any f g b 16 false hf (by omega) _).mono ?_
 rintro e w1 ⟨rfl, hb1⟩
 obtain ⟨hc, hz⟩ := pn_bcell hb1
 go_wp2
 refine ret3 Tryz.results64 (.inl rfl) rfl rfl (pn_put3 (x := .int .u8 0) (y := .int .u8 0) (z := .int .u8 0) ((pn_whole_snd w _ _ _).later hb1)) ⟨rfl, ?_⟩
 exact ((((((Below.refl w.heap.size w).alloc (Nat.le_refl _) _).alloc (by simp) _).trans (hb1.mono (by simp; omega))).setCell (by simp) _).setCell (by simp) _).setCell (by simp) _
theorem once_back (f g b : Nat) (n : Int) (h : forF (n - 10)) (w : World) : OnceTo n f g b w ⟨f, g, dyeN b (n - 10)⟩ := by
 obtain ⟨hn1, hn2⟩ := forF_lt h
 have h0 : (n == 0) = false := by simp; omega
 have h1 : (n == 1) = false := by simp; omega
 have h2 : (n == 2) = false := by simp; omega
 have h4 : (n == 4) = false := by simp; omega
 have h5 : (n == 5) = false := by simp; omega
 have h7 : (n == 7) = false := by simp; omega
 have h22 : (n == 22) = false := by simp; omega
 have h24 : (n == 24) = false := by simp; omega
 have h25 : (n == 25) = false := by simp; omega
 have h27 : (n == 27) = false := by simp; omega
 have H := hide h
 have HC := hide (fun w => color_any (n - 10) h w)
 have HV := hide (dye_forF h b)
 clear h; unfold OnceTo
 go_enter Tryz.func64, Tryz.ntmps64
 go_upto_if 28 with fail
 go_cut [28] (fun s wx => s = .bool true ∧ wx = (w.alloc (.cells #[.int .u8 f, .int .u8 g, .int .u8 b] 65)).alloc (.cells #[.int .u8 0, .int .u8 0, .int .u8 0] 65))
 case first =>
  go_wp2
  all_goals
   go_meet
   have H1 := H.out
   unfold forF at H1
   refine ⟨congrArg Value.bool ?_, rfl⟩
   simp only [beq_iff_eq, beq_eq_false_iff_ne, ne_eq] at *
   first | omega | (exfalso; omega)
 case rest =>
  obtain ⟨rfl, rfl⟩ := hcut
  go_wp2_with fail
  refine (HC.out _).mono ?_
  rintro e w1 ⟨rfl, rfl⟩
  generalize hG : dyeN 0 (n - 10) = G
  have HG := hide hG; clear hG; go_wp2_with fail
  refine (dye2_any G w.heap.size f g b _ (two_whole w _ _ _)).mono ?_
  rintro e w1 ⟨rfl, rfl⟩
  go_wp2
  exact ret3 Tryz.results64 (.inl rfl) rfl rfl (pn_whole_snd w _ _ _) ⟨ret_pen rfl (by first | rfl | rw [HV.out, HG.out]) (by first | rfl | rw [HV.out, HG.out]), ((Below.refl _ _).alloc (Nat.le_refl _) _).alloc (by simp) _⟩
theorem once_fore (f g b : Nat) (n : Int) (h : forF (n)) (w : World) : OnceTo n f g b w ⟨f, dyeN g n, b⟩ := by
 obtain ⟨hn1, hn2⟩ := forF_lt h
 have h0 : (n == 0) = false := by simp; omega
 have h1 : (n == 1) = false := by simp; omega
 have h2 : (n == 2) = false := by simp; omega
 have h4 : (n == 4) = false := by simp; omega
 have h5 : (n == 5) = false := by simp; omega
 have h7 : (n == 7) = false := by simp; omega
 have h22 : (n == 22) = false := by simp; omega
 have h24 : (n == 24) = false := by simp; omega
 have h25 : (n == 25) = false := by simp; omega
 have h27 : (n == 27) = false := by simp; omega
 have h40 : (n == 40) = false := by unfold forF at h; simp; omega
 have h41 : (n == 41) = false := by unfold forF at h; simp; omega
 have h42 : (n == 42) = false := by unfold forF at h; simp; omega
 have h43 : (n == 43) = false := by unfold forF at h; simp; omega
 have h44 : (n == 44) = false := by unfold forF at h; simp; omega
 have h45 : (n == 45) = false := by unfold forF at h; simp; omega
 have h46 : (n == 46) = false := by unfold forF at h; simp; omega
 have h47 : (n == 47) = false := by unfold forF at h; simp; omega
 have h49 : (n == 49) = false := by unfold forF at h; simp; omega
 have h100 : (n == 100) = false := by unfold forF at h; simp; omega
 have h101 : (n == 101) = false := by unfold forF at h; simp; omega
 have h102 : (n == 102) = false := by unfold forF at h; simp; omega
 have h103 : (n == 103) = false := by unfold forF at h; simp; omega
 have h104 : (n == 104) = false := by unfold forF at h; simp; omega
 have h105 : (n == 105) = false := by unfold forF at h; simp; omega
 have h106 : (n == 106) = false := by unfold forF at h; simp; omega
 have h107 : (n == 107) = false := by unfold forF at h; simp; omega
 have H := hide h
 have HC := hide (fun w => color_any (n) h w)
 have HV := hide (dye_forF h g)
 clear h; unfold OnceTo
 go_enter Tryz.func64, Tryz.ntmps64
 go_upto_if 46 with fail
 go_cut [46] (fun s wx => s = .bool true ∧ wx = (w.alloc (.cells #[.int .u8 f, .int .u8 g, .int .u8 b] 65)).alloc (.cells #[.int .u8 0, .int .u8 0, .int .u8 0] 65))
 case first =>
  go_wp2
  all_goals
   go_meet
   have H1 := H.out
   unfold forF at H1
   refine ⟨congrArg Value.bool ?_, rfl⟩
   simp only [beq_iff_eq, beq_eq_false_iff_ne, ne_eq] at *
   first | omega | (exfalso; omega)
 case rest =>
  obtain ⟨rfl, rfl⟩ := hcut
  go_wp2_with fail
  refine (HC.out _).mono ?_
  rintro e w1 ⟨rfl, rfl⟩
  generalize hG : dyeN 0 (n) = G
  have HG := hide hG; clear hG; go_wp2_with fail
  refine (dye1_any G w.heap.size f g b _ (two_whole w _ _ _)).mono ?_
  rintro e w1 ⟨rfl, rfl⟩
  go_wp2
  exact ret3 Tryz.results64 (.inl rfl) rfl rfl (pn_whole_snd w _ _ _) ⟨ret_pen rfl (by first | rfl | rw [HV.out, HG.out]) (by first | rfl | rw [HV.out, HG.out]), ((Below.refl _ _).alloc (Nat.le_refl _) _).alloc (by simp) _⟩
theorem once_other (f g b : Nat) (n : Int) (w : World) (h0 : (n == 0) = false) (h1 : (n == 1) = false) (h2 : (n == 2) = false) (h4 : (n == 4) = false) (h5 : (n == 5) = false) (h7 : (n == 7) = false) (h22 : (n == 22) = false) (h24 : (n == 24) = false) (h25 : (n == 25) = false) (h27 : (n == 27) = false) (h30 : (n == 30) = false) (h31 : (n == 31) = false) (h32 : (n == 32) = false) (h33 : (n == 33) = false) (h34 : (n == 34) = false) (h35 : (n == 35) = false) (h36 : (n == 36) = false) (h37 : (n == 37) = false) (h39 : (n == 39) = false) (h40 : (n == 40) = false) (h41 : (n == 41) = false) (h42 : (n == 42) = false) (h43 : (n == 43) = false) (h44 : (n == 44) = false) (h45 : (n == 45) = false) (h46 : (n == 46) = false) (h47 : (n == 47) = false) (h49 : (n == 49) = false) (h90 : (n == 90) = false) (h91 : (n == 91) = false) (h92 : (n == 92) = false) (h93 : (n == 93) = false) (h94 : (n == 94) = false) (h95 : (n == 95) = false) (h96 : (n == 96) = false) (h97 : (n == 97) = false) (h100 : (n == 100) = false) (h101 : (n == 101) = false) (h102 : (n == 102) = false) (h103 : (n == 103) = false) (h104 : (n == 104) = false) (h105 : (n == 105) = false) (h106 : (n == 106) = false) (h107 : (n == 107) = false) : OnceTo n f g b w ⟨f, g, b⟩ := by
 unfold OnceTo
 go_enter Tryz.func64, Tryz.ntmps64
 go_wp2
 exact ret3 Tryz.results64 (.inl rfl) rfl rfl (pn_whole_snd w _ _ _) ⟨rfl, ((Below.refl _ _).alloc (Nat.le_refl _) _).alloc (by simp) _⟩
theorem once_any (f g b : Nat) (n : Int) (hf : f < 256) (w : World) : Calls Tryz.prog 64 #[.agg #[.int .u8 f, .int .u8 g, .int .u8 b], .int .i64 n] w (Penned (onceN ⟨f, g, b⟩ n) w) := by
 show OnceTo n f g b w (onceN ⟨f, g, b⟩ n)
 by_cases h0 : n = 0
 ·subst h0; exact once_0 f g b w
 by_cases h1 : n = 1
 ·subst h1; exact once_1 f g b hf w
 by_cases h2 : n = 2
 ·subst h2; exact once_2 f g b hf w
 by_cases h4 : n = 4
 ·subst h4; exact once_4 f g b hf w
 by_cases h5 : n = 5
 ·subst h5; exact once_5 f g b hf w
 by_cases h7 : n = 7
 ·subst h7; exact once_7 f g b hf w
 by_cases h22 : n = 22
 ·subst h22; exact once_22 f g b hf w
 by_cases h24 : n = 24
 ·subst h24; exact once_24 f g b hf w
 by_cases h25 : n = 25
 ·subst h25; exact once_25 f g b hf w
 by_cases h27 : n = 27
 ·subst h27; exact once_27 f g b hf w
 by_cases hb : forF (n - 10)
 ·have e : onceN ⟨f, g, b⟩ n = ⟨f, g, dyeN b (n - 10)⟩ := by
   unfold forF at hb
   have e1 : dyeN g n = g := by unfold dyeN; rw [if_neg (by omega), if_neg (by omega), if_neg (by omega)]
   unfold onceN flagN
   rw [if_neg h0, if_neg h0, if_neg h1, if_neg h2, if_neg h4, if_neg h5, if_neg h7, if_neg h22, if_neg h24, if_neg h25, if_neg h27, e1]
  rw [e]
  exact once_back f g b n hb w
 by_cases hg : forF n
 ·have e : onceN ⟨f, g, b⟩ n = ⟨f, dyeN g n, b⟩ := by
   unfold forF at hg hb
   have e1 : dyeN b (n - 10) = b := by unfold dyeN; rw [if_neg (by omega), if_neg (by omega), if_neg (by omega)]
   unfold onceN flagN
   rw [if_neg h0, if_neg h0, if_neg h1, if_neg h2, if_neg h4, if_neg h5, if_neg h7, if_neg h22, if_neg h24, if_neg h25, if_neg h27, e1]
  rw [e]
  exact once_fore f g b n hg w
 unfold forF at hb hg
 have e : onceN ⟨f, g, b⟩ n = ⟨f, g, b⟩ := by
  have e1 : dyeN g n = g := by unfold dyeN; rw [if_neg (by omega), if_neg (by omega), if_neg (by omega)]
  have e2 : dyeN b (n - 10) = b := by unfold dyeN; rw [if_neg (by omega), if_neg (by omega), if_neg (by omega)]
  unfold onceN flagN
  rw [if_neg h0, if_neg h0, if_neg h1, if_neg h2, if_neg h4, if_neg h5, if_neg h7, if_neg h22, if_neg h24, if_neg h25, if_neg h27, e1, e2]
 rw [e]
 have ne : ∀ k : Int, n ≠ k → (n == k) = false := fun k h => beq_false_of_ne h
 exact once_other f g b n w (ne 0 h0) (ne 1 h1) (ne 2 h2) (ne 4 h4) (ne 5 h5) (ne 7 h7) (ne 22 h22) (ne 24 h24) (ne 25 h25) (ne 27 h27) (ne 30 (by omega)) (ne 31 (by omega)) (ne 32 (by omega)) (ne 33 (by omega)) (ne 34 (by omega)) (ne 35 (by omega)) (ne 36 (by omega)) (ne 37 (by omega)) (ne 39 (by omega)) (ne 40 (by omega)) (ne 41 (by omega)) (ne 42 (by omega)) (ne 43 (by omega)) (ne 44 (by omega)) (ne 45 (by omega)) (ne 46 (by omega)) (ne 47 (by omega)) (ne 49 (by omega)) (ne 90 (by omega)) (ne 91 (by omega)) (ne 92 (by omega)) (ne 93 (by omega)) (ne 94 (by omega)) (ne 95 (by omega)) (ne 96 (by omega)) (ne 97 (by omega)) (ne 100 (by omega)) (ne 101 (by omega)) (ne 102 (by omega)) (ne 103 (by omega)) (ne 104 (by omega)) (ne 105 (by omega)) (ne 106 (by omega)) (ne 107 (by omega))
theorem fold_snoc (p : Pn) (l : List Int) (k : Nat) (r : Int) (hk : k < l.length) (hr : l.getD k 0 = r) : (l.take (k + 1)).foldl onceN p = onceN ((l.take k).foldl onceN p) r := by
 rw [take_snoc l k r hk hr, List.foldl_append]; rfl
theorem turn_full (p : Pn) (l : List Int) (h : 0 < l.length) : turnN p l = l.foldl onceN p := by
 unfold turnN
 cases l with
 | nil => simp at h
 | cons => rfl
theorem pn_below_put3 {B : Nat} {w w1 : World} {q : Nat} (h : Below B w w1) (hq : B ≤ q) (x y z : Value) : Below B w (((w1.setCell ⟨q, 0, none⟩ x).setCell ⟨q, 1, none⟩ y).setCell ⟨q, 2, none⟩ z) := ((h.setCell hq _).setCell hq _).setCell hq _
theorem whole_put3 {w1 : World} {q r : Nat} {t : TypeId} {l : List Value} (h : Whole w1 r t l) (hq : r ≠ q) (x y z : Value) : Whole (((w1.setCell ⟨q, 0, none⟩ x).setCell ⟨q, 1, none⟩ y).setCell ⟨q, 2, none⟩ z) r t l := by
 unfold Whole
 rw [Below.heap_setCell _ _ _ _ hq, Below.heap_setCell _ _ _ _ hq, Below.heap_setCell _ _ _ _ hq]
 exact h
theorem turn_any (f g b : Nat) (hp : Pn.ok ⟨f, g, b⟩) (A : Option Addr) (m c : Nat) (zs : List Int) (w : World) (h : Ints .i64 w A zs) (hl : zs.length = m) (hm : m ≤ 1000000) :
  Calls Tryz.prog 30 #[.agg #[.int .u8 f, .int .u8 g, .int .u8 b], .slice A m c] w (Penned (turnN ⟨f, g, b⟩ zs) w) := by
 by_cases h0 : m = 0
 ·subst h0
  have E : Hid (turnN ⟨f, g, b⟩ zs = ⟨0, 0, 0⟩) := by
   have : zs = [] := List.eq_nil_of_length_eq_zero hl
   subst this; rfl
  clear hl
  rw [E.out]
  go_enter Tryz.func30, Tryz.ntmps30
  go_wp2
  exact ret3 Tryz.results30 (.inl rfl) rfl rfl (pn_whole_snd w _ _ _) ⟨rfl, ((Below.refl _ _).alloc (Nat.le_refl _) _).alloc (by simp) _⟩
 have h0p : 0 < m := by omega
 have h0' : ((m : Int) == 0) = false := by simp; omega
 clear h0; have HL := hide hl; have HP := hide hp
 have ET := hide (turn_full ⟨f, g, b⟩ zs (by omega))
 clear hl hp
 have HW0 := hide (two_whole w 65 [.int .u8 f, .int .u8 g, .int .u8 b] (.cells #[.int .u8 0, .int .u8 0, .int .u8 0] 65))
 have HW1 := hide (pn_whole_snd w (.cells #[.int .u8 f, .int .u8 g, .int .u8 b] 65) 65 [.int .u8 0, .int .u8 0, .int .u8 0])
 go_enter Tryz.func30, Tryz.ntmps30
 go_wp2
 go_loopw [6, 13] (fun _ i wr => ∃ k : Nat, k ≤ m ∧ i = .int .i64 k ∧ Whole wr w.heap.size 65 (penL ((zs.take k).foldl onceN ⟨f, g, b⟩)) ∧ Whole wr (w.heap.size + 1) 65 [.int .u8 0, .int .u8 0, .int .u8 0] ∧ Below w.heap.size w wr)
  (fun _ i _ => m - (intOf i).toNat)
 case atStart => exact ⟨0, Nat.zero_le _, rfl, HW0.out, HW1.out, ((Below.refl _ _).alloc (Nat.le_refl _) _).alloc (by simp) _⟩
 case round =>
  obtain ⟨k, hk, rfl, hw0, hw1, hbel⟩ := hrel
  obtain ⟨⟨F, G, B⟩, hP⟩ : ∃ P, (zs.take k).foldl onceN ⟨f, g, b⟩ = P := ⟨_, rfl⟩
  have hok := foldN_ok (zs.take k) _ HP.out
  rw [hP] at hw0 hok
  have hF : F < 256 := hok.1
  have c0 : wr.cell? ⟨w.heap.size, 0, none⟩ = some (.int .u8 F) := hw0.cell 0
  have c1 : wr.cell? ⟨w.heap.size, 1, none⟩ = some (.int .u8 G) := hw0.cell 1
  have c2 : wr.cell? ⟨w.heap.size, 2, none⟩ = some (.int .u8 B) := hw0.cell 2
  have s0 := hw0.lt
  have s1 := hw1.lt
  by_cases hlt : k < m
  ·obtain ⟨bb, off, rfl, hc, hb⟩ := h.at (i := k) (by rw [HL.out]; exact hlt)
   obtain ⟨r, hr⟩ := exq (zs.getD k 0)
   have hcx : wr.cell? ⟨bb, off + k, none⟩ = some (.int .i64 r) := by rw [← hr]; exact (hbel.cell (by exact hb)).trans hc
   have HT := hide (fold_snoc ⟨f, g, b⟩ zs k r (by rw [HL.out]; exact hlt) hr)
   rw [hP] at HT
   obtain ⟨⟨F', G', B'⟩, hQ⟩ : ∃ P, onceN ⟨F, G, B⟩ r = P := ⟨_, rfl⟩
   rw [hQ] at HT
   have hcall : ∀ W, Calls Tryz.prog 64 #[.agg #[.int .u8 F, .int .u8 G, .int .u8 B], .int .i64 r] W (Penned ⟨F', G', B'⟩ W) := fun W => by have := once_any F G B r hF W; rw [hQ] at this; exact this
   have HC := hide hcall; clear hr hc hP hQ hcall; have HW0 := hide hw0; have HW1 := hide hw1; clear hw0 hw1; go_wp2_with fail
   refine (HC.out _).mono ?_
   rintro e w1 ⟨rfl, hb1⟩
   have d0 := (HW0.out.later hb1).cell 0
   have d1 := (HW0.out.later hb1).cell 1
   have d2 := (HW0.out.later hb1).cell 2
   have z0 := (HW0.out.later hb1).frozen 0
   have z1 := (HW0.out.later hb1).frozen 1
   have z2 := (HW0.out.later hb1).frozen 2
   simp only [penL, List.getElem?_cons_zero, List.getElem?_cons_succ] at d0 d1 d2
   go_wp2
   go_roundw
   case rel => exact ⟨k + 1, by omega, by go_num, by rw [HT.out]; exact pn_put3 (HW0.out.later hb1), whole_put3 (HW1.out.later hb1) (by omega) _ _ _, pn_below_put3 (hbel.trans (hb1.mono hbel.size)) (Nat.le_refl _) _ _ _⟩
   case measure => simp [intOf]; omega
  ·have E : Hid (turnN ⟨f, g, b⟩ zs = ⟨F, G, B⟩) := by
    unfold Hid; rw [ET.out, ← hP, List.take_of_length_le (by rw [HL.out]; omega)]
   rw [E.out]
   have d0 := hw1.cell 0
   have d1 := hw1.cell 1
   have d2 := hw1.cell 2
   have z0 := hw1.frozen 0
   have z1 := hw1.frozen 1
   have z2 := hw1.frozen 2
   simp only [List.getElem?_cons_zero, List.getElem?_cons_succ] at d0 d1 d2
   have HW1 := hide hw1; clear hP hw0 hw1; go_wp2
   exact ret3 Tryz.results30 (.inl rfl) rfl rfl (pn_put3 HW1.out) ⟨by rw [E.out], pn_below_put3 hbel (by omega) _ _ _⟩
theorem hasN_iff (x b : Nat) : hasN x b = true ↔ x / b % 2 = 1 := by unfold hasN; simp
theorem whole3 {w : World} {q : Nat} {t : TypeId} {x y z : Value} (h : Whole w q t [x, y, z]) : w.cell? ⟨q, 0, none⟩ = some x ∧ w.cell? ⟨q, 1, none⟩ = some y ∧ w.cell? ⟨q, 2, none⟩ = some z ∧ w.frozen? ⟨q, 0, none⟩ = false ∧ w.frozen? ⟨q, 1, none⟩ = false ∧ w.frozen? ⟨q, 2, none⟩ = false :=
 ⟨h.cell 0, h.cell 1, h.cell 2, h.frozen 0, h.frozen 1, h.frozen 2⟩
theorem whole_put1 {w1 : World} {q r i : Nat} {t : TypeId} {l : List Value} (h : Whole w1 r t l) (hq : r ≠ q) (x : Value) : Whole (w1.setCell ⟨q, i, none⟩ x) r t l := by
 unfold Whole
 rw [Below.heap_setCell _ _ _ _ hq]
 exact h
end
end Go.Proofs.YtkijclgbpbhglaaGreatDoor
