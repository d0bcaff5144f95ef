/-
  Contracts: the cell of a rune (both), a cell with a mark more (both).
-/
import Derived.Test.YtdeoeihbmdgipaaDoorCBase
import Derived.Test.YtdeoeihbmdgipaaDoorWRef
namespace Go.Proofs.YtdeoeihbmdgipaaDoor
open Go.ChangeShapes Go.WideShapes Go.ChangeAt Go.RowKit
set_option linter.unusedVariables false

theorem ofC_1 (r : Int) (p : Pn) (h : wOf r = 1) : ofC r p = (⟨r, 0, 0, 1, p⟩, true) := by unfold ofC; rw [if_pos h]
theorem ofC_2 (r : Int) (p : Pn) (h : wOf r = 2) : ofC r p = (⟨r, 0, 0, 2, p⟩, true) := by unfold ofC; rw [if_neg (by omega), if_pos h]
theorem ofC_no (r : Int) (p : Pn) (h : wOf r < 1) : ofC r p = (zeroC, false) := by unfold ofC; rw [if_neg (by omega), if_neg (by omega)]
set_option maxHeartbeats 1000000 in
theorem cof_any (r : Int) (f g b : Nat) (w : World) (hS : Spans w) : Calls Tryd.prog 43 #[.int .i32 r, .agg #[.int .u8 (f : Int), .int .u8 (g : Int), .int .u8 (b : Int)]] w (Celled2 .i32 (ofC r ⟨f, g, b⟩) w) := by
  have hS2 := (hS.alloc (.cells #[.int .u8 (f : Int), .int .u8 (g : Int), .int .u8 (b : Int)] 25)).alloc (.cells #[.int .i32 0, .int .i32 0, .int .i32 0, .int .u8 (0 : Int), .int .u8 (0 : Int), .int .u8 (0 : Int), .int .u8 (0 : Int)] 27)
  have HS := hide hS2
  clear hS2 hS
  rcases wOf_range r with h | h | h | h
  · have E := hide (ofC_no r ⟨f, g, b⟩ (by omega))
    have HW := hide h
    clear h
    go_enter Tryd.func43, Tryd.ntmps43
    go_wp2_with fail
    refine (of_any r _ HS.out).mono ?_
    rintro e w1 ⟨rfl, hb1⟩
    rw [HW.out]
    obtain ⟨hc, hz⟩ := bcell hb1
    have hb := (two_new w 25 27 [.int .u8 (f : Int), .int .u8 (g : Int), .int .u8 (b : Int)] [.int .i32 0, .int .i32 0, .int .i32 0, .int .u8 (0 : Int), .int .u8 (0 : Int), .int .u8 (0 : Int), .int .u8 (0 : Int)]).trans (hb1.mono (by simp; omega))
    have HV := hide ((whole_snd w (.cells #[.int .u8 (f : Int), .int .u8 (g : Int), .int .u8 (b : Int)] 25) 27 [.int .i32 0, .int .i32 0, .int .i32 0, .int .u8 (0 : Int), .int .u8 (0 : Int), .int .u8 (0 : Int), .int .u8 (0 : Int)]).later hb1)
    go_wp2
    exact ret72 Tryd.results43 (.inl rfl) rfl rfl rfl (put7 HV.out _ _ _ _ _ _ _) ⟨by rw [E.out]; rfl, below_put7 hb (Nat.le_succ _) _ _ _ _ _ _ _⟩
  · have E := hide (ofC_no r ⟨f, g, b⟩ (by omega))
    have HW := hide h
    clear h
    go_enter Tryd.func43, Tryd.ntmps43
    go_wp2_with fail
    refine (of_any r _ HS.out).mono ?_
    rintro e w1 ⟨rfl, hb1⟩
    rw [HW.out]
    obtain ⟨hc, hz⟩ := bcell hb1
    have hb := (two_new w 25 27 [.int .u8 (f : Int), .int .u8 (g : Int), .int .u8 (b : Int)] [.int .i32 0, .int .i32 0, .int .i32 0, .int .u8 (0 : Int), .int .u8 (0 : Int), .int .u8 (0 : Int), .int .u8 (0 : Int)]).trans (hb1.mono (by simp; omega))
    have HV := hide ((whole_snd w (.cells #[.int .u8 (f : Int), .int .u8 (g : Int), .int .u8 (b : Int)] 25) 27 [.int .i32 0, .int .i32 0, .int .i32 0, .int .u8 (0 : Int), .int .u8 (0 : Int), .int .u8 (0 : Int), .int .u8 (0 : Int)]).later hb1)
    go_wp2
    exact ret72 Tryd.results43 (.inl rfl) rfl rfl rfl (put7 HV.out _ _ _ _ _ _ _) ⟨by rw [E.out]; rfl, below_put7 hb (Nat.le_succ _) _ _ _ _ _ _ _⟩
  · have E := hide (ofC_1 r ⟨f, g, b⟩ h)
    have HW := hide h
    clear h
    go_enter Tryd.func43, Tryd.ntmps43
    go_wp2_with fail
    refine (of_any r _ HS.out).mono ?_
    rintro e w1 ⟨rfl, hb1⟩
    rw [HW.out]
    obtain ⟨hc, hz⟩ := bcell hb1
    have hb := (two_new w 25 27 [.int .u8 (f : Int), .int .u8 (g : Int), .int .u8 (b : Int)] [.int .i32 0, .int .i32 0, .int .i32 0, .int .u8 (0 : Int), .int .u8 (0 : Int), .int .u8 (0 : Int), .int .u8 (0 : Int)]).trans (hb1.mono (by simp; omega))
    have HV := hide ((whole_snd w (.cells #[.int .u8 (f : Int), .int .u8 (g : Int), .int .u8 (b : Int)] 25) 27 [.int .i32 0, .int .i32 0, .int .i32 0, .int .u8 (0 : Int), .int .u8 (0 : Int), .int .u8 (0 : Int), .int .u8 (0 : Int)]).later hb1)
    go_wp2
    exact ret72 Tryd.results43 (.inl rfl) rfl rfl rfl (put7 HV.out _ _ _ _ _ _ _) ⟨by rw [E.out]; rfl, below_put7 hb (Nat.le_succ _) _ _ _ _ _ _ _⟩
  · have E := hide (ofC_2 r ⟨f, g, b⟩ h)
    have HW := hide h
    clear h
    go_enter Tryd.func43, Tryd.ntmps43
    go_wp2_with fail
    refine (of_any r _ HS.out).mono ?_
    rintro e w1 ⟨rfl, hb1⟩
    rw [HW.out]
    obtain ⟨hc, hz⟩ := bcell hb1
    have hb := (two_new w 25 27 [.int .u8 (f : Int), .int .u8 (g : Int), .int .u8 (b : Int)] [.int .i32 0, .int .i32 0, .int .i32 0, .int .u8 (0 : Int), .int .u8 (0 : Int), .int .u8 (0 : Int), .int .u8 (0 : Int)]).trans (hb1.mono (by simp; omega))
    have HV := hide ((whole_snd w (.cells #[.int .u8 (f : Int), .int .u8 (g : Int), .int .u8 (b : Int)] 25) 27 [.int .i32 0, .int .i32 0, .int .i32 0, .int .u8 (0 : Int), .int .u8 (0 : Int), .int .u8 (0 : Int), .int .u8 (0 : Int)]).later hb1)
    go_wp2
    exact ret72 Tryd.results43 (.inl rfl) rfl rfl rfl (put7 HV.out _ _ _ _ _ _ _) ⟨by rw [E.out]; rfl, below_put7 hb (Nat.le_succ _) _ _ _ _ _ _ _⟩
end Go.Proofs.YtdeoeihbmdgipaaDoor
