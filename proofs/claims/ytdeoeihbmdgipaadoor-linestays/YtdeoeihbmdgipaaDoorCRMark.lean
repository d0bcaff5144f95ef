/-
  Contract: a cell with a mark more, by the document.
-/
import Derived.Test.YtdeoeihbmdgipaaDoorCMark
namespace Go.Proofs.YtdeoeihbmdgipaaDoor
open Go.ChangeShapes Go.WideShapes Go.ChangeAt Go.RowKit
set_option linter.unusedVariables false

set_option maxHeartbeats 2000000 in
theorem rcmark_any (r m n : Int) (d f g b : Nat) (x : Int) (w : World) : Calls Tryd.prog 42 #[.agg #[.int .i64 r, .int .i64 m, .int .i64 n, .int .u8 (d : Int), .int .u8 (f : Int), .int .u8 (g : Int), .int .u8 (b : Int)], .int .i64 x] w (Celled2 .i64 (markC ⟨r, m, n, d, ⟨f, g, b⟩⟩ x) w) := by
  obtain ⟨W0, hW0⟩ : ∃ W0, (w.alloc (.cells #[.int .i64 r, .int .i64 m, .int .i64 n, .int .u8 (d : Int), .int .u8 (f : Int), .int .u8 (g : Int), .int .u8 (b : Int)] 38)).alloc (.cells #[.int .i64 0, .int .i64 0, .int .i64 0, .int .u8 (0 : Int), .int .u8 (0 : Int), .int .u8 (0 : Int), .int .u8 (0 : Int)] 38) = W0 := ⟨_, rfl⟩
  have HB : Hid (Below w.heap.size w W0) := by unfold Hid; rw [← hW0]; exact two_new w _ _ [.int .i64 r, .int .i64 m, .int .i64 n, .int .u8 (d : Int), .int .u8 (f : Int), .int .u8 (g : Int), .int .u8 (b : Int)] [.int .i64 0, .int .i64 0, .int .i64 0, .int .u8 (0 : Int), .int .u8 (0 : Int), .int .u8 (0 : Int), .int .u8 (0 : Int)]
  have HC : Hid (Whole W0 w.heap.size 38 [.int .i64 r, .int .i64 m, .int .i64 n, .int .u8 (d : Int), .int .u8 (f : Int), .int .u8 (g : Int), .int .u8 (b : Int)]) := by unfold Hid; rw [← hW0]; exact (Whole.new w 38 [.int .i64 r, .int .i64 m, .int .i64 n, .int .u8 (d : Int), .int .u8 (f : Int), .int .u8 (g : Int), .int .u8 (b : Int)]).alloc _
  have HR : Hid (Whole W0 (w.heap.size + 1) 38 [.int .i64 0, .int .i64 0, .int .i64 0, .int .u8 (0 : Int), .int .u8 (0 : Int), .int .u8 (0 : Int), .int .u8 (0 : Int)]) := by unfold Hid; rw [← hW0]; exact whole_snd w _ 38 [.int .i64 0, .int .i64 0, .int .i64 0, .int .u8 (0 : Int), .int .u8 (0 : Int), .int .u8 (0 : Int), .int .u8 (0 : Int)]
  have HW0 := hide hW0
  clear hW0
  rcases wOf_range x with h | h | h | h
  · have E := hide (markC_rune ⟨r, m, n, d, ⟨f, g, b⟩⟩ x (by omega))
    have HX := hide h
    clear h
    go_enter Tryd.func42, Tryd.ntmps42
    go_wp2_with fail
    rw [HW0.out]
    refine (rof_any x _).mono ?_
    rintro e w1 ⟨rfl, hb1⟩
    rw [HX.out]
    have HC1 := hide (HC.out.later hb1)
    have HR1 := hide (HR.out.later hb1)
    have HB1 := hide (HB.out.trans (hb1.mono HB.out.size))
    obtain ⟨c0, c1, c2, c3, c4, c5, c6, cz⟩ := cells7 HC1.out
    obtain ⟨d0, d1, d2, d3, d4, d5, d6, dz⟩ := cells7 HR1.out
    clear hb1
    go_wp2
    exact ret72 Tryd.results42 (.inr rfl) rfl rfl rfl (put7 HR1.out _ _ _ _ _ _ _) ⟨by rw [E.out]; rfl, below_put7 HB1.out (Nat.le_succ _) _ _ _ _ _ _ _⟩
  · have HX := hide h
    by_cases h1 : d = 1
    · have HBR := hide (bears_1 r m n d f g b h1)
      have e1 : ((d : Int) != 1) = false := by simp; omega
      clear h h1
      by_cases hm : m = 0
      · have E := hide (markC_fst ⟨r, m, n, d, ⟨f, g, b⟩⟩ x HX.out HBR.out hm)
        have hq : (m == 0) = true := by simpa using hm
        clear hm
        go_enter Tryd.func42, Tryd.ntmps42
        go_wp2_with fail
        rw [HW0.out]
        refine (rof_any x _).mono ?_
        rintro e w1 ⟨rfl, hb1⟩
        rw [HX.out]
        have HC1 := hide (HC.out.later hb1)
        have HR1 := hide (HR.out.later hb1)
        have HB1 := hide (HB.out.trans (hb1.mono HB.out.size))
        obtain ⟨c0, c1, c2, c3, c4, c5, c6, cz⟩ := cells7 HC1.out
        obtain ⟨d0, d1, d2, d3, d4, d5, d6, dz⟩ := cells7 HR1.out
        clear hb1
        go_wp2
        exact ret72 Tryd.results42 (.inr rfl) rfl rfl rfl (put7 (whole_put HR1.out (Nat.succ_ne_self _) _) _ _ _ _ _ _ _) ⟨by rw [E.out]; rfl, below_put7 (HB1.out.setCell (p := ⟨w.heap.size, 1, none⟩) (Nat.le_refl _) _) (Nat.le_succ _) _ _ _ _ _ _ _⟩
      · have hq : (m == 0) = false := by simpa using hm
        by_cases hn : n = 0
        · have E := hide (markC_snd ⟨r, m, n, d, ⟨f, g, b⟩⟩ x HX.out HBR.out hm hn)
          have hr : (n == 0) = true := by simpa using hn
          clear hm hn
          go_enter Tryd.func42, Tryd.ntmps42
          go_wp2_with fail
          rw [HW0.out]
          refine (rof_any x _).mono ?_
          rintro e w1 ⟨rfl, hb1⟩
          rw [HX.out]
          have HC1 := hide (HC.out.later hb1)
          have HR1 := hide (HR.out.later hb1)
          have HB1 := hide (HB.out.trans (hb1.mono HB.out.size))
          obtain ⟨c0, c1, c2, c3, c4, c5, c6, cz⟩ := cells7 HC1.out
          obtain ⟨d0, d1, d2, d3, d4, d5, d6, dz⟩ := cells7 HR1.out
          clear hb1
          go_wp2
          exact ret72 Tryd.results42 (.inr rfl) rfl rfl rfl (put7 (whole_put HR1.out (Nat.succ_ne_self _) _) _ _ _ _ _ _ _) ⟨by rw [E.out]; rfl, below_put7 (HB1.out.setCell (p := ⟨w.heap.size, 2, none⟩) (Nat.le_refl _) _) (Nat.le_succ _) _ _ _ _ _ _ _⟩
        · have E := hide (markC_full ⟨r, m, n, d, ⟨f, g, b⟩⟩ x HX.out HBR.out hm hn)
          have hr : (n == 0) = false := by simpa using hn
          clear hm hn
          go_enter Tryd.func42, Tryd.ntmps42
          go_wp2_with fail
          rw [HW0.out]
          refine (rof_any x _).mono ?_
          rintro e w1 ⟨rfl, hb1⟩
          rw [HX.out]
          have HC1 := hide (HC.out.later hb1)
          have HR1 := hide (HR.out.later hb1)
          have HB1 := hide (HB.out.trans (hb1.mono HB.out.size))
          obtain ⟨c0, c1, c2, c3, c4, c5, c6, cz⟩ := cells7 HC1.out
          obtain ⟨d0, d1, d2, d3, d4, d5, d6, dz⟩ := cells7 HR1.out
          clear hb1
          go_wp2
          exact ret72 Tryd.results42 (.inr rfl) rfl rfl rfl (put7 HR1.out _ _ _ _ _ _ _) ⟨by rw [E.out]; rfl, below_put7 HB1.out (Nat.le_succ _) _ _ _ _ _ _ _⟩
    · have e1 : ((d : Int) != 1) = true := by simp; omega
      by_cases h2 : d = 2
      · have HBR := hide (bears_2 r m n d f g b h2)
        have e2 : ((d : Int) != 2) = false := by simp; omega
        clear h h1 h2
        by_cases hm : m = 0
        · have E := hide (markC_fst ⟨r, m, n, d, ⟨f, g, b⟩⟩ x HX.out HBR.out hm)
          have hq : (m == 0) = true := by simpa using hm
          clear hm
          go_enter Tryd.func42, Tryd.ntmps42
          go_wp2_with fail
          rw [HW0.out]
          refine (rof_any x _).mono ?_
          rintro e w1 ⟨rfl, hb1⟩
          rw [HX.out]
          have HC1 := hide (HC.out.later hb1)
          have HR1 := hide (HR.out.later hb1)
          have HB1 := hide (HB.out.trans (hb1.mono HB.out.size))
          obtain ⟨c0, c1, c2, c3, c4, c5, c6, cz⟩ := cells7 HC1.out
          obtain ⟨d0, d1, d2, d3, d4, d5, d6, dz⟩ := cells7 HR1.out
          clear hb1
          go_wp2
          exact ret72 Tryd.results42 (.inr rfl) rfl rfl rfl (put7 (whole_put HR1.out (Nat.succ_ne_self _) _) _ _ _ _ _ _ _) ⟨by rw [E.out]; rfl, below_put7 (HB1.out.setCell (p := ⟨w.heap.size, 1, none⟩) (Nat.le_refl _) _) (Nat.le_succ _) _ _ _ _ _ _ _⟩
        · have hq : (m == 0) = false := by simpa using hm
          by_cases hn : n = 0
          · have E := hide (markC_snd ⟨r, m, n, d, ⟨f, g, b⟩⟩ x HX.out HBR.out hm hn)
            have hr : (n == 0) = true := by simpa using hn
            clear hm hn
            go_enter Tryd.func42, Tryd.ntmps42
            go_wp2_with fail
            rw [HW0.out]
            refine (rof_any x _).mono ?_
            rintro e w1 ⟨rfl, hb1⟩
            rw [HX.out]
            have HC1 := hide (HC.out.later hb1)
            have HR1 := hide (HR.out.later hb1)
            have HB1 := hide (HB.out.trans (hb1.mono HB.out.size))
            obtain ⟨c0, c1, c2, c3, c4, c5, c6, cz⟩ := cells7 HC1.out
            obtain ⟨d0, d1, d2, d3, d4, d5, d6, dz⟩ := cells7 HR1.out
            clear hb1
            go_wp2
            exact ret72 Tryd.results42 (.inr rfl) rfl rfl rfl (put7 (whole_put HR1.out (Nat.succ_ne_self _) _) _ _ _ _ _ _ _) ⟨by rw [E.out]; rfl, below_put7 (HB1.out.setCell (p := ⟨w.heap.size, 2, none⟩) (Nat.le_refl _) _) (Nat.le_succ _) _ _ _ _ _ _ _⟩
          · have E := hide (markC_full ⟨r, m, n, d, ⟨f, g, b⟩⟩ x HX.out HBR.out hm hn)
            have hr : (n == 0) = false := by simpa using hn
            clear hm hn
            go_enter Tryd.func42, Tryd.ntmps42
            go_wp2_with fail
            rw [HW0.out]
            refine (rof_any x _).mono ?_
            rintro e w1 ⟨rfl, hb1⟩
            rw [HX.out]
            have HC1 := hide (HC.out.later hb1)
            have HR1 := hide (HR.out.later hb1)
            have HB1 := hide (HB.out.trans (hb1.mono HB.out.size))
            obtain ⟨c0, c1, c2, c3, c4, c5, c6, cz⟩ := cells7 HC1.out
            obtain ⟨d0, d1, d2, d3, d4, d5, d6, dz⟩ := cells7 HR1.out
            clear hb1
            go_wp2
            exact ret72 Tryd.results42 (.inr rfl) rfl rfl rfl (put7 HR1.out _ _ _ _ _ _ _) ⟨by rw [E.out]; rfl, below_put7 HB1.out (Nat.le_succ _) _ _ _ _ _ _ _⟩
      · have E := hide (markC_half ⟨r, m, n, d, ⟨f, g, b⟩⟩ x (bears_no r m n d f g b h1 h2))
        have e2 : ((d : Int) != 2) = true := by simp; omega
        clear h h1 h2
        go_enter Tryd.func42, Tryd.ntmps42
        go_wp2_with fail
        rw [HW0.out]
        refine (rof_any x _).mono ?_
        rintro e w1 ⟨rfl, hb1⟩
        rw [HX.out]
        have HC1 := hide (HC.out.later hb1)
        have HR1 := hide (HR.out.later hb1)
        have HB1 := hide (HB.out.trans (hb1.mono HB.out.size))
        obtain ⟨c0, c1, c2, c3, c4, c5, c6, cz⟩ := cells7 HC1.out
        obtain ⟨d0, d1, d2, d3, d4, d5, d6, dz⟩ := cells7 HR1.out
        clear hb1
        go_wp2
        exact ret72 Tryd.results42 (.inr rfl) rfl rfl rfl (put7 HR1.out _ _ _ _ _ _ _) ⟨by rw [E.out]; rfl, below_put7 HB1.out (Nat.le_succ _) _ _ _ _ _ _ _⟩
  · have E := hide (markC_rune ⟨r, m, n, d, ⟨f, g, b⟩⟩ x (by omega))
    have HX := hide h
    clear h
    go_enter Tryd.func42, Tryd.ntmps42
    go_wp2_with fail
    rw [HW0.out]
    refine (rof_any x _).mono ?_
    rintro e w1 ⟨rfl, hb1⟩
    rw [HX.out]
    have HC1 := hide (HC.out.later hb1)
    have HR1 := hide (HR.out.later hb1)
    have HB1 := hide (HB.out.trans (hb1.mono HB.out.size))
    obtain ⟨c0, c1, c2, c3, c4, c5, c6, cz⟩ := cells7 HC1.out
    obtain ⟨d0, d1, d2, d3, d4, d5, d6, dz⟩ := cells7 HR1.out
    clear hb1
    go_wp2
    exact ret72 Tryd.results42 (.inr rfl) rfl rfl rfl (put7 HR1.out _ _ _ _ _ _ _) ⟨by rw [E.out]; rfl, below_put7 HB1.out (Nat.le_succ _) _ _ _ _ _ _ _⟩
  · have E := hide (markC_rune ⟨r, m, n, d, ⟨f, g, b⟩⟩ x (by omega))
    have HX := hide h
    clear h
    go_enter Tryd.func42, Tryd.ntmps42
    go_wp2_with fail
    rw [HW0.out]
    refine (rof_any x _).mono ?_
    rintro e w1 ⟨rfl, hb1⟩
    rw [HX.out]
    have HC1 := hide (HC.out.later hb1)
    have HR1 := hide (HR.out.later hb1)
    have HB1 := hide (HB.out.trans (hb1.mono HB.out.size))
    obtain ⟨c0, c1, c2, c3, c4, c5, c6, cz⟩ := cells7 HC1.out
    obtain ⟨d0, d1, d2, d3, d4, d5, d6, dz⟩ := cells7 HR1.out
    clear hb1
    go_wp2
    exact ret72 Tryd.results42 (.inr rfl) rfl rfl rfl (put7 HR1.out _ _ _ _ _ _ _) ⟨by rw [E.out]; rfl, below_put7 HB1.out (Nat.le_succ _) _ _ _ _ _ _ _⟩
end Go.Proofs.YtdeoeihbmdgipaaDoor
