/-
  Contracts: a cell with a mark more (both).
-/
import Derived.Test.YtdeoeihbmdgipaaDoorCOf
namespace Go.Proofs.YtdeoeihbmdgipaaDoor
open Go.ChangeShapes Go.WideShapes Go.ChangeAt Go.RowKit
set_option linter.unusedVariables false

/-! ### a mark more -/
theorem cells7 {w : World} {q : Nat} {t : TypeId} {x0 x1 x2 x3 x4 x5 x6 : Value} (h : Whole w q t [x0, x1, x2, x3, x4, x5, x6]) :
    w.cell? ⟨q, 0, none⟩ = some x0 ∧ w.cell? ⟨q, 1, none⟩ = some x1 ∧ w.cell? ⟨q, 2, none⟩ = some x2 ∧ w.cell? ⟨q, 3, none⟩ = some x3 ∧ w.cell? ⟨q, 4, none⟩ = some x4 ∧ w.cell? ⟨q, 5, none⟩ = some x5 ∧ w.cell? ⟨q, 6, none⟩ = some x6 ∧ ∀ i, w.frozen? ⟨q, i, none⟩ = false :=
  ⟨h.cell 0, h.cell 1, h.cell 2, h.cell 3, h.cell 4, h.cell 5, h.cell 6, h.frozen⟩
theorem whole_put {w : World} {q o : Nat} {t : TypeId} {l : List Value} {r : Nat} (h : Whole w r t l) (hq : r ≠ q) (x : Value) : Whole (w.setCell ⟨q, o, none⟩ x) r t l := by
  unfold Whole
  rw [Below.heap_setCell _ _ _ _ hq]
  exact h
theorem idx0 (m n : Value) (w : World) : (Instr.index 23 (.agg #[m, n]) (.int .i64 0)).run Tryd.prog w = .ok m w := by kernel_rfl
theorem idx1 (m n : Value) (w : World) : (Instr.index 23 (.agg #[m, n]) (.int .i64 1)).run Tryd.prog w = .ok n w := by kernel_rfl
theorem markC_rune (c : Cel) (r : Int) (h : ¬ wOf r = 0) : markC c r = (c, false) := by unfold markC; rw [if_neg (fun q => h q.1)]
theorem markC_half (c : Cel) (r : Int) (h : bearsC c = false) : markC c r = (c, false) := by unfold markC; rw [if_neg (fun q => by rw [h] at q; cases q.2)]
theorem markC_fst (c : Cel) (r : Int) (h : wOf r = 0) (hb : bearsC c = true) (hm : c.m = 0) : markC c r = ({ c with m := r }, true) := by unfold markC; rw [if_pos ⟨h, hb⟩, if_pos hm]
theorem markC_snd (c : Cel) (r : Int) (h : wOf r = 0) (hb : bearsC c = true) (hm : ¬ c.m = 0) (hn : c.n = 0) : markC c r = ({ c with n := r }, true) := by unfold markC; rw [if_pos ⟨h, hb⟩, if_neg hm, if_pos hn]
theorem markC_full (c : Cel) (r : Int) (h : wOf r = 0) (hb : bearsC c = true) (hm : ¬ c.m = 0) (hn : ¬ c.n = 0) : markC c r = (c, false) := by unfold markC; rw [if_pos ⟨h, hb⟩, if_neg hm, if_neg hn]
set_option maxHeartbeats 2000000 in
theorem cmark_any (r m n : Int) (d f g b : Nat) (x : Int) (w : World) (hS : Spans w) : Calls Tryd.prog 41 #[.agg #[.int .i32 r, .int .i32 m, .int .i32 n, .int .u8 (d : Int), .int .u8 (f : Int), .int .u8 (g : Int), .int .u8 (b : Int)], .int .i32 x] w (Celled2 .i32 (markC ⟨r, m, n, d, ⟨f, g, b⟩⟩ x) w) := by
  obtain ⟨W0, hW0⟩ : ∃ W0, (w.alloc (.cells #[.int .i32 r, .int .i32 m, .int .i32 n, .int .u8 (d : Int), .int .u8 (f : Int), .int .u8 (g : Int), .int .u8 (b : Int)] 27)).alloc (.cells #[.int .i32 0, .int .i32 0, .int .i32 0, .int .u8 (0 : Int), .int .u8 (0 : Int), .int .u8 (0 : Int), .int .u8 (0 : Int)] 27) = W0 := ⟨_, rfl⟩
  have HS : Hid (Spans W0) := by unfold Hid; rw [← hW0]; exact (hS.alloc _).alloc _
  have HB : Hid (Below w.heap.size w W0) := by unfold Hid; rw [← hW0]; exact two_new w _ _ [.int .i32 r, .int .i32 m, .int .i32 n, .int .u8 (d : Int), .int .u8 (f : Int), .int .u8 (g : Int), .int .u8 (b : Int)] [.int .i32 0, .int .i32 0, .int .i32 0, .int .u8 (0 : Int), .int .u8 (0 : Int), .int .u8 (0 : Int), .int .u8 (0 : Int)]
  have HC : Hid (Whole W0 w.heap.size 27 [.int .i32 r, .int .i32 m, .int .i32 n, .int .u8 (d : Int), .int .u8 (f : Int), .int .u8 (g : Int), .int .u8 (b : Int)]) := by unfold Hid; rw [← hW0]; exact (Whole.new w 27 [.int .i32 r, .int .i32 m, .int .i32 n, .int .u8 (d : Int), .int .u8 (f : Int), .int .u8 (g : Int), .int .u8 (b : Int)]).alloc _
  have HR : Hid (Whole W0 (w.heap.size + 1) 27 [.int .i32 0, .int .i32 0, .int .i32 0, .int .u8 (0 : Int), .int .u8 (0 : Int), .int .u8 (0 : Int), .int .u8 (0 : Int)]) := by unfold Hid; rw [← hW0]; exact whole_snd w _ 27 [.int .i32 0, .int .i32 0, .int .i32 0, .int .u8 (0 : Int), .int .u8 (0 : Int), .int .u8 (0 : Int), .int .u8 (0 : Int)]
  have HW0 := hide hW0
  clear hS hW0
  by_cases h0 : wOf x = 0
  case neg =>
    have HX : Hid ((wOf x == 0) = false) := by unfold Hid; simpa using h0
    have E := hide (markC_rune ⟨r, m, n, d, ⟨f, g, b⟩⟩ x h0)
    clear h0
    go_enter Tryd.func41, Tryd.ntmps41
    go_wp2_with fail
    rw [HW0.out]
    refine (mark_any x _ HS.out).mono ?_
    rintro e w1 ⟨rfl, hb1⟩
    rw [HX.out]
    have HC1 := hide (HC.out.later hb1)
    have HR1 := hide (HR.out.later hb1)
    have HB1 := hide (HB.out.trans (hb1.mono HB.out.size))
    obtain ⟨c0, c1, c2, c3, c4, c5, c6, cz⟩ := cells7 HC1.out
    obtain ⟨d0, d1, d2, d3, d4, d5, d6, dz⟩ := cells7 HR1.out
    go_wp2
    exact ret72 Tryd.results41 (.inl rfl) rfl rfl rfl (put7 HR1.out _ _ _ _ _ _ _) ⟨by rw [E.out]; rfl, below_put7 HB1.out (Nat.le_succ _) _ _ _ _ _ _ _⟩
  case pos =>
    have HX : Hid ((wOf x == 0) = true) := by unfold Hid; simpa using h0
    cases hb0 : bearsC ⟨r, m, n, d, ⟨f, g, b⟩⟩
    case false =>
      have E := hide (markC_half ⟨r, m, n, d, ⟨f, g, b⟩⟩ x hb0)
      have HBR := hide hb0
      clear hb0 h0
      go_enter Tryd.func41, Tryd.ntmps41
      go_wp2_with fail
      rw [HW0.out]
      refine (mark_any x _ HS.out).mono ?_
      rintro e w1 ⟨rfl, hb1⟩
      rw [HX.out]
      have HC1 := hide (HC.out.later hb1)
      have HR1 := hide (HR.out.later hb1)
      have HB1 := hide (HB.out.trans (hb1.mono HB.out.size))
      obtain ⟨c0, c1, c2, c3, c4, c5, c6, cz⟩ := cells7 HC1.out
      go_wp2_with fail
      refine (bears_any r m n d f g b _).mono ?_
      rintro e w2 ⟨rfl, hb2⟩
      rw [HBR.out]
      have HC2 := hide (HC1.out.later hb2)
      have HR2 := hide (HR1.out.later hb2)
      have HB2 := hide (HB1.out.trans (hb2.mono HB1.out.size))
      clear c0 c1 c2 c3 c4 c5 c6 cz
      obtain ⟨c0, c1, c2, c3, c4, c5, c6, cz⟩ := cells7 HC2.out
      obtain ⟨d0, d1, d2, d3, d4, d5, d6, dz⟩ := cells7 HR2.out
      go_wp2
      exact ret72 Tryd.results41 (.inl rfl) rfl rfl rfl (put7 HR2.out _ _ _ _ _ _ _) ⟨by rw [E.out]; rfl, below_put7 HB2.out (Nat.le_succ _) _ _ _ _ _ _ _⟩
    case true =>
      have HX0 := hide h0
      have HBR := hide hb0
      clear hb0 h0
      go_enter Tryd.func41, Tryd.ntmps41
      go_wp2_with fail
      rw [HW0.out]
      refine (mark_any x _ HS.out).mono ?_
      rintro e w1 ⟨rfl, hb1⟩
      rw [HX.out]
      have HC1 := hide (HC.out.later hb1)
      have HR1 := hide (HR.out.later hb1)
      have HB1 := hide (HB.out.trans (hb1.mono HB.out.size))
      obtain ⟨c0, c1, c2, c3, c4, c5, c6, cz⟩ := cells7 HC1.out
      go_wp2_with fail
      refine (bears_any r m n d f g b _).mono ?_
      rintro e w2 ⟨rfl, hb2⟩
      rw [HBR.out]
      have HC2 := hide (HC1.out.later hb2)
      have HR2 := hide (HR1.out.later hb2)
      have HB2 := hide (HB1.out.trans (hb2.mono HB1.out.size))
      clear c0 c1 c2 c3 c4 c5 c6 cz
      obtain ⟨c0, c1, c2, c3, c4, c5, c6, cz⟩ := cells7 HC2.out
      obtain ⟨d0, d1, d2, d3, d4, d5, d6, dz⟩ := cells7 HR2.out
      go_wp2
      go_loopw [6, 7, 19] (fun _ _ i wr => (i = .int .i64 0 ∨ (i = .int .i64 1 ∧ Hid (¬ m = 0)) ∨ (i = .int .i64 2 ∧ Hid (¬ m = 0) ∧ Hid (¬ n = 0))) ∧ w2 = wr) (fun _ _ i _ => 2 - (intOf i).toNat)
      case atStart => exact ⟨.inl rfl, rfl⟩
      case round =>
        have i0 := idx0 (.int .i32 m) (.int .i32 n)
        have i1 := idx1 (.int .i32 m) (.int .i32 n)
        obtain ⟨hcase, rfl⟩ := hrel
        rcases hcase with rfl | ⟨rfl, H1⟩ | ⟨rfl, H1, H2⟩
        · by_cases hm : m = 0
          · have E := hide (markC_fst ⟨r, m, n, d, ⟨f, g, b⟩⟩ x HX0.out HBR.out hm)
            have hq : (m == 0) = true := by simpa using hm
            clear hm
            go_wp2
            exact ret72 Tryd.results41 (.inl rfl) rfl rfl rfl (put7 (whole_put HR2.out (Nat.succ_ne_self _) _) _ _ _ _ _ _ _) ⟨by rw [E.out]; rfl, below_put7 (HB2.out.setCell (p := ⟨w.heap.size, 1, none⟩) (Nat.le_refl _) _) (Nat.le_succ _) _ _ _ _ _ _ _⟩
          · have hq : (m == 0) = false := by simpa using hm
            have HM := hide hm
            clear hm
            go_wp2
            go_roundw
            case rel => exact ⟨.inr (.inl ⟨by go_num, HM⟩), by trivial⟩
            case measure => simp [intOf]
        · by_cases hn : n = 0
          · have E := hide (markC_snd ⟨r, m, n, d, ⟨f, g, b⟩⟩ x HX0.out HBR.out H1.out hn)
            have hq : (n == 0) = true := by simpa using hn
            clear hn
            go_wp2
            exact ret72 Tryd.results41 (.inl rfl) rfl rfl rfl (put7 (whole_put HR2.out (Nat.succ_ne_self _) _) _ _ _ _ _ _ _) ⟨by rw [E.out]; rfl, below_put7 (HB2.out.setCell (p := ⟨w.heap.size, 2, none⟩) (Nat.le_refl _) _) (Nat.le_succ _) _ _ _ _ _ _ _⟩
          · have hq : (n == 0) = false := by simpa using hn
            have HN := hide hn
            clear hn
            go_wp2
            go_roundw
            case rel => exact ⟨.inr (.inr ⟨by go_num, H1, HN⟩), by trivial⟩
            case measure => simp [intOf]
        · have E := hide (markC_full ⟨r, m, n, d, ⟨f, g, b⟩⟩ x HX0.out HBR.out H1.out H2.out)
          go_wp2
          exact ret72 Tryd.results41 (.inl rfl) rfl rfl rfl (put7 HR2.out _ _ _ _ _ _ _) ⟨by rw [E.out]; rfl, below_put7 HB2.out (Nat.le_succ _) _ _ _ _ _ _ _⟩
end Go.Proofs.YtdeoeihbmdgipaaDoor
