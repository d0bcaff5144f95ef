/-
  Contracts: a cell's runes (both).
-/
import Derived.Test.YtdeoeihbmdgipaaDoorCRRight
import Derived.Test.YtdeoeihbmdgipaaDoorRws
import Derived.Test.YtdeoeihbmdgipaaDoorWRef
namespace Go.Proofs.YtdeoeihbmdgipaaDoor
open Go.ChangeShapes Go.WideShapes Go.ChangeAt Go.RowKit
set_option linter.unusedVariables false

/-- A row made later, from an earlier world on. -/
theorem Own.from {e : TypeId} {k : IntKind} {B : Nat} {w w1 wr : World} {v : Value} {bs : List Int} (h : Own e k w1.heap.size w1 wr v bs) (hb : Below B w w1) (hB : B ≤ w1.heap.size) : Own e k B w wr v bs :=
  ⟨h.cl.less hB, hb.trans (h.bel.mono hB), Nat.le_trans hB h.le⟩
def opt (x : Int) : List Int := if x = 0 then [] else [x]
theorem opt_0 (x : Int) (h : x = 0) : opt x = [] := by unfold opt; rw [if_pos h]
theorem opt_n (x : Int) (h : ¬ x = 0) : opt x = [x] := by unfold opt; rw [if_neg h]
theorem runes_opt (r m n : Int) (d f g b : Nat) (h : bearsC ⟨r, m, n, d, ⟨f, g, b⟩⟩ = true) : runesC ⟨r, m, n, d, ⟨f, g, b⟩⟩ = [r] ++ opt m ++ opt n := by unfold runesC opt; rw [if_pos h]
theorem runes_none (r m n : Int) (d f g b : Nat) (h : bearsC ⟨r, m, n, d, ⟨f, g, b⟩⟩ = false) : runesC ⟨r, m, n, d, ⟨f, g, b⟩⟩ = [] := by unfold runesC; rw [if_neg (by rw [h]; simp)]
theorem opt_len (x : Int) : (opt x).length ≤ 1 := by unfold opt; split <;> simp
set_option maxHeartbeats 2000000 in
theorem runes_any (r m n : Int) (d f g b : Nat) (w : World) : Calls Tryd.prog 52 #[.agg #[.int .i32 r, .int .i32 m, .int .i32 n, .int .u8 (d : Int), .int .u8 (f : Int), .int .u8 (g : Int), .int .u8 (b : Int)]] w (Made 21 .i32 w (runesC ⟨r, m, n, d, ⟨f, g, b⟩⟩)) := by
  obtain ⟨W0, hW0⟩ : ∃ W0, w.alloc (.cells #[.int .i32 r, .int .i32 m, .int .i32 n, .int .u8 (d : Int), .int .u8 (f : Int), .int .u8 (g : Int), .int .u8 (b : Int)] 27) = W0 := ⟨_, rfl⟩
  have HB : Hid (Below w.heap.size w W0) := by unfold Hid; rw [← hW0]; exact one_new w _ [.int .i32 r, .int .i32 m, .int .i32 n, .int .u8 (d : Int), .int .u8 (f : Int), .int .u8 (g : Int), .int .u8 (b : Int)]
  have HC : Hid (Whole W0 w.heap.size 27 [.int .i32 r, .int .i32 m, .int .i32 n, .int .u8 (d : Int), .int .u8 (f : Int), .int .u8 (g : Int), .int .u8 (b : Int)]) := by unfold Hid; rw [← hW0]; exact Whole.new w 27 [.int .i32 r, .int .i32 m, .int .i32 n, .int .u8 (d : Int), .int .u8 (f : Int), .int .u8 (g : Int), .int .u8 (b : Int)]
  have HW0 := hide hW0
  clear hW0
  obtain ⟨c0, c1, c2, c3, c4, c5, c6, -⟩ := cells7 HC.out
  cases hb0 : bearsC ⟨r, m, n, d, ⟨f, g, b⟩⟩
  case false =>
    have E := hide (runes_none r m n d f g b hb0)
    have HBR := hide hb0
    clear hb0
    go_enter Tryd.func52, Tryd.ntmps52
    go_wp2_with fail
    rw [HW0.out]
    refine (bears_any r m n d f g b _).mono ?_
    rintro e w1 ⟨rfl, hb1⟩
    rw [HBR.out]
    go_wp2
    go_ret
    exact ⟨_, rfl, by rw [E.out]; exact ⟨World.ownsRow_nil _ _ _ _, HB.out.trans (hb1.mono HB.out.size), Nat.le_trans HB.out.size hb1.size⟩⟩
  case true =>
    have E := hide (runes_opt r m n d f g b hb0)
    have HBR := hide hb0
    clear hb0
    go_enter Tryd.func52, Tryd.ntmps52
    go_wp2_with fail
    rw [HW0.out]
    refine (bears_any r m n d f g b _).mono ?_
    rintro e w1 ⟨rfl, hb1⟩
    rw [HBR.out]
    have HC1 := hide (HC.out.later hb1)
    have HB1 := hide (HB.out.trans (hb1.mono HB.out.size))
    clear c0 c1 c2 c3 c4 c5 c6 hb1
    obtain ⟨c0, c1, c2, c3, c4, c5, c6, -⟩ := cells7 HC1.out
    have hlt : w.heap.size < w1.heap.size := HC1.out.lt
    have HO := hide ((Own.lit w1 21 .i32 [r] 1 rfl (by omega)).from HB1.out HB1.out.size)
    go_wp2
    go_loopw [3, 5, 14] (fun v _ i wr => (i = .int .i64 0 ∧ Own 21 .i32 w.heap.size w wr v [r]) ∨ (i = .int .i64 1 ∧ Own 21 .i32 w.heap.size w wr v ([r] ++ opt m)) ∨ (i = .int .i64 2 ∧ Own 21 .i32 w.heap.size w wr v ([r] ++ opt m ++ opt n))) (fun _ _ i _ => 2 - (intOf i).toNat)
    case atStart => exact .inl ⟨rfl, HO.out⟩
    case round =>
      have i0 := idx0 (.int .i32 m) (.int .i32 n)
      have i1 := idx1 (.int .i32 m) (.int .i32 n)
      rcases hrel with ⟨rfl, hown⟩ | ⟨rfl, hown⟩ | ⟨rfl, hown⟩
      · by_cases hm : m = 0
        · have hq : (m != 0) = false := by simpa using hm
          have HM := hide (opt_0 m hm)
          clear hm
          go_wp2
          go_roundw
          case rel => exact .inr (.inl ⟨by go_num, by rw [HM.out, List.append_nil]; exact hown⟩)
          case measure => simp [intOf]
        · have hq : (m != 0) = true := by simpa using hm
          have HM := hide (opt_n m hm)
          clear hm
          go_wp2_with (at_builtin; refine wpList_push elem80 rfl _ _ rfl rfl rfl hown (by simp) (by omega) ?_; intro v' w2 hown2)
          go_roundw
          case rel => exact .inr (.inl ⟨by go_num, by rw [HM.out]; exact hown2⟩)
          case measure => simp [intOf]
      · have hl := opt_len m
        by_cases hn : n = 0
        · have hq : (n != 0) = false := by simpa using hn
          have HN := hide (opt_0 n hn)
          clear hn
          go_wp2
          go_roundw
          case rel => exact .inr (.inr ⟨by go_num, by rw [HN.out, List.append_nil]; exact hown⟩)
          case measure => simp [intOf]
        · have hq : (n != 0) = true := by simpa using hn
          have HN := hide (opt_n n hn)
          clear hn
          have hl2 : ([r] ++ opt m).length ≤ 1000000 := by simp; omega
          generalize [r] ++ opt m = L at *
          go_wp2_with (at_builtin; refine wpList_push elem80 rfl _ _ rfl rfl rfl hown hl2 (by omega) ?_; intro v' w2 hown2)
          go_roundw
          case rel => exact .inr (.inr ⟨by go_num, by rw [HN.out]; exact hown2⟩)
          case measure => simp [intOf]
      · go_wp2
        go_ret
        exact ⟨_, rfl, by rw [E.out]; exact hown⟩
end Go.Proofs.YtdeoeihbmdgipaaDoor
