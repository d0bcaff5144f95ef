/-
  Contract: a cell's runes, by the document.
-/
import Derived.Test.YtdeoeihbmdgipaaDoorCRunes
namespace Go.Proofs.YtdeoeihbmdgipaaDoor
open Go.ChangeShapes Go.WideShapes Go.ChangeAt Go.RowKit
set_option linter.unusedVariables false

set_option maxHeartbeats 2000000 in
theorem rrunes_any (r m n : Int) (d f g b : Nat) (w : World) : Calls Tryd.prog 54 #[.agg #[.int .i64 r, .int .i64 m, .int .i64 n, .int .u8 (d : Int), .int .u8 (f : Int), .int .u8 (g : Int), .int .u8 (b : Int)]] w (Made 3 .i64 w (runesC ⟨r, m, n, d, ⟨f, g, b⟩⟩)) := by
  obtain ⟨W0, hW0⟩ : ∃ W0, w.alloc (.cells #[.int .i64 r, .int .i64 m, .int .i64 n, .int .u8 (d : Int), .int .u8 (f : Int), .int .u8 (g : Int), .int .u8 (b : Int)] 38) = W0 := ⟨_, rfl⟩
  have HB : Hid (Below w.heap.size w W0) := by unfold Hid; rw [← hW0]; exact one_new w _ [.int .i64 r, .int .i64 m, .int .i64 n, .int .u8 (d : Int), .int .u8 (f : Int), .int .u8 (g : Int), .int .u8 (b : Int)]
  have HC : Hid (Whole W0 w.heap.size 38 [.int .i64 r, .int .i64 m, .int .i64 n, .int .u8 (d : Int), .int .u8 (f : Int), .int .u8 (g : Int), .int .u8 (b : Int)]) := by unfold Hid; rw [← hW0]; exact Whole.new w 38 [.int .i64 r, .int .i64 m, .int .i64 n, .int .u8 (d : Int), .int .u8 (f : Int), .int .u8 (g : Int), .int .u8 (b : Int)]
  have HO : Hid (Own 3 .i64 W0.heap.size W0 (W0.alloc (.cells #[.int .i64 r] 3)) (.slice (some ⟨w.heap.size + 1, 0, none⟩) 1 1) [r]) := by
    have := Own.lit W0 3 .i64 [r] 1 rfl (by omega)
    have e : W0.heap.size = w.heap.size + 1 := by rw [← hW0]; simp
    unfold Hid
    rw [← e]
    exact this
  have HW0 := hide hW0
  clear hW0
  obtain ⟨c0, c1, c2, c3, c4, c5, c6, -⟩ := cells7 HC.out
  by_cases h1 : d = 1
  · have E := hide (runes_opt r m n d f g b (bears_1 r m n d f g b h1))
    have e1 : ((d : Int) != 1) = false := by simp; omega
    clear h1
    go_enter Tryd.func54, Tryd.ntmps54
    go_wp2
    go_loopw [3, 4] (fun v i wr => (i = .int .i64 0 ∧ Own 3 .i64 W0.heap.size W0 wr v [r]) ∨ (i = .int .i64 1 ∧ Own 3 .i64 W0.heap.size W0 wr v ([r] ++ opt m)) ∨ (i = .int .i64 2 ∧ Own 3 .i64 W0.heap.size W0 wr v ([r] ++ opt m ++ opt n))) (fun _ i _ => 2 - (intOf i).toNat)
    case atStart => exact .inl ⟨rfl, by rw [HW0.out]; exact HO.out⟩
    case round =>
      clear c0 c1 c2 c3 c4 c5 c6
      rcases hrel with ⟨rfl, hown⟩ | ⟨rfl, hown⟩ | ⟨rfl, hown⟩
      · obtain ⟨c0, c1, c2, c3, c4, c5, c6, -⟩ := cells7 (HC.out.later hown.bel)
        by_cases hm : m = 0
        · have hq : (m != 0) = false := by simpa using hm
          have HM := hide (opt_0 m hm)
          clear hm
          go_wp2
          go_roundw
          case rel => exact .inr (.inl ⟨by go_num, by rw [HM.out, List.append_nil]; exact hown⟩)
          case measure => simp [intOf]
        · have hq : (m != 0) = true := by simpa using hm
          have HM := hide (opt_n m hm)
          clear hm
          go_wp2_with (at_builtin; refine wpList_push elem83 rfl _ _ rfl rfl rfl hown (by simp) (by omega) ?_; intro v' w2 hown2)
          go_roundw
          case rel => exact .inr (.inl ⟨by go_num, by rw [HM.out]; exact hown2⟩)
          case measure => simp [intOf]
      · obtain ⟨c0, c1, c2, c3, c4, c5, c6, -⟩ := cells7 (HC.out.later hown.bel)
        have hl := opt_len m
        by_cases hn : n = 0
        · have hq : (n != 0) = false := by simpa using hn
          have HN := hide (opt_0 n hn)
          clear hn
          go_wp2
          go_roundw
          case rel => exact .inr (.inr ⟨by go_num, by rw [HN.out, List.append_nil]; exact hown⟩)
          case measure => simp [intOf]
        · have hq : (n != 0) = true := by simpa using hn
          have HN := hide (opt_n n hn)
          clear hn
          have hl2 : ([r] ++ opt m).length ≤ 1000000 := by simp; omega
          generalize [r] ++ opt m = L at *
          go_wp2_with (at_builtin; refine wpList_push elem83 rfl _ _ rfl rfl rfl hown hl2 (by omega) ?_; intro v' w2 hown2)
          go_roundw
          case rel => exact .inr (.inr ⟨by go_num, by rw [HN.out]; exact hown2⟩)
          case measure => simp [intOf]
      · go_wp2
        go_ret
        exact ⟨_, rfl, by rw [E.out]; exact hown.from HB.out HB.out.size⟩
  · have e1 : ((d : Int) != 1) = true := by simp; omega
    by_cases h2 : d = 2
    · have E := hide (runes_opt r m n d f g b (bears_2 r m n d f g b h2))
      have e2 : ((d : Int) != 2) = false := by simp; omega
      clear h1 h2
      go_enter Tryd.func54, Tryd.ntmps54
      go_wp2
      go_loopw [3, 4] (fun v i wr => (i = .int .i64 0 ∧ Own 3 .i64 W0.heap.size W0 wr v [r]) ∨ (i = .int .i64 1 ∧ Own 3 .i64 W0.heap.size W0 wr v ([r] ++ opt m)) ∨ (i = .int .i64 2 ∧ Own 3 .i64 W0.heap.size W0 wr v ([r] ++ opt m ++ opt n))) (fun _ i _ => 2 - (intOf i).toNat)
      case atStart => exact .inl ⟨rfl, by rw [HW0.out]; exact HO.out⟩
      case round =>
        clear c0 c1 c2 c3 c4 c5 c6
        rcases hrel with ⟨rfl, hown⟩ | ⟨rfl, hown⟩ | ⟨rfl, hown⟩
        · obtain ⟨c0, c1, c2, c3, c4, c5, c6, -⟩ := cells7 (HC.out.later hown.bel)
          by_cases hm : m = 0
          · have hq : (m != 0) = false := by simpa using hm
            have HM := hide (opt_0 m hm)
            clear hm
            go_wp2
            go_roundw
            case rel => exact .inr (.inl ⟨by go_num, by rw [HM.out, List.append_nil]; exact hown⟩)
            case measure => simp [intOf]
          · have hq : (m != 0) = true := by simpa using hm
            have HM := hide (opt_n m hm)
            clear hm
            go_wp2_with (at_builtin; refine wpList_push elem83 rfl _ _ rfl rfl rfl hown (by simp) (by omega) ?_; intro v' w2 hown2)
            go_roundw
            case rel => exact .inr (.inl ⟨by go_num, by rw [HM.out]; exact hown2⟩)
            case measure => simp [intOf]
        · obtain ⟨c0, c1, c2, c3, c4, c5, c6, -⟩ := cells7 (HC.out.later hown.bel)
          have hl := opt_len m
          by_cases hn : n = 0
          · have hq : (n != 0) = false := by simpa using hn
            have HN := hide (opt_0 n hn)
            clear hn
            go_wp2
            go_roundw
            case rel => exact .inr (.inr ⟨by go_num, by rw [HN.out, List.append_nil]; exact hown⟩)
            case measure => simp [intOf]
          · have hq : (n != 0) = true := by simpa using hn
            have HN := hide (opt_n n hn)
            clear hn
            have hl2 : ([r] ++ opt m).length ≤ 1000000 := by simp; omega
            generalize [r] ++ opt m = L at *
            go_wp2_with (at_builtin; refine wpList_push elem83 rfl _ _ rfl rfl rfl hown hl2 (by omega) ?_; intro v' w2 hown2)
            go_roundw
            case rel => exact .inr (.inr ⟨by go_num, by rw [HN.out]; exact hown2⟩)
            case measure => simp [intOf]
        · go_wp2
          go_ret
          exact ⟨_, rfl, by rw [E.out]; exact hown.from HB.out HB.out.size⟩
    · have E := hide (runes_none r m n d f g b (bears_no r m n d f g b h1 h2))
      have e2 : ((d : Int) != 2) = true := by simp; omega
      clear h1 h2
      go_enter Tryd.func54, Tryd.ntmps54
      go_wp2
      go_ret
      exact ⟨_, rfl, by rw [E.out, HW0.out]; exact ⟨World.ownsRow_nil _ _ _ _, HB.out, HB.out.size⟩⟩
end Go.Proofs.YtdeoeihbmdgipaaDoor
