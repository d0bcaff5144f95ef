/-
  Contracts and plain mathematics of CRunes, CRRunes, Opens, CLaw, LOwn, LSame, COk, LRef, RnEach, RnCount, BBytes.
-/
import Derived.Test.YtcbdokocnjoilaaGreatDoorH4
import Derived.Test.YtcbdokocnjoilaaGreatDoorH3
import Derived.Test.YtcbdokocnjoilaaGreatDoorH2
import Derived.RangeFuncNested
import Derived.RangeFuncBound
import Derived.RangeFuncCalls
import Derived.RangeFuncLeaves
import Derived.Shelf.Abstract
import Derived.WalkKit
import Derived.OwnWalkIn
import Derived.TacticsInMore
import Derived.LoopNIn
import Derived.LoopIn
import Derived.Deep.LoopGhost
import Derived.Deep.Cut
import Derived.Deep.DeepCutAuto
import Derived.Test.YtcbdokocnjoilaaGreatDoorH1
import Derived.Test.YtcbdokocnjoilaaGreatDoorChecked
import Derived.Laws.Externs
import Derived.Laws.BitsAllLaws
namespace Go.Proofs.YtcbdokocnjoilaaGreatDoor
set_option maxRecDepth 100000
set_option linter.unusedVariables false
set_option maxHeartbeats 8000000
section
open Go.ChangeShapes Go.WideShapes Go.ChangeAt Go.RowKit
/-- A row made later, from an earlier world on. -/
theorem Own.from {e : TypeId} {k : IntKind} {B : Nat} {w w1 wr : World} {v : Value} {bs : List Int} (h : Own e k w1.heap.size w1 wr v bs) (hb : Below B w w1) (hB : B ≤ w1.heap.size) : Own e k B w wr v bs :=
  ⟨h.cl.less hB, hb.trans (h.bel.mono hB), Nat.le_trans hB h.le⟩
def opt (x : Int) : List Int := if x = 0 then [] else [x]
theorem opt_0 (x : Int) (h : x = 0) : opt x = [] := by unfold opt; rw [if_pos h]
theorem opt_n (x : Int) (h : ¬ x = 0) : opt x = [x] := by unfold opt; rw [if_neg h]
theorem runes_opt (r m n : Int) (d f g b : Nat) (h : bearsC ⟨r, m, n, d, ⟨f, g, b⟩⟩ = true) : runesC ⟨r, m, n, d, ⟨f, g, b⟩⟩ = [r] ++ opt m ++ opt n := by unfold runesC opt; rw [if_pos h]
theorem runes_none (r m n : Int) (d f g b : Nat) (h : bearsC ⟨r, m, n, d, ⟨f, g, b⟩⟩ = false) : runesC ⟨r, m, n, d, ⟨f, g, b⟩⟩ = [] := by unfold runesC; rw [if_neg (by rw [h]; simp)]
theorem opt_len (x : Int) : (opt x).length ≤ 1 := by unfold opt; split <;> simp
theorem runes_any (r m n : Int) (d f g b : Nat) (w : World) : Calls Tryz.prog 82 #[.agg #[.int .i32 r, .int .i32 m, .int .i32 n, .int .u8 (d : Int), .int .u8 (f : Int), .int .u8 (g : Int), .int .u8 (b : Int)]] w (Made 21 .i32 w (runesC ⟨r, m, n, d, ⟨f, g, b⟩⟩)) := by
  obtain ⟨W0, hW0⟩ : ∃ W0, w.alloc (.cells #[.int .i32 r, .int .i32 m, .int .i32 n, .int .u8 (d : Int), .int .u8 (f : Int), .int .u8 (g : Int), .int .u8 (b : Int)] 105) = W0 := ⟨_, rfl⟩
  have HB : Hid (Below w.heap.size w W0) := by unfold Hid; rw [← hW0]; exact one_new w _ [.int .i32 r, .int .i32 m, .int .i32 n, .int .u8 (d : Int), .int .u8 (f : Int), .int .u8 (g : Int), .int .u8 (b : Int)]
  have HC : Hid (Whole W0 w.heap.size 105 [.int .i32 r, .int .i32 m, .int .i32 n, .int .u8 (d : Int), .int .u8 (f : Int), .int .u8 (g : Int), .int .u8 (b : Int)]) := by unfold Hid; rw [← hW0]; exact Whole.new w 105 [.int .i32 r, .int .i32 m, .int .i32 n, .int .u8 (d : Int), .int .u8 (f : Int), .int .u8 (g : Int), .int .u8 (b : Int)]
  have HW0 := hide hW0
  clear hW0
  obtain ⟨c0, c1, c2, c3, c4, c5, c6, -⟩ := cells7 HC.out
  cases hb0 : bearsC ⟨r, m, n, d, ⟨f, g, b⟩⟩
  case false =>
    have E := hide (runes_none r m n d f g b hb0)
    have HBR := hide hb0
    clear hb0
    go_enter Tryz.func82, Tryz.ntmps82
    go_wp2_with fail
    rw [HW0.out]
    refine (bears_any r m n d f g b _).mono ?_
    rintro e w1 ⟨rfl, hb1⟩
    rw [HBR.out]
    go_wp2
    go_ret
    exact ⟨_, rfl, by rw [E.out]; exact ⟨World.ownsRow_nil _ _ _ _, HB.out.trans (hb1.mono HB.out.size), Nat.le_trans HB.out.size hb1.size⟩⟩
  case true =>
    have E := hide (runes_opt r m n d f g b hb0)
    have HBR := hide hb0
    clear hb0
    go_enter Tryz.func82, Tryz.ntmps82
    go_wp2_with fail
    rw [HW0.out]
    refine (bears_any r m n d f g b _).mono ?_
    rintro e w1 ⟨rfl, hb1⟩
    rw [HBR.out]
    have HC1 := hide (HC.out.later hb1)
    have HB1 := hide (HB.out.trans (hb1.mono HB.out.size))
    clear c0 c1 c2 c3 c4 c5 c6 hb1
    obtain ⟨c0, c1, c2, c3, c4, c5, c6, -⟩ := cells7 HC1.out
    have hlt : w.heap.size < w1.heap.size := HC1.out.lt
    have HO := hide ((Own.lit w1 21 .i32 [r] 1 rfl (by omega)).from HB1.out HB1.out.size)
    go_wp2
    go_loopw [3, 5, 14] (fun v _ i wr => (i = .int .i64 0 ∧ Own 21 .i32 w.heap.size w wr v [r]) ∨ (i = .int .i64 1 ∧ Own 21 .i32 w.heap.size w wr v ([r] ++ opt m)) ∨ (i = .int .i64 2 ∧ Own 21 .i32 w.heap.size w wr v ([r] ++ opt m ++ opt n))) (fun _ _ i _ => 2 - (intOf i).toNat)
    case atStart => exact .inl ⟨rfl, HO.out⟩
    case round =>
      have i0 := idx0 (.int .i32 m) (.int .i32 n)
      have i1 := idx1 (.int .i32 m) (.int .i32 n)
      rcases hrel with ⟨rfl, hown⟩ | ⟨rfl, hown⟩ | ⟨rfl, hown⟩
      · by_cases hm : m = 0
        · have hq : (m != 0) = false := by simpa using hm
          have HM := hide (opt_0 m hm)
          clear hm
          go_wp2
          go_roundw
          case rel => exact .inr (.inl ⟨by go_num, by rw [HM.out, List.append_nil]; exact hown⟩)
          case measure => simp [intOf]
        · have hq : (m != 0) = true := by simpa using hm
          have HM := hide (opt_n m hm)
          clear hm
          go_wp2_with (at_builtin; refine wpList_push elem140 rfl _ _ rfl rfl rfl hown (by simp) (by omega) ?_; intro v' w2 hown2)
          go_roundw
          case rel => exact .inr (.inl ⟨by go_num, by rw [HM.out]; exact hown2⟩)
          case measure => simp [intOf]
      · have hl := opt_len m
        by_cases hn : n = 0
        · have hq : (n != 0) = false := by simpa using hn
          have HN := hide (opt_0 n hn)
          clear hn
          go_wp2
          go_roundw
          case rel => exact .inr (.inr ⟨by go_num, by rw [HN.out, List.append_nil]; exact hown⟩)
          case measure => simp [intOf]
        · have hq : (n != 0) = true := by simpa using hn
          have HN := hide (opt_n n hn)
          clear hn
          have hl2 : ([r] ++ opt m).length ≤ 1000000 := by simp; omega
          generalize [r] ++ opt m = L at *
          go_wp2_with (at_builtin; refine wpList_push elem140 rfl _ _ rfl rfl rfl hown hl2 (by omega) ?_; intro v' w2 hown2)
          go_roundw
          case rel => exact .inr (.inr ⟨by go_num, by rw [HN.out]; exact hown2⟩)
          case measure => simp [intOf]
      · go_wp2
        go_ret
        exact ⟨_, rfl, by rw [E.out]; exact hown⟩
theorem rrunes_any (r m n : Int) (d f g b : Nat) (w : World) : Calls Tryz.prog 72 #[.agg #[.int .i64 r, .int .i64 m, .int .i64 n, .int .u8 (d : Int), .int .u8 (f : Int), .int .u8 (g : Int), .int .u8 (b : Int)]] w (Made 3 .i64 w (runesC ⟨r, m, n, d, ⟨f, g, b⟩⟩)) := by
  obtain ⟨W0, hW0⟩ : ∃ W0, w.alloc (.cells #[.int .i64 r, .int .i64 m, .int .i64 n, .int .u8 (d : Int), .int .u8 (f : Int), .int .u8 (g : Int), .int .u8 (b : Int)] 100) = W0 := ⟨_, rfl⟩
  have HB : Hid (Below w.heap.size w W0) := by unfold Hid; rw [← hW0]; exact one_new w _ [.int .i64 r, .int .i64 m, .int .i64 n, .int .u8 (d : Int), .int .u8 (f : Int), .int .u8 (g : Int), .int .u8 (b : Int)]
  have HC : Hid (Whole W0 w.heap.size 100 [.int .i64 r, .int .i64 m, .int .i64 n, .int .u8 (d : Int), .int .u8 (f : Int), .int .u8 (g : Int), .int .u8 (b : Int)]) := by unfold Hid; rw [← hW0]; exact Whole.new w 100 [.int .i64 r, .int .i64 m, .int .i64 n, .int .u8 (d : Int), .int .u8 (f : Int), .int .u8 (g : Int), .int .u8 (b : Int)]
  have HO : Hid (Own 3 .i64 W0.heap.size W0 (W0.alloc (.cells #[.int .i64 r] 3)) (.slice (some ⟨w.heap.size + 1, 0, none⟩) 1 1) [r]) := by
    have := Own.lit W0 3 .i64 [r] 1 rfl (by omega)
    have e : W0.heap.size = w.heap.size + 1 := by rw [← hW0]; simp
    unfold Hid
    rw [← e]
    exact this
  have HW0 := hide hW0
  clear hW0
  obtain ⟨c0, c1, c2, c3, c4, c5, c6, -⟩ := cells7 HC.out
  by_cases h1 : d = 1
  · have E := hide (runes_opt r m n d f g b (bears_1 r m n d f g b h1))
    have e1 : ((d : Int) != 1) = false := by simp; omega
    clear h1
    go_enter Tryz.func72, Tryz.ntmps72
    go_wp2
    go_loopw [3, 4] (fun v i wr => (i = .int .i64 0 ∧ Own 3 .i64 W0.heap.size W0 wr v [r]) ∨ (i = .int .i64 1 ∧ Own 3 .i64 W0.heap.size W0 wr v ([r] ++ opt m)) ∨ (i = .int .i64 2 ∧ Own 3 .i64 W0.heap.size W0 wr v ([r] ++ opt m ++ opt n))) (fun _ i _ => 2 - (intOf i).toNat)
    case atStart => exact .inl ⟨rfl, by rw [HW0.out]; exact HO.out⟩
    case round =>
      clear c0 c1 c2 c3 c4 c5 c6
      rcases hrel with ⟨rfl, hown⟩ | ⟨rfl, hown⟩ | ⟨rfl, hown⟩
      · obtain ⟨c0, c1, c2, c3, c4, c5, c6, -⟩ := cells7 (HC.out.later hown.bel)
        by_cases hm : m = 0
        · have hq : (m != 0) = false := by simpa using hm
          have HM := hide (opt_0 m hm)
          clear hm
          go_wp2
          go_roundw
          case rel => exact .inr (.inl ⟨by go_num, by rw [HM.out, List.append_nil]; exact hown⟩)
          case measure => simp [intOf]
        · have hq : (m != 0) = true := by simpa using hm
          have HM := hide (opt_n m hm)
          clear hm
          go_wp2_with (at_builtin; refine wpList_push elem76 rfl _ _ rfl rfl rfl hown (by simp) (by omega) ?_; intro v' w2 hown2)
          go_roundw
          case rel => exact .inr (.inl ⟨by go_num, by rw [HM.out]; exact hown2⟩)
          case measure => simp [intOf]
      · obtain ⟨c0, c1, c2, c3, c4, c5, c6, -⟩ := cells7 (HC.out.later hown.bel)
        have hl := opt_len m
        by_cases hn : n = 0
        · have hq : (n != 0) = false := by simpa using hn
          have HN := hide (opt_0 n hn)
          clear hn
          go_wp2
          go_roundw
          case rel => exact .inr (.inr ⟨by go_num, by rw [HN.out, List.append_nil]; exact hown⟩)
          case measure => simp [intOf]
        · have hq : (n != 0) = true := by simpa using hn
          have HN := hide (opt_n n hn)
          clear hn
          have hl2 : ([r] ++ opt m).length ≤ 1000000 := by simp; omega
          generalize [r] ++ opt m = L at *
          go_wp2_with (at_builtin; refine wpList_push elem76 rfl _ _ rfl rfl rfl hown hl2 (by omega) ?_; intro v' w2 hown2)
          go_roundw
          case rel => exact .inr (.inr ⟨by go_num, by rw [HN.out]; exact hown2⟩)
          case measure => simp [intOf]
      · go_wp2
        go_ret
        exact ⟨_, rfl, by rw [E.out]; exact hown.from HB.out HB.out.size⟩
  · have e1 : ((d : Int) != 1) = true := by simp; omega
    by_cases h2 : d = 2
    · have E := hide (runes_opt r m n d f g b (bears_2 r m n d f g b h2))
      have e2 : ((d : Int) != 2) = false := by simp; omega
      clear h1 h2
      go_enter Tryz.func72, Tryz.ntmps72
      go_wp2
      go_loopw [3, 4] (fun v i wr => (i = .int .i64 0 ∧ Own 3 .i64 W0.heap.size W0 wr v [r]) ∨ (i = .int .i64 1 ∧ Own 3 .i64 W0.heap.size W0 wr v ([r] ++ opt m)) ∨ (i = .int .i64 2 ∧ Own 3 .i64 W0.heap.size W0 wr v ([r] ++ opt m ++ opt n))) (fun _ i _ => 2 - (intOf i).toNat)
      case atStart => exact .inl ⟨rfl, by rw [HW0.out]; exact HO.out⟩
      case round =>
        clear c0 c1 c2 c3 c4 c5 c6
        rcases hrel with ⟨rfl, hown⟩ | ⟨rfl, hown⟩ | ⟨rfl, hown⟩
        · obtain ⟨c0, c1, c2, c3, c4, c5, c6, -⟩ := cells7 (HC.out.later hown.bel)
          by_cases hm : m = 0
          · have hq : (m != 0) = false := by simpa using hm
            have HM := hide (opt_0 m hm)
            clear hm
            go_wp2
            go_roundw
            case rel => exact .inr (.inl ⟨by go_num, by rw [HM.out, List.append_nil]; exact hown⟩)
            case measure => simp [intOf]
          · have hq : (m != 0) = true := by simpa using hm
            have HM := hide (opt_n m hm)
            clear hm
            go_wp2_with (at_builtin; refine wpList_push elem76 rfl _ _ rfl rfl rfl hown (by simp) (by omega) ?_; intro v' w2 hown2)
            go_roundw
            case rel => exact .inr (.inl ⟨by go_num, by rw [HM.out]; exact hown2⟩)
            case measure => simp [intOf]
        · obtain ⟨c0, c1, c2, c3, c4, c5, c6, -⟩ := cells7 (HC.out.later hown.bel)
          have hl := opt_len m
          by_cases hn : n = 0
          · have hq : (n != 0) = false := by simpa using hn
            have HN := hide (opt_0 n hn)
            clear hn
            go_wp2
            go_roundw
            case rel => exact .inr (.inr ⟨by go_num, by rw [HN.out, List.append_nil]; exact hown⟩)
            case measure => simp [intOf]
          · have hq : (n != 0) = true := by simpa using hn
            have HN := hide (opt_n n hn)
            clear hn
            have hl2 : ([r] ++ opt m).length ≤ 1000000 := by simp; omega
            generalize [r] ++ opt m = L at *
            go_wp2_with (at_builtin; refine wpList_push elem76 rfl _ _ rfl rfl rfl hown hl2 (by omega) ?_; intro v' w2 hown2)
            go_roundw
            case rel => exact .inr (.inr ⟨by go_num, by rw [HN.out]; exact hown2⟩)
            case measure => simp [intOf]
        · go_wp2
          go_ret
          exact ⟨_, rfl, by rw [E.out]; exact hown.from HB.out HB.out.size⟩
    · have E := hide (runes_none r m n d f g b (bears_no r m n d f g b h1 h2))
      have e2 : ((d : Int) != 2) = true := by simp; omega
      clear h1 h2
      go_enter Tryz.func72, Tryz.ntmps72
      go_wp2
      go_ret
      exact ⟨_, rfl, by rw [E.out, HW0.out]; exact ⟨World.ownsRow_nil _ _ _ _, HB.out, HB.out.size⟩⟩
theorem u8_nat {a : Int} (h : (Lit.int .u8 a).wf = true) : ∃ k : Nat, a = (k : Int) ∧ k < 256 := by
  have := u8_bd h
  exact ⟨a.toNat, by omega, by omega⟩
theorem i64_bd {a : Int} (h : (Lit.int .i64 a).wf = true) : -9223372036854775808 ≤ a ∧ a < 9223372036854775808 := by
  have : -9223372036854775808 ≤ a ∧ a ≤ 9223372036854775807 := by simpa [Lit.wf, IntKind.min, IntKind.max, IntKind.signed, IntKind.bits] using h
  omega
/-- The call answered with this value, and left all that was there. -/
def Gave (v : Value) (w : World) (e : Ending) (w' : World) : Prop := e = .returned v ∧ Below w.heap.size w w'
theorem lof_v (r m n : Int) (d f g b : Nat) (hr : R32 r) (hm : R32 m) (hn : R32 n) (w : World) : Calls Tryz.prog 50 #[.agg #[.int .i32 r, .int .i32 m, .int .i32 n, .int .u8 (d : Int), .int .u8 (f : Int), .int .u8 (g : Int), .int .u8 (b : Int)]] w (Gave (.agg #[.int .i64 r, .int .i64 m, .int .i64 n, .int .u8 (d : Int), .int .u8 (f : Int), .int .u8 (g : Int), .int .u8 (b : Int)]) w) := lof_any r m n d f g b hr hm hn w
theorem r32_0 : R32 0 := by unfold R32; omega
theorem cells3 {w : World} {q : Nat} {t : TypeId} {x0 x1 x2 : Value} (h : Whole w q t [x0, x1, x2]) : w.cell? ⟨q, 0, none⟩ = some x0 ∧ w.cell? ⟨q, 1, none⟩ = some x1 ∧ w.cell? ⟨q, 2, none⟩ = some x2 ∧ q < w.heap.size := ⟨h.cell 0, h.cell 1, h.cell 2, h.lt⟩
theorem i32_R {a : Int} (h : (Lit.int .i32 a).wf = true) : R32 a := by
  have : -2147483648 ≤ a ∧ a ≤ 2147483647 := by simpa [Lit.wf, IntKind.min, IntKind.max, IntKind.signed, IntKind.bits] using h
  exact this
/-- The call made this line in a block of its own, and left all that was there. -/
def Lined (cs : List Cel) (w : World) (e : Ending) (w' : World) : Prop := ∃ g, e = .returned (.slice (some ⟨g, 0, none⟩) cs.length cs.length) ∧ w.heap.size ≤ g ∧ Whole w' g 105 (flatC .i32 cs) ∧ Below w.heap.size w w'
theorem set7 {α : Type} (L : List α) (o : Nat) (h : o + 7 ≤ L.length) (v0 v1 v2 v3 v4 v5 v6 : α) : ((((((L.set o v0).set (o + 1) v1).set (o + 2) v2).set (o + 3) v3).set (o + 4) v4).set (o + 5) v5).set (o + 6) v6 = L.take o ++ ([v0, v1, v2, v3, v4, v5, v6] ++ L.drop (o + 7)) := by
  apply List.ext_getElem?
  intro i
  by_cases h1 : i < o
  · rw [List.getElem?_append_left (by simp; omega), List.getElem?_take, if_pos h1]
    simp only [List.getElem?_set, List.length_set]
    simp [show ¬ o = i by omega, show ¬ o + 1 = i by omega, show ¬ o + 2 = i by omega, show ¬ o + 3 = i by omega, show ¬ o + 4 = i by omega, show ¬ o + 5 = i by omega, show ¬ o + 6 = i by omega]
  · obtain ⟨d, rfl⟩ : ∃ d, i = o + d := ⟨i - o, by omega⟩
    have hl : (L.take o).length = o := by simp; omega
    rw [List.getElem?_append_right (by omega), hl, show o + d - o = d by omega]
    simp only [List.getElem?_set, List.length_set]
    match d with
    | 0 => simp; omega
    | 1 => simp; omega
    | 2 => simp; omega
    | 3 => simp; omega
    | 4 => simp; omega
    | 5 => simp; omega
    | 6 => simp; omega
    | d + 7 =>
      rw [List.getElem?_append_right (by simp), List.getElem?_drop]
      simp
      congr 1
      omega
theorem only_cell {w : World} {g : Nat} (o : Nat) (x0 x1 x2 x3 x4 x5 x6 : Value) : Only g w (((((((w.setCell ⟨g, o, none⟩ x0).setCell ⟨g, o + 1, none⟩ x1).setCell ⟨g, o + 2, none⟩ x2).setCell ⟨g, o + 3, none⟩ x3).setCell ⟨g, o + 4, none⟩ x4).setCell ⟨g, o + 5, none⟩ x5).setCell ⟨g, o + 6, none⟩ x6) :=
  ((((((Only.put _ _).trans (Only.put _ _)).trans (Only.put _ _)).trans (Only.put _ _)).trans (Only.put _ _)).trans (Only.put _ _)).trans (Only.put _ _)
/-- What the walk wants to know of a cell in a row known whole. -/
theorem Whole.seven {k : IntKind} {w : World} {g : Nat} {t : TypeId} {ds : List Cel} (h : Whole w g t (flatC k ds)) (o j : Nat) (ho : o = j * 7) (hj : j < ds.length) :
    w.cell? ⟨g, o, none⟩ = some (.int k (cAt ds j).r) ∧ w.cell? ⟨g, o + 1, none⟩ = some (.int k (cAt ds j).m) ∧ w.cell? ⟨g, o + 2, none⟩ = some (.int k (cAt ds j).n) ∧ w.cell? ⟨g, o + 3, none⟩ = some (.int .u8 ((cAt ds j).w : Int)) ∧ w.cell? ⟨g, o + 4, none⟩ = some (.int .u8 ((cAt ds j).p.f : Int)) ∧ w.cell? ⟨g, o + 5, none⟩ = some (.int .u8 ((cAt ds j).p.g : Int)) ∧ w.cell? ⟨g, o + 6, none⟩ = some (.int .u8 ((cAt ds j).p.b : Int)) ∧ ∀ i, w.frozen? ⟨g, i, none⟩ = false := by
  subst ho
  have key : ∀ d v, d < 7 → (cellL k (cAt ds j))[d]? = some v → w.cell? ⟨g, j * 7 + d, none⟩ = some v := by
    intro d v hd hv
    rw [h.cell, flatC_get k ds j d hd, get_cAt ds j hj]
    exact hv
  exact ⟨key 0 _ (by omega) rfl, key 1 _ (by omega) rfl, key 2 _ (by omega) rfl, key 3 _ (by omega) rfl, key 4 _ (by omega) rfl, key 5 _ (by omega) rfl, key 6 _ (by omega) rfl, h.frozen⟩
/-- A cell of a row known whole, as the walk wants it. -/
theorem Whole.sevenC {k : IntKind} {w : World} {g : Nat} {t : TypeId} {ds : List Cel} (h : Whole w g t (flatC k ds)) (o j : Nat) (ho : o = j * 7) (hj : j < ds.length) {r m x : Int} {d f y b : Nat} (hc : cAt ds j = ⟨r, m, x, d, ⟨f, y, b⟩⟩) :
    w.cell? ⟨g, o, none⟩ = some (.int k r) ∧ w.cell? ⟨g, o + 1, none⟩ = some (.int k m) ∧ w.cell? ⟨g, o + 2, none⟩ = some (.int k x) ∧ w.cell? ⟨g, o + 3, none⟩ = some (.int .u8 (d : Int)) ∧ w.cell? ⟨g, o + 4, none⟩ = some (.int .u8 (f : Int)) ∧ w.cell? ⟨g, o + 5, none⟩ = some (.int .u8 (y : Int)) ∧ w.cell? ⟨g, o + 6, none⟩ = some (.int .u8 (b : Int)) ∧ ∀ i, w.frozen? ⟨g, i, none⟩ = false := by
  have := h.seven o j ho hj
  rw [hc] at this
  exact this
/-- A cell of a slice that is read. -/
theorem Cels.sevenC {k : IntKind} {w : World} {g off : Nat} {ds : List Cel} (h : Cels k w (some ⟨g, off, none⟩) ds) (j : Nat) (hj : j < ds.length) {r m x : Int} {d f y b : Nat} (hc : cAt ds j = ⟨r, m, x, d, ⟨f, y, b⟩⟩) :
    w.cell? ⟨g, off + j * 7, none⟩ = some (.int k r) ∧ w.cell? ⟨g, off + j * 7 + 1, none⟩ = some (.int k m) ∧ w.cell? ⟨g, off + j * 7 + 2, none⟩ = some (.int k x) ∧ w.cell? ⟨g, off + j * 7 + 3, none⟩ = some (.int .u8 (d : Int)) ∧ w.cell? ⟨g, off + j * 7 + 4, none⟩ = some (.int .u8 (f : Int)) ∧ w.cell? ⟨g, off + j * 7 + 5, none⟩ = some (.int .u8 (y : Int)) ∧ w.cell? ⟨g, off + j * 7 + 6, none⟩ = some (.int .u8 (b : Int)) ∧ g < w.heap.size := by
  obtain ⟨b', off', e, hb, key⟩ := h.at hj
  cases e
  rw [hc] at key
  exact ⟨key 0 _ rfl, key 1 _ rfl, key 2 _ rfl, key 3 _ rfl, key 4 _ rfl, key 5 _ rfl, key 6 _ rfl, hb⟩
theorem neqCell (W : World) (r m n w f g b r' m' n' w' f' g' b' : Int) :
    (binOp .neq 105 (.agg #[.int .i32 r, .int .i32 m, .int .i32 n, .int .u8 w, .int .u8 f, .int .u8 g, .int .u8 b]) (.agg #[.int .i32 r', .int .i32 m', .int .i32 n', .int .u8 w', .int .u8 f', .int .u8 g', .int .u8 b'])).run Tryz.prog W = .ok (.bool (!(eqC r m n w f g b r' m' n' w' f' g' b'))) W := by
  rw [run_neq_struct, equalCell 9997]; rfl
theorem neqC (W : World) (r m n w f g b r' m' n' w' f' g' b' : Int) :
    (binOp .neq 100 (.agg #[.int .i64 r, .int .i64 m, .int .i64 n, .int .u8 w, .int .u8 f, .int .u8 g, .int .u8 b]) (.agg #[.int .i64 r', .int .i64 m', .int .i64 n', .int .u8 w', .int .u8 f', .int .u8 g', .int .u8 b'])).run Tryz.prog W = .ok (.bool (!(eqC r m n w f g b r' m' n' w' f' g' b'))) W := by
  rw [run_neq_struct, equalC 9997]; rfl
theorem eqC_cel (r m x : Int) (d f y b : Nat) (r' m' x' : Int) (d' f' y' b' : Nat) : eqC r m x (d : Int) (f : Int) (y : Int) (b : Int) r' m' x' (d' : Int) (f' : Int) (y' : Int) (b' : Int) = decide ((⟨r, m, x, d, ⟨f, y, b⟩⟩ : Cel) = ⟨r', m', x', d', ⟨f', y', b'⟩⟩) := by
  rw [eqC_iff, Bool.eq_iff_iff, decide_eq_true_iff, decide_eq_true_iff]
  simp only [Cel.mk.injEq, Pn.mk.injEq, Int.ofNat_inj]
theorem take_cel (a b : List Cel) (k : Nat) (ha : k < a.length) (hb : k < b.length) (h : a.take k = b.take k) (e : cAt a k = cAt b k) : a.take (k + 1) = b.take (k + 1) := by
  rw [List.take_succ_eq_append_getElem ha, List.take_succ_eq_append_getElem hb, h]
  have h1 : a[k] = cAt a k := Option.some.inj ((List.getElem?_eq_getElem ha).symm.trans (get_cAt a k ha))
  have h2 : b[k] = cAt b k := Option.some.inj ((List.getElem?_eq_getElem hb).symm.trans (get_cAt b k hb))
  rw [h1, h2, e]
theorem equal_any (A C : Option Addr) (n c m d : Nat) (xs ys : List Cel) (w : World) (ha : Cels .i32 w A xs) (hb : Cels .i32 w C ys) (hn : xs.length = n) (hm : ys.length = m) (hl : n ≤ 1000000) :
    Calls Tryz.prog 83 #[.slice A n c, .slice C m d] w (Said (decide (xs = ys)) w) := by
  have nC := @neqCell
  have HN := hide hn
  have HM := hide hm
  have HA := hide ha
  have HC := hide hb
  by_cases hnm : n = m
  · have en : ((n : Int) != (m : Int)) = false := by simp; omega
    clear hn hm ha hb
    go_enter Tryz.func83, Tryz.ntmps83
    go_wp2
    go_loopw [5, 13] (fun _ i wr => ∃ k : Nat, k ≤ n ∧ i = .int .i64 k ∧ Hid (xs.take k = ys.take k) ∧ Below w.heap.size w wr) (fun _ i _ => n - (intOf i).toNat)
    case atStart => exact ⟨0, Nat.zero_le _, rfl, (by unfold Hid; simp), Below.refl _ _⟩
    case round =>
      obtain ⟨k, hk, rfl, ht, hbel⟩ := hrel
      have HB := hide hbel
      clear hbel
      by_cases hlt : k < n
      · obtain ⟨b1, o1, rfl, l1, -⟩ := HA.out.at (i := k) (by rw [HN.out]; exact hlt)
        obtain ⟨b2, o2, rfl, l2, -⟩ := HC.out.at (i := k) (by rw [HM.out]; omega)
        by_cases he : cAt xs k = cAt ys k
        · have HT := hide (take_cel xs ys k (by rw [HN.out]; exact hlt) (by rw [HM.out]; omega) ht.out he)
          obtain ⟨⟨r, x, y, z, ⟨f, g, b⟩⟩, hc⟩ : ∃ q, cAt xs k = q := ⟨_, rfl⟩
          have hc2 := he.symm.trans hc
          obtain ⟨u0, u1, u2, u3, u4, u5, u6, -⟩ := (HA.out.below HB.out).sevenC k (by rw [HN.out]; exact hlt) hc
          obtain ⟨v0, v1, v2, v3, v4, v5, v6, -⟩ := (HC.out.below HB.out).sevenC k (by rw [HM.out]; omega) hc2
          have hq := eqC_self r x y (z : Int) (f : Int) (g : Int) (b : Int)
          clear hc hc2 he ht
          go_wp2
          go_quiet (fail)
          go_wp2
          go_roundw
          case rel => exact ⟨k + 1, by omega, by go_num, HT, HB.out.drewN _⟩
          case measure => simp [intOf]; omega
        · have HF : Hid (decide (xs = ys) = false) := by unfold Hid; exact decide_eq_false (fun q => he (by rw [q]))
          obtain ⟨⟨r, x, y, z, ⟨f, g, b⟩⟩, hc⟩ : ∃ q, cAt xs k = q := ⟨_, rfl⟩
          obtain ⟨⟨r', x', y', z', ⟨f', g', b'⟩⟩, hc2⟩ : ∃ q, cAt ys k = q := ⟨_, rfl⟩
          rw [hc, hc2] at he
          obtain ⟨u0, u1, u2, u3, u4, u5, u6, -⟩ := (HA.out.below HB.out).sevenC k (by rw [HN.out]; exact hlt) hc
          obtain ⟨v0, v1, v2, v3, v4, v5, v6, -⟩ := (HC.out.below HB.out).sevenC k (by rw [HM.out]; omega) hc2
          have hq : eqC r x y (z : Int) (f : Int) (g : Int) (b : Int) r' x' y' (z' : Int) (f' : Int) (g' : Int) (b' : Int) = false := by rw [eqC_cel]; exact decide_eq_false he
          clear hc hc2 he ht
          go_wp2
          go_quiet (fail)
          go_wp2
          go_ret
          exact ⟨ret_bool HF.out.symm, HB.out.drewN _⟩
      · have HF : Hid (decide (xs = ys) = true) := by
          unfold Hid
          refine decide_eq_true ?_
          have q := ht.out
          rwa [List.take_of_length_le (by rw [HN.out]; omega), List.take_of_length_le (by rw [HM.out]; omega)] at q
        clear ht
        go_wp2
        go_ret
        exact ⟨ret_bool HF.out.symm, HB.out⟩
  · have en : ((n : Int) != (m : Int)) = true := by simp; omega
    have HF : Hid (decide (xs = ys) = false) := by unfold Hid; exact decide_eq_false (fun q => hnm (by rw [← hn, ← hm, q]))
    clear hn hm ha hb hnm
    go_enter Tryz.func83, Tryz.ntmps83
    go_wp2
    go_ret
    exact ⟨ret_bool HF.out.symm, Below.refl _ _⟩
theorem rsame6_any (A C : Option Addr) (n c m d : Nat) (xs ys : List Cel) (w : World) (ha : Cels .i64 w A xs) (hb : Cels .i64 w C ys) (hn : xs.length = n) (hm : ys.length = m) (hl : n ≤ 1000000) :
    Calls Tryz.prog 40 #[.slice A n c, .slice C m d] w (Said (decide (xs = ys)) w) := by
  have nC := @neqC
  have HN := hide hn
  have HM := hide hm
  have HA := hide ha
  have HC := hide hb
  by_cases hnm : n = m
  · have en : ((n : Int) != (m : Int)) = false := by simp; omega
    clear hn hm ha hb
    go_enter Tryz.func40, Tryz.ntmps40
    go_wp2
    go_loopw [5] (fun i wr => ∃ k : Nat, k ≤ n ∧ i = .int .i64 k ∧ Hid (xs.take k = ys.take k) ∧ Below w.heap.size w wr) (fun i _ => n - (intOf i).toNat)
    case atStart => exact ⟨0, Nat.zero_le _, rfl, (by unfold Hid; simp), Below.refl _ _⟩
    case round =>
      obtain ⟨k, hk, rfl, ht, hbel⟩ := hrel
      have HB := hide hbel
      clear hbel
      by_cases hlt : k < n
      · obtain ⟨b1, o1, rfl, l1, -⟩ := HA.out.at (i := k) (by rw [HN.out]; exact hlt)
        obtain ⟨b2, o2, rfl, l2, -⟩ := HC.out.at (i := k) (by rw [HM.out]; omega)
        by_cases he : cAt xs k = cAt ys k
        · have HT := hide (take_cel xs ys k (by rw [HN.out]; exact hlt) (by rw [HM.out]; omega) ht.out he)
          obtain ⟨⟨r, x, y, z, ⟨f, g, b⟩⟩, hc⟩ : ∃ q, cAt xs k = q := ⟨_, rfl⟩
          have hc2 := he.symm.trans hc
          obtain ⟨u0, u1, u2, u3, u4, u5, u6, -⟩ := (HA.out.below HB.out).sevenC k (by rw [HN.out]; exact hlt) hc
          obtain ⟨v0, v1, v2, v3, v4, v5, v6, -⟩ := (HC.out.below HB.out).sevenC k (by rw [HM.out]; omega) hc2
          have hq := eqC_self r x y (z : Int) (f : Int) (g : Int) (b : Int)
          clear hc hc2 he ht
          go_wp2
          go_quiet (fail)
          go_wp2
          go_roundw
          case rel => exact ⟨k + 1, by omega, by go_num, HT, HB.out.drewN _⟩
          case measure => simp [intOf]; omega
        · have HF : Hid (decide (xs = ys) = false) := by unfold Hid; exact decide_eq_false (fun q => he (by rw [q]))
          obtain ⟨⟨r, x, y, z, ⟨f, g, b⟩⟩, hc⟩ : ∃ q, cAt xs k = q := ⟨_, rfl⟩
          obtain ⟨⟨r', x', y', z', ⟨f', g', b'⟩⟩, hc2⟩ : ∃ q, cAt ys k = q := ⟨_, rfl⟩
          rw [hc, hc2] at he
          obtain ⟨u0, u1, u2, u3, u4, u5, u6, -⟩ := (HA.out.below HB.out).sevenC k (by rw [HN.out]; exact hlt) hc
          obtain ⟨v0, v1, v2, v3, v4, v5, v6, -⟩ := (HC.out.below HB.out).sevenC k (by rw [HM.out]; omega) hc2
          have hq : eqC r x y (z : Int) (f : Int) (g : Int) (b : Int) r' x' y' (z' : Int) (f' : Int) (g' : Int) (b' : Int) = false := by rw [eqC_cel]; exact decide_eq_false he
          clear hc hc2 he ht
          go_wp2
          go_quiet (fail)
          go_wp2
          go_ret
          exact ⟨ret_bool HF.out.symm, HB.out.drewN _⟩
      · have HF : Hid (decide (xs = ys) = true) := by
          unfold Hid
          refine decide_eq_true ?_
          have q := ht.out
          rwa [List.take_of_length_le (by rw [HN.out]; omega), List.take_of_length_le (by rw [HM.out]; omega)] at q
        clear ht
        go_wp2
        go_ret
        exact ⟨ret_bool HF.out.symm, HB.out⟩
  · have en : ((n : Int) != (m : Int)) = true := by simp; omega
    have HF : Hid (decide (xs = ys) = false) := by unfold Hid; exact decide_eq_false (fun q => hnm (by rw [← hn, ← hm, q]))
    clear hn hm ha hb hnm
    go_enter Tryz.func40, Tryz.ntmps40
    go_wp2
    go_ret
    exact ⟨ret_bool HF.out.symm, Below.refl _ _⟩
theorem same6_any (A C : Option Addr) (n c m d : Nat) (xs ys : List Cel) (w : World) (ha : Cels .i32 w A xs) (hb : Cels .i32 w C ys) (hn : xs.length = n) (hm : ys.length = m) (hl : n ≤ 1000000) :
    Calls Tryz.prog 61 #[.slice A n c, .slice C m d] w (Said (decide (xs = ys)) w) := by
  have HN := hide hn
  have HM := hide hm
  have HA := hide ha
  have HC := hide hb
  clear hn hm ha hb
  go_enter Tryz.func61, Tryz.ntmps61
  go_wp2_with fail
  refine (equal_any A C n c m d xs ys w HA.out HC.out HN.out HM.out hl).mono ?_
  rintro e w1 ⟨rfl, hb⟩
  go_wp2
  go_ret
  exact ⟨rfl, hb⟩
/-- The numbers of a cell that came in. -/
def CelOk (r m n : Int) (d f g b : Nat) : Prop := R32 r ∧ R32 m ∧ R32 n ∧ d < 256 ∧ f < 256 ∧ g < 256 ∧ b < 256
def PenOk (f g b : Nat) : Prop := f < 256 ∧ g < 256 ∧ b < 256
/-- A cell's numbers fit. -/
def CelB (c : Cel) : Prop := R32 c.r ∧ R32 c.m ∧ R32 c.n ∧ c.w < 256
def LB (cs : List Cel) : Prop := ∀ i, i < cs.length → CelB (cAt cs i)
/-- The call made a row of these cells, and left all that was there. -/
def MadeC (t : TypeId) (k : IntKind) (w : World) (cs : List Cel) (e : Ending) (w' : World) : Prop := ∃ v, e = .returned v ∧ OwnC t k w.heap.size w w' v cs
theorem lcut_any (A : Option Addr) (n c : Nat) (cs : List Cel) (w : World) (h : Cels .i32 w A cs) (hn : n ≤ cs.length) (hc : A = none → c = 0) (hnc : n ≤ c) : Calls Tryz.prog 30 #[.slice A n c] w (MadeC 105 .i32 w (cs.take (min n 30))) := by
  obtain ⟨m, hm⟩ : ∃ m, min n 30 = m := ⟨_, rfl⟩
  have em : min (n : Int) 30 = (m : Int) := by omega
  have hm1 : m ≤ c := by omega
  have hm2 : m ≤ 30 := by omega
  have HC := hide ((h.take m).alloc (.cells #[] 105))
  have HA := hide hc
  have HL : Hid ((cs.take m).length = m) := by unfold Hid; rw [List.length_take]; omega
  have HM := hide hm
  clear h hn hc hm hnc
  go_enter Tryz.func30, Tryz.ntmps30
  go_wp2_with (at_builtin; refine stopw ?_)
  unfold Hid
  refine wpList_catC elemL rfl _ _ rfl rfl rfl (OwnC.empty w 105 .i32) HC.out HL.out HA.out (by simp; omega) (by omega) ?_
  intro v' w1 hown
  simp only [List.nil_append] at hown
  have HV := hide hown
  clear hown
  go_wp2
  go_ret
  exact ⟨_, rfl, by rw [HM.out]; exact HV.out⟩
theorem take_cAt (cs : List Cel) (k : Nat) (h : k < cs.length) : cs.take (k + 1) = cs.take k ++ [cAt cs k] := by
  rw [List.take_succ_eq_append_getElem h]
  congr 2
  exact Option.some.inj ((List.getElem?_eq_getElem h).symm.trans (get_cAt cs k h))
theorem lineof_any (A : Option Addr) (n c : Nat) (cs : List Cel) (w : World) (h : Cels .i32 w A cs) (hn : cs.length = n) (hl : n ≤ 1000000) (hb : LB cs) : Calls Tryz.prog 33 #[.slice A n c] w (MadeC 100 .i64 w cs) := by
  have HC := hide h
  have HN := hide hn
  have HLB := hide hb
  clear h hn hb
  go_enter Tryz.func33, Tryz.ntmps33
  go_wp2
  go_loopw [3, 4] (fun v i wr => ∃ k : Nat, k ≤ n ∧ i = .int .i64 k ∧ OwnC 100 .i64 w.heap.size w wr v (cs.take k)) (fun _ i _ => n - (intOf i).toNat)
  case atStart => exact ⟨0, Nat.zero_le _, rfl, OwnC.start (Nat.le_refl _)⟩
  case round =>
    obtain ⟨k, hk, rfl, hown⟩ := hrel
    have HV := hide hown
    clear hown
    by_cases hlt : k < n
    · obtain ⟨b1, o1, rfl, l1, -⟩ := HC.out.at (i := k) (by rw [HN.out]; exact hlt)
      have hcb := HLB.out k (by rw [HN.out]; exact hlt)
      have HT := hide (take_cAt cs k (by rw [HN.out]; exact hlt))
      obtain ⟨⟨r, x, y, z, ⟨f, g, b⟩⟩, hc⟩ : ∃ q, cAt cs k = q := ⟨_, rfl⟩
      rw [hc] at hcb HT
      obtain ⟨hr, hx, hy, -⟩ := hcb
      obtain ⟨u0, u1, u2, u3, u4, u5, u6, -⟩ := (HC.out.below HV.out.bel).sevenC k (by rw [HN.out]; exact hlt) hc
      clear hc
      go_wp2_with fail
      refine (lof_v r x y z f g b hr hx hy wr).mono ?_
      rintro e w1 ⟨rfl, hb1⟩
      have HV1 := hide (HV.out.later hb1)
      clear hb1 u0 u1 u2 u3 u4 u5 u6
      go_wp2_with (at_builtin; refine stopw ?_)
      unfold Hid
      refine wpList_pushC elemLC ⟨r, x, y, z, ⟨f, g, b⟩⟩ rfl _ _ rfl rfl rfl HV1.out (by rw [List.length_take]; omega) (by omega) ?_
      intro v' wn hn1
      rw [← HT.out] at hn1
      have HV' := hide hn1
      clear hn1 hr hx hy
      go_wp2
      go_roundw
      case rel => exact ⟨k + 1, by omega, by go_num, HV'.out⟩
      case measure => simp [intOf]; omega
    · go_wp2
      go_ret
      exact ⟨_, rfl, by have q := HV.out; rwa [List.take_of_length_le (by rw [HN.out]; omega)] at q⟩
/-- A row's runs, each known to be one of them. -/
abbrev RunIn (l : List Cel) : Type := { x : Nat × Cel // x ∈ runsOf l }
def runV (c : Cel) : Value := .agg #[.int .i32 c.r, .int .i32 c.m, .int .i32 c.n, .int .u8 (c.w : Int), .int .u8 (c.p.f : Int), .int .u8 (c.p.g : Int), .int .u8 (c.p.b : Int)]
theorem run_next (l : List Cel) (i j : Nat) (pre : List (RunIn l)) (hp : pre.map (·.1) ++ runsOf (l.drop i) = runsOf l) (h1 : i < j) (h2 : j ≤ l.length) (h3 : ∀ q, i ≤ q → q < j → cAt l q = cAt l i) (h4 : j = l.length ∨ cAt l j ≠ cAt l i) :
    ∃ x : RunIn l, x.1 = (j - i, cAt l i) ∧ (pre ++ [x]).map (·.1) ++ runsOf (l.drop j) = runsOf l ∧ pre.length < (runsOf l).length := by
  have e := runs_drop l i j h1 h2 h3 h4
  rw [e] at hp
  refine ⟨⟨(j - i, cAt l i), by rw [← hp]; simp⟩, rfl, by simpa using hp, ?_⟩
  rw [← hp]
  simp
theorem grown_of_below {W W' : World} (h : Below W.heap.size W W') : W.grownBy W' none := ⟨h.os, h.tape, h.output, h.size, fun i hi _ => h.block i hi⟩
theorem abide {β : Type} {B : Nat} {J : β → World → Prop} (h : AbidesFrom B J) {s : β} {W W' : World} (hs : J s W) (hb : Below W.heap.size W W') : J s W' := h s W W' none hs (grown_of_below hb) (fun r e => by cases e)

theorem each_any (A : Option Addr) (n c : Nat) (w : World) : Calls Tryz.prog 58 #[.slice A n c] w fun e w' => e = .returned (.func (.func 80) #[] #[.pointer (some ⟨w.heap.size, 0, none⟩)]) ∧ w' = w.alloc (.cells #[.slice A n c] 66) := by
  go_enter Tryz.func58, Tryz.ntmps58
  go_wp2
  go_ret
  exact ⟨rfl, rfl⟩

theorem each_nil (A : Option Addr) (c l Bs : Nat) (W : World) (hBs : W.cell? ⟨Bs, 0, none⟩ = some (.slice A 0 c)) :
    Calls Tryz.prog 80 #[.func (.yield l) #[] #[], .pointer (some ⟨Bs, 0, none⟩)] W fun e W' => e = .returned (.tuple #[]) ∧ W' = W := by
  go_enter Tryz.func80, Tryz.ntmps80
  go_step3
  go_wp2
  go_step3
  go_wp2
  go_loopg [3] 0 (fun g v wr => v = .slice A 0 c ∧ wr = W)
  case atStart => exact ⟨rfl, rfl⟩
  case round =>
    obtain ⟨rfl, rfl⟩ := hrel
    go_wp2
    rw [Exit.noGoto_normal]
    go_end0
    exact ⟨rfl, rfl⟩

theorem Cels.low {k : IntKind} {w w' : World} {n0 b0 off : Nat} {cs : List Cel} (h : Cels k w (some ⟨b0, off, none⟩) cs) (hb : Below n0 w w') (hl : b0 < n0) : Cels k w' (some ⟨b0, off, none⟩) cs := by
  rcases h with h | ⟨b, o, ha, hc⟩
  · exact .inl h
  · cases ha
    exact .inr ⟨b0, off, rfl, fun j v hj => (hb.cell (p := ⟨b0, off + j, none⟩) hl).trans (hc j v hj)⟩
theorem Cels.drop {k : IntKind} {w : World} {b0 off : Nat} {cs : List Cel} (h : Cels k w (some ⟨b0, off, none⟩) cs) (i : Nat) : Cels k w (some ⟨b0, off + i * 7, none⟩) (cs.drop i) := by
  rcases h with h | ⟨b, o, ha, hc⟩
  · exact .inl (by simp [h])
  · cases ha
    refine .inr ⟨b0, off + i * 7, rfl, fun j v hj => ?_⟩
    rw [flatC_drop, List.getElem?_drop] at hj
    rw [Nat.add_assoc]
    exact hc _ v hj
theorem drop_cAt (cs : List Cel) (i q : Nat) : cAt (cs.drop i) q = cAt cs (i + q) := by unfold cAt; simp [List.getD_eq_getElem?_getD, List.getElem?_drop]

theorem each_some (n0 nn l Bs b0 off n c : Nat) (cs : List Cel) (hl : cs.length = n) (hlm : n ≤ 1000000) (hnc : n ≤ c) (h0 : 0 < n) (hb0 : b0 < n0) (hnn : 1 ≤ nn)
    (J Jx : List (RunIn cs) → World → Prop) (W : World) (hn0 : n0 ≤ W.heap.size) (hJ : AbidesFrom W.heap.size J) (hBl : Bs < n0 ∨ Bs < W.heap.size)
    (hY : ∀ pre (x : RunIn cs) W1, J pre W1 → pre.length < (runsOf cs).length → YieldAt Fence.wide (nn - 1) Tryz.prog l #[.agg #[.int .i32 x.1.2.r, .int .i32 x.1.2.m, .int .i32 x.1.2.n, .int .u8 (x.1.2.w : Int), .int .u8 (x.1.2.p.f : Int), .int .u8 (x.1.2.p.g : Int), .int .u8 (x.1.2.p.b : Int)], .int .i64 (x.1.1 : Int)] W1 fun e W' =>
      (e = .returned (.bool true) ∧ J (pre ++ [x]) W' ∧ Below n0 W1 W') ∨ (e = .returned (.bool false) ∧ Jx (pre ++ [x]) W'))
    (hBs : W.cell? ⟨Bs, 0, none⟩ = some (.slice (some ⟨b0, off, none⟩) n c)) (hC : Cels .i32 W (some ⟨b0, off, none⟩) cs) (hj : J [] W) :
    Calls Tryz.prog 80 #[.func (.yield l) #[] #[], .pointer (some ⟨Bs, 0, none⟩)] W fun e W' => (∃ v, e = .returned v) ∧
      ((∃ xs : List (RunIn cs), xs.map (·.1) = runsOf cs ∧ J xs W') ∨ (∃ pre, Jx pre W')) := by
  have HL := hide hl
  have HC := hide hC
  have HJ := hide hJ
  have HY := hide hY
  clear hl hC hJ hY hBl
  go_enter Tryz.func80, Tryz.ntmps80
  go_step3
  go_wp2
  go_step3
  go_wp2
  go_loopg [3] n (fun g v wr => ∃ (i : Nat) (pre : List (RunIn cs)), i + g = n ∧ i < n ∧ v = .slice (some ⟨b0, off + i * 7, none⟩) (n - i) (c - i) ∧ Hid (pre.map (·.1) ++ runsOf (cs.drop i) = runsOf cs) ∧ J pre wr ∧ Below n0 W wr)
  case atStart => exact ⟨0, [], by omega, h0, by simp, rfl, hj, Below.refl _ _⟩
  case round =>
    obtain ⟨i, pre, hig, hi, rfl, HP, hJp, hB⟩ := hrel
    obtain ⟨wo, rfl⟩ : ∃ w5, w5 = wr := ⟨_, rfl⟩
    obtain ⟨o', ho'⟩ : ∃ o', off + i * 7 = o' := ⟨_, rfl⟩
    obtain ⟨D, hD⟩ : ∃ D, cs.drop i = D := ⟨_, rfl⟩
    have HD : Hid (D.length = n - i) := by unfold Hid; rw [← hD, List.length_drop, HL.out]
    have HCD : Hid (Cels .i32 W (some ⟨b0, o', none⟩) D) := by unfold Hid; rw [← hD, ← ho']; exact HC.out.drop i
    have HDC : Hid (∀ q, cAt D q = cAt cs (i + q)) := by unfold Hid; intro q; rw [← hD]; exact drop_cAt cs i q
    rw [ho']
    have HO' := hide ho'
    clear ho' hD
    have hpos : (0 : Int) < (n : Int) - (i : Int) := by omega
    have hpos2 : 0 < n - i := by omega
    obtain ⟨⟨r, m, y, d, ⟨f, g, b⟩⟩, hc0⟩ : ∃ q, cAt D 0 = q := ⟨_, rfl⟩
    have HC0 := hide hc0
    clear hc0
    go_wp2
    go_loopg [3, 12] (n - i) (fun g v3 v wi => ∃ q : Nat, q + g = n - i ∧ v3 = .slice (some ⟨b0, o', none⟩) (n - i) (c - i) ∧ v = .int .i64 q ∧ Hid (∀ p, p < q → cAt D p = cAt D 0) ∧ Below wo.heap.size wo wi)
    case atStart => exact ⟨0, by omega, rfl, rfl, (fun p hp => by omega), Below.refl _ _⟩
    case round =>
      obtain ⟨q, hqg, rfl, rfl, HQ, hBi⟩ := hrel
      have HBW := hide (hB.trans (hBi.mono (Nat.le_trans hn0 hB.size)))
      have HJi := hide (abide HJ.out hJp hBi)
      obtain ⟨u0, u1, u2, u3, u4, u5, u6, hlt⟩ := (HCD.out.low HBW.out hb0).sevenC 0 (by rw [HD.out]; exact hpos2) HC0.out
      simp only [Nat.zero_mul, Nat.add_zero] at u0 u1 u2 u3 u4 u5 u6
      by_cases hq : q < n - i
      · obtain ⟨⟨r', m', y', d', ⟨f', g', b'⟩⟩, hcq⟩ : ∃ c, cAt D q = c := ⟨_, rfl⟩
        obtain ⟨v0, v1, v2, v3, v4, v5, v6, -⟩ := (HCD.out.low HBW.out hb0).sevenC q (by rw [HD.out]; exact hq) hcq
        have HCq := hide hcq
        clear hcq
        have eC := @eqlCell
        by_cases he : (⟨r', m', y', d', ⟨f', g', b'⟩⟩ : Cel) = ⟨r, m, y, d, ⟨f, g, b⟩⟩
        · cases he
          have hqq := eqC_self r m y (d : Int) (f : Int) (g : Int) (b : Int)
          go_wp2
          go_quiet (fail)
          go_wp2
          go_roundg (n - i - (q + 1))
          case rel => exact ⟨q + 1, by omega, rfl, by go_num, (fun p hp => by
            rcases Nat.lt_or_eq_of_le (Nat.lt_succ_iff.1 hp) with z | z
            · exact HQ.out p z
            · rw [z, HCq.out, HC0.out]), (hBi.alloc hBi.size _).drewN _⟩
          case measure => omega
        · have hqq : eqC r' m' y' (d' : Int) (f' : Int) (g' : Int) (b' : Int) r m y (d : Int) (f : Int) (g : Int) (b : Int) = false := by rw [eqC_cel]; exact decide_eq_false he
          have hq0 : 0 < q := by
            rcases Nat.eq_zero_or_pos q with z | z
            · rw [z, HC0.out] at HCq; exact absurd HCq.out.symm he
            · exact z
          obtain ⟨x, hx, hxp, hlen⟩ := run_next cs i (i + q) pre HP.out (by omega) (by rw [HL.out]; omega) (fun p h1 h2 => by
            have e1 := HDC.out (p - i)
            have e2 := HDC.out 0
            rw [Nat.add_zero] at e2
            rw [show i + (p - i) = p by omega] at e1
            rw [← e1, ← e2]
            exact HQ.out _ (by omega)) (.inr (by
            have e1 := HDC.out q
            have e2 := HDC.out 0
            rw [Nat.add_zero] at e2
            rw [← e1, ← e2, HCq.out, HC0.out]
            exact he))
          have e2 := HDC.out 0
          rw [Nat.add_zero, HC0.out] at e2
          rw [← e2, show i + q - i = q by omega] at hx
          clear e2
          have HX := hide hx
          have HXP := hide hxp
          clear hx hxp he
          go_wp2
          go_quiet (fail)
          go_upto_region 6 with fail
          have hB6 : Below wo.heap.size wo ((wr.alloc (.cells #[.int .i32 r', .int .i32 m', .int .i32 y', .int .u8 (d' : Int), .int .u8 (f' : Int), .int .u8 (g' : Int), .int .u8 (b' : Int)] 105)).drewN nq) := (hBi.alloc hBi.size _).drewN _
          generalize (wr.alloc (.cells #[.int .i32 r', .int .i32 m', .int .i32 y', .int .u8 (d' : Int), .int .u8 (f' : Int), .int .u8 (g' : Int), .int .u8 (b' : Int)] 105)).drewN nq = W6 at *
          have HB6 := hide (hB.trans (hB6.mono (Nat.le_trans hn0 hB.size)))
          clear u0 u1 u2 u3 u4 u5 u6 v0 v1 v2 v3 v4 v5 v6 hlt
          obtain ⟨u0, u1, u2, u3, u4, u5, u6, hlt⟩ := (HCD.out.low HB6.out hb0).sevenC 0 (by rw [HD.out]; exact hpos2) HC0.out
          simp only [Nat.zero_mul, Nat.add_zero] at u0 u1 u2 u3 u4 u5 u6
          obtain ⟨fn, tmps, assign, body, hy, hR⟩ := HY.out pre x W6 (abide HJ.out hJp hB6) hlen
          simp only [HX.out] at hy
          have hne : ¬ c - i = q := by omega
          refine (wpIn_wide (n := nn)).1 ?_
          gi_wp2
          refine hR.mono ?_
          rintro e W7 (⟨rfl, hJ7, hk7⟩ | ⟨rfl, hJx7⟩)
          · gi_wp2
            go_wp2
            go_roundg (n - (i + q))
            case rel => exact ⟨i + q, pre ++ [x], by omega, by omega, by rw [← HO'.out, Nat.add_mul, Nat.add_assoc, Nat.sub_sub, Nat.sub_sub], HXP.out, hJ7, HB6.out.trans hk7⟩
            case measure => omega
          · gi_wp2
            go_wp2
            rw [Exit.noGoto_ret]
            refine bodyPost_ret (results_none rfl _ _ _) rfl ?_
            exact ⟨⟨_, rfl⟩, .inr ⟨_, hJx7⟩⟩
      · obtain ⟨x, hx, hxp, hlen⟩ := run_next cs i n pre HP.out (by omega) (by rw [HL.out]; omega) (fun p h1 h2 => by
          have e1 := HDC.out (p - i)
          have e2 := HDC.out 0
          rw [Nat.add_zero] at e2
          rw [show i + (p - i) = p by omega] at e1
          rw [← e1, ← e2]
          exact HQ.out _ (by omega)) (.inl HL.out.symm)
        have e2 := HDC.out 0
        rw [Nat.add_zero, HC0.out] at e2
        rw [← e2] at hx
        rw [List.drop_eq_nil_of_le (by rw [HL.out]; omega), runsOf, List.append_nil] at hxp
        have HX := hide hx
        have HXP := hide hxp
        clear hx hxp e2
        obtain ⟨fn, tmps, assign, body, hy, hR⟩ := HY.out pre x wr HJi.out hlen
        simp only [HX.out] at hy
        go_upto_region 9 with fail
        refine (wpIn_wide (n := nn)).1 ?_
        gi_wp2
        refine hR.mono ?_
        rintro e W7 (⟨rfl, hJ7, hk7⟩ | ⟨rfl, hJx7⟩)
        · gi_wp2
          go_wp2
          rw [Exit.noGoto_ret]
          refine bodyPost_ret (results_none rfl _ _ _) rfl ?_
          exact ⟨⟨_, rfl⟩, .inl ⟨_, HXP.out, hJ7⟩⟩
        · gi_wp2
          go_wp2
          rw [Exit.noGoto_ret]
          refine bodyPost_ret (results_none rfl _ _ _) rfl ?_
          exact ⟨⟨_, rfl⟩, .inr ⟨_, hJx7⟩⟩
theorem run_enc0 (cs : List Cel) (h : cs = []) : runsOf cs = [] := by rw [h]; rfl
/-- The runs come one behind the other: all of them, where no round says 'no more'. -/
theorem each_stops (n0 nn Bs : Nat) (A : Option Addr) (n c : Nat) (cs : List Cel) (w : World) (hl : cs.length = n) (hlm : n ≤ 1000000) (hnc : n ≤ c) (hnn : 1 ≤ nn) (hn0 : n0 ≤ w.heap.size) (hBl : Bs < w.heap.size)
    (hBs : w.cell? ⟨Bs, 0, none⟩ = some (.slice A n c)) (hC : Cels .i32 w A cs) (hA : ∀ b off, A = some ⟨b, off, none⟩ → cs ≠ [] → b < n0) :
    SeqStopsK Fence.wide nn Tryz.prog 80 #[.pointer (some ⟨Bs, 0, none⟩)] (fun x : RunIn cs => #[.agg #[.int .i32 x.1.2.r, .int .i32 x.1.2.m, .int .i32 x.1.2.n, .int .u8 (x.1.2.w : Int), .int .u8 (x.1.2.p.f : Int), .int .u8 (x.1.2.p.g : Int), .int .u8 (x.1.2.p.b : Int)], .int .i64 (x.1.1 : Int)])
      (Below n0) (fun xs => xs.map (·.1) = runsOf cs) (fun _ => True) (runsOf cs).length w := by
  intro l J Jx W hW hJ hJx hY h0
  refine callsIn_wide.2 ?_
  have hb := (hW.cell (p := ⟨Bs, 0, none⟩) hBl).trans hBs
  rcases Nat.eq_zero_or_pos n with hz | hz
  · subst hz
    refine (each_nil A c l Bs W hb).mono ?_
    rintro e W' ⟨rfl, rfl⟩
    exact ⟨⟨_, rfl⟩, .inl ⟨[], (run_enc0 cs (List.length_eq_zero_iff.1 hl)).symm, h0⟩⟩
  · have hne : cs ≠ [] := fun q => by rw [q] at hl; simp at hl; omega
    rcases hC with q | ⟨b, off, rfl, hc⟩
    · exact absurd q hne
    · have hC2 : Cels .i32 W (some ⟨b, off, none⟩) cs := Cels.below (.inr ⟨b, off, rfl, hc⟩) hW
      refine (each_some n0 nn l Bs b off n c cs hl hlm hnc hz (hA b off rfl hne) hnn J Jx W (Nat.le_trans hn0 hW.size) hJ (.inr (Nat.lt_of_lt_of_le hBl hW.size)) hY hb hC2 h0).mono ?_
      rintro e W' ⟨he, h | ⟨pre, h⟩⟩
      · exact ⟨he, .inl h⟩
      · exact ⟨he, .inr ⟨pre, trivial, h⟩⟩
attribute [local go_sem] Oper.semAt_some

theorem cel_block {k : IntKind} {w : World} {A : Option Addr} {cs : List Cel} (h : Cels k w A cs) : ∀ b off, A = some ⟨b, off, none⟩ → cs ≠ [] → b < w.heap.size := by
  intro b off e hne
  obtain ⟨b', off', e', hb, -⟩ := h.at (i := 0) (List.length_pos_iff.2 hne)
  rw [e] at e'
  cases e'
  exact hb
theorem runs_small {cs : List Cel} (h : cs.length ≤ 1000000) : (runsOf cs).length ≤ 1000000 := Nat.le_trans (runs_le cs) h

theorem runcount_any (A : Option Addr) (n c : Nat) (cs : List Cel) (w : World) (h : Cels .i32 w A cs) (hn : cs.length = n) (hl : n ≤ 1000000) (hnc : n ≤ c) :
    Calls Tryz.prog 57 #[.slice A n c] w (Num .i64 (countR cs : Int) w) := by
  have HC := hide h
  have HN := hide hn
  have hrl := runs_small (cs := cs) (by omega)
  have hblk := cel_block h
  refine (callsIn_wide (n := 9)).1 ?_
  refine callsIn_of_wp_marks Tryz.func57 rfl trivial ?_ rfl
  simp only [Tryz.ntmps57, List.size_toArray, List.length_cons, List.length_nil, Nat.reduceAdd, Nat.reduceSub, Array.replicate_succ, Array.replicate_zero, List.push_toArray, List.append_toArray, List.nil_append, List.cons_append]
  gi_wp2_with (refine ⟨trivial, ?_⟩; gi_at_call 58; refine (callsIn_wide.2 (each_any _ _ _ _)).mono ?_; rintro e w' ⟨rfl, rfl⟩)
  have bS := Boxed.new w 3 (.int .i64 0)
  have bN := Boxed.new (w.alloc (.cells #[.int .i64 0] 3)) 66 (.slice A n c)
  rw [World.size_alloc] at bN
  have hB0 : Below w.heap.size w ((w.alloc (.cells #[.int .i64 0] 3)).alloc (.cells #[.slice A n c] 66)) := ((Below.refl _ w).alloc (Nat.le_refl _) _).alloc (by simp) _
  refine wpIn_rangeFunc_ownG rfl (by omega) (gf := 80) (lb := #[.pointer (some ⟨w.heap.size + 1, 0, none⟩)]) rfl trivial (enters_of Tryz.func80 (by kernel_rfl) rfl)
    (each_stops w.heap.size (9 - 1) (w.heap.size + 1) A n c cs _ hn hl hnc (by omega) (by simp; omega) (by simp) bN.cell (h.below hB0) hblk) belowK_t (belowK_b (by simp; omega)) (Below.refl _ _) (by intro x; rfl)
    (fun pre W => (W.cell? ⟨w.heap.size, 0, none⟩ = some (.int .i64 (pre.length : Int)) ∧ W.frozen? ⟨w.heap.size, 0, none⟩ = false) ∧ Below w.heap.size w W)
    (fun _ _ _ => False)
    (OwnFrom.and (_root_.Go.Own.from (fun s A B row hs hg hr => ⟨cell_kept hs.1 hg hr, (frozen_kept hs.1 hg hr).trans hs.2⟩) _) (ownFrom_below (Nat.le_refl _) (by simp; omega)))
    (fun _ _ _ _ _ hs _ _ => hs)
    ⟨⟨(bS.alloc _).cell, (bS.alloc _).frozen⟩, hB0⟩
    (fun x => { tmps := #[.slice A n c, undef, .int .i64 0, .pointer (some ⟨w.heap.size, 0, none⟩), .slice A n c, .func (.func 80) #[] #[.pointer (some ⟨w.heap.size + 1, 0, none⟩)], .agg #[.int .i32 x.1.2.r, .int .i32 x.1.2.m, .int .i32 x.1.2.n, .int .u8 (x.1.2.w : Int), .int .u8 (x.1.2.p.f : Int), .int .u8 (x.1.2.p.g : Int), .int .u8 (x.1.2.p.b : Int)], .int .i64 (x.1.1 : Int), undef, undef, undef], defers := [] }) ?assign ?body ?done ?stop
  case assign =>
    intro l x W K hK
    gi_wp2
    simp
    exact hK
  case body =>
    rintro l pre x W ⟨⟨hc, hf⟩, hB⟩ hlen
    gi_wp2
    exact ⟨(KeepsOthers.setCell _ _ _).from _, (Below.refl w.heap.size W).setCell (p := ⟨w.heap.size, 0, none⟩) (Nat.le_refl _) _, ⟨by rw [List.length_append]; exact World.cell?_setCell_same' _ _ _ (by rw [hc]; rfl), by rw [World.frozen?_setCell]; exact hf⟩, hB.setCell (p := ⟨w.heap.size, 0, none⟩) (Nat.le_refl _) _⟩
  case done =>
    rintro D ys W hD hS ⟨⟨hc, _⟩, hB⟩ hK
    have hcount : (ys.length : Int) = (countR cs : Int) := by rw [← runs_count, ← hS, List.length_map]
    rw [hcount] at hc
    gi_wp2
    refine ⟨by simp, .inl ⟨_, _, rfl, run_takeDeferred hK, ?_⟩⟩
    exact ⟨_, results_tmp rfl _ _ _, rfl, hB.trans (belowK_b (w := w) (Nat.le_refl _) W D _ _ (by simp at hD; omega) hK rfl rfl)⟩
  case stop =>
    rintro D c pre W _ _ h _
    exact h.elim
theorem nu_info5 : (Tryz.prog.info? 5).map (fun i => (i.zero, i.size, i.bytes)) = some (some (.int .u8 0), 1, 1) := by kernel_rfl

theorem elemBytes : Elem Tryz.prog 36 5 .u8 1 := ⟨Tryz.underlying36, nu_info5⟩

theorem and127 (m : Nat) (h : m < 18446744073709551616) : bits .and .u64 (m : Int) 127 = ((m % 128 : Nat) : Int) := by
  have := u64_and_nat m 127 h (by omega)
  rw [show m &&& 127 = m % 128 from Nat.and_two_pow_sub_one_eq_mod m 7] at this
  exact this
theorem or128_all : ∀ m : Fin 128, bits .or .u8 ((m.val : Nat) : Int) 128 = ((128 + m.val : Nat) : Int) := by decide +kernel
theorem or128 (m : Nat) : bits .or .u8 ((m : Int) % 128) 128 = ((128 + m % 128 : Nat) : Int) := or128_all ⟨m % 128, by omega⟩
theorem pow10 {n : Nat} (h : n < 18446744073709551616) : n < 128 ^ (9 + 1) := by
  have : (128 : Nat) ^ (9 + 1) = 1180591620717411303424 := by decide
  omega
theorem getD_nat (zs : List Int) (h : ∀ z ∈ zs, 0 ≤ z ∧ z < 18446744073709551616) (k : Nat) (hk : k < zs.length) : ∃ n : Nat, zs.getD k 0 = (n : Int) ∧ n < 18446744073709551616 := by
  have hm : zs.getD k 0 ∈ zs := by
    rw [List.getD_eq_getElem?_getD, List.getElem?_eq_getElem hk]
    exact List.getElem_mem hk
  have := h _ hm
  exact ⟨(zs.getD k 0).toNat, by omega, by omega⟩

theorem len_of_acc {acc t u : List Int} (h : acc ++ t = u) : acc.length ≤ u.length := by rw [← h]; simp

theorem nu_bytes_any (a : Option Addr) (len cap : Nat) (zs : List Int) (w : World) (h : Ints .u64 w a zs) (hl : zs.length = len) (hlen : len ≤ 10000) (hz : ∀ z ∈ zs, 0 ≤ z ∧ z < 18446744073709551616) :
    Calls Tryz.prog 22 #[.slice a len cap] w (Made 5 .u8 w (encAll zs)) := by
  have HL := hide hl
  clear hl
  go_enter Tryz.func22, Tryz.ntmps22
  go_wp2
  go_loopw [3, 5, 8] (fun v n i wr => ∃ k : Nat, k ≤ len ∧ i = .int .i64 k ∧ Own 5 .u8 w.heap.size w wr v (encAll (zs.take k)))
    (fun _ _ i _ => len - (intOf i).toNat)
  case atStart => exact ⟨0, Nat.zero_le _, rfl, Own.start (Nat.le_refl _)⟩
  case round =>
    obtain ⟨k, hk, rfl, hown⟩ := hrel
    by_cases hlt : k < len
    · obtain ⟨b, off, rfl, hc, hb⟩ := h.at (i := k) (by rw [HL.out]; exact hlt)
      have hcx : wr.cell? ⟨b, off + k, none⟩ = some (.int .u64 (zs.getD k 0)) := (hown.bel.cell (by exact hb)).trans hc
      obtain ⟨n, hn, hn64⟩ := getD_nat zs hz k (by rw [HL.out]; exact hlt)
      rw [hn] at hcx
      have hl1 := encAll_len (zs.take k)
      have hl2 := (enc_len n).2
      have hl3 : (zs.take k).length ≤ k := List.length_take_le _ _
      have HT : Hid (encAll (zs.take (k + 1)) = encAll (zs.take k) ++ enc n) := by
        unfold Hid
        rw [List.take_succ_eq_append_getElem (by rw [HL.out]; exact hlt), encAll_append, encAll_one]
        rw [List.getD_eq_getElem?_getD, List.getElem?_eq_getElem (by rw [HL.out]; exact hlt)] at hn
        simp at hn
        rw [hn, Int.toNat_natCast]
      clear hn hc
      go_wp2
      go_loopw [3, 5] (fun v x wi => ∃ (m f : Nat) (acc : List Int), x = .int .u64 m ∧ m < 18446744073709551616 ∧ m < 128 ^ (f + 1) ∧ acc ++ encF f m = enc n ∧
          Own 5 .u8 w.heap.size w wi v (encAll (zs.take k) ++ acc)) (fun _ x _ => (intOf x).toNat)
      case atStart => exact ⟨n, 9, [], rfl, hn64, pow10 hn64, rfl, by simpa using hown⟩
      case round =>
        obtain ⟨m, f, acc, rfl, hm64, hmf, hacc, howni⟩ := hrel
        have hl4 := len_of_acc hacc
        have hl5 : (encAll (zs.take k) ++ acc).length ≤ 100010 := by rw [List.length_append]; omega
        have HA := hide hacc
        clear hacc
        by_cases hm : m < 128
        · go_wp2_with (at_builtin; refine wpList_push elemBytes rfl _ _ rfl rfl rfl howni (by omega) (by omega) ?_; intro v' w1 hown')
          go_roundw
          case rel => exact ⟨k + 1, by omega, by go_num, by
            have e := HA.out
            rw [encF_small _ _ hm] at e
            rw [HT.out, ← e, ← List.append_assoc]
            exact hown'⟩
          case measure => simp [intOf]; omega
        · have e1 := and127 m hm64
          have hm' : (127 : Int) < (m : Int) := by omega
          go_wp2_with (at_builtin; refine wpList_push elemBytes rfl _ _ rfl rfl rfl howni (by omega) (by omega) ?_; intro v' w1 hown')
          obtain ⟨f, rfl⟩ : ∃ f', f = f' + 1 := ⟨f - 1, by rcases f with _ | f <;> simp_all⟩
          go_roundw
          case rel =>
            refine ⟨m / 128, f, acc ++ [((128 + m % 128 : Nat) : Int)], ?_, by omega, ?_, ?_, ?_⟩
            · go_num
            · exact Nat.div_lt_of_lt_mul (by rw [Nat.pow_succ] at hmf; omega)
            · have e := HA.out
              rw [encF_big _ _ hm] at e
              simpa using e
            · rw [← List.append_assoc, ← or128]; exact hown'
          case measure => simp [intOf]; omega
    · go_wp2
      go_ret
      exact ⟨_, rfl, by rw [List.take_of_length_le (by rw [HL.out]; omega)] at hown; exact hown⟩

theorem nu_rbytes_any (n : Nat) (w : World) (hn64 : n < 18446744073709551616) : Calls Tryz.prog 46 #[.int .u64 n] w (Made 5 .u8 w (enc n)) := by
  have hl2 := (enc_len n).2
  go_enter Tryz.func46, Tryz.ntmps46
  go_wp2
  go_loopw [3, 0] (fun v x wi => ∃ (m f : Nat) (acc : List Int), x = .int .u64 m ∧ m < 18446744073709551616 ∧ m < 128 ^ (f + 1) ∧ acc ++ encF f m = enc n ∧
      Own 5 .u8 w.heap.size w wi v acc) (fun _ x _ => (intOf x).toNat)
  case atStart => exact ⟨n, 9, [], rfl, hn64, pow10 hn64, rfl, Own.start (Nat.le_refl _)⟩
  case round =>
    obtain ⟨m, f, acc, rfl, hm64, hmf, hacc, howni⟩ := hrel
    have hl4 := len_of_acc hacc
    have HA := hide hacc
    clear hacc
    by_cases hm : m < 128
    · go_wp2_with (at_builtin; refine wpList_push elemBytes rfl _ _ rfl rfl rfl howni (by omega) (by omega) ?_; intro v' w1 hown')
      go_ret
      refine ⟨_, rfl, ?_⟩
      have e := HA.out
      rw [encF_small _ _ hm] at e
      rw [← e]
      exact hown'
    · have hm' : (127 : Int) < (m : Int) := by omega
      go_wp2_with (at_builtin; refine wpList_push elemBytes rfl _ _ rfl rfl rfl howni (by omega) (by omega) ?_; intro v' w1 hown')
      obtain ⟨f, rfl⟩ : ∃ f', f = f' + 1 := ⟨f - 1, by rcases f with _ | f <;> simp_all⟩
      go_roundw
      case rel =>
        refine ⟨m / 128, f, acc ++ [((128 + m % 128 : Nat) : Int)], ?_, by omega, ?_, ?_, ?_⟩
        · go_num
        · exact Nat.div_lt_of_lt_mul (by rw [Nat.pow_succ] at hmf; omega)
        · have e := HA.out
          rw [encF_big _ _ hm] at e
          simpa using e
        · exact hown'
      case measure => simp [intOf]; omega
end
end Go.Proofs.YtcbdokocnjoilaaGreatDoor
