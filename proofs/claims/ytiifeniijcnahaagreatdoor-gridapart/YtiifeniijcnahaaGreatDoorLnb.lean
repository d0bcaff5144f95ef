/-
  Contract: a line with a mark more at a place (the program's).
  Contract: a line with blanks from a place to another one (the program's).
  Contract: a line with a cell at a place (the program's).
  Contracts: are lines the same, cell by cell (both).
-/
import Derived.Test.YtiifeniijcnahaaGreatDoorLna
import Derived.Test.YtiifeniijcnahaaGreatDoorGen
import Derived.Test.YtiifeniijcnahaaGreatDoorCeb
namespace Go.Proofs.YtiifeniijcnahaaGreatDoor
set_option maxRecDepth 100000
open Go.ChangeShapes Go.WideShapes Go.ChangeAt Go.RowKit
set_option linter.unusedVariables false

/-- .. and told whether. -/
def Lined2 (cs : List Cel) (ok : Bool) (w : World) (e : Ending) (w' : World) : Prop := ∃ g, e = .returned (.tuple #[.slice (some ⟨g, 0, none⟩) cs.length cs.length, .bool ok]) ∧ w.heap.size ≤ g ∧ Whole w' g 40 (flatC .i32 cs) ∧ Below w.heap.size w w'
theorem lmark_no {cs : List Cel} {a r : Int} (h : ¬ (0 ≤ a ∧ a < (cs.length : Int))) : lmarkC cs a r = (cs, false) := by unfold lmarkC; rw [if_neg h]
theorem lmark_yes {cs : List Cel} {k : Nat} {r : Int} {j : Nat} {c : Cel} {ok : Bool} (h : k < cs.length) (hj : mkAt cs k = j) (hm : markC (cAt cs j) r = (c, ok)) : lmarkC cs (k : Int) r = (cs.set j c, ok) := by
  unfold lmarkC; rw [if_pos (by omega), Int.toNat_natCast, hj, hm]
theorem mkAt_same {cs : List Cel} {k : Nat} (h : wAt cs k ≠ 0) : mkAt cs k = k := by unfold mkAt; rw [if_neg (fun q => h q.1)]
theorem mkAt_alone {cs : List Cel} {k : Nat} (h : wAt cs k = 0) (ha : aloneC cs k = true) : mkAt cs k = k := by
  unfold mkAt; rw [if_neg]; rintro ⟨_, h1, h2⟩
  have : aloneC cs k = false := by unfold aloneC; rw [if_neg (by omega), if_pos h]; simp [h2]; omega
  rw [this] at ha; cases ha
theorem mkAt_not {cs : List Cel} {j : Nat} (h : wAt cs (j + 1) = 0) (ha : aloneC cs (j + 1) = false) : mkAt cs (j + 1) = j := by
  obtain ⟨h1, h2⟩ := alone_0 h ha
  unfold mkAt; rw [if_pos ⟨h, by omega, h2⟩]; rfl
theorem wAt_of {cs : List Cel} {k : Nat} {r m y : Int} {d : Nat} {p : Pn} (h : k < cs.length) (hc : cAt cs k = ⟨r, m, y, d, p⟩) : wAt cs k = d := by rw [wAt_in cs k h, hc]
set_option maxRecDepth 100000 in
set_option maxHeartbeats 2000000 in
theorem lmark_any (A : Option Addr) (n c : Nat) (at_ x : Int) (cs : List Cel) (w : World) (h : Cels .i32 w A cs) (hn : cs.length = n) (hl : n ≤ 1000000) (hS : Spans w) :
    Calls Tryz.prog 79 #[.slice A n c, .int .i64 at_, .int .i32 x] w (Lined2 (lmarkC cs at_ x).1 (lmarkC cs at_ x).2 w) := by
  have HC := hide h
  have HN := hide hn
  have HS := hide hS
  clear h hn hS
  by_cases hin : 0 ≤ at_ ∧ at_ < (n : Int)
  · obtain ⟨k, rfl⟩ : ∃ k : Nat, at_ = (k : Int) := ⟨at_.toNat, by omega⟩
    have hk : k < n := by omega
    clear hin
    by_cases h0 : wAt cs k = 0
    · cases hal : aloneC cs k
      · obtain ⟨j, rfl⟩ : ∃ j, k = j + 1 := ⟨k - 1, by have := (alone_0 h0 hal).1; omega⟩
        have HJ := hide (mkAt_not h0 hal)
        have HAL := hide hal
        have e0 : ((wAt cs (j + 1) : Int) == 0) = true := by simp; omega
        clear h0 hal
        go_enter Tryz.func79, Tryz.ntmps79
        go_wp2_with fail
        refine (copied_any A n c cs w HC.out HN.out hl).mono ?_
        rintro e w1 ⟨g, rfl, hg, hw, hb⟩
        have HW1 := hide hw
        have HB1 := hide hb
        have HG := hide hg
        have HS1 := hide (HS.out.below hb)
        clear hw hb hg
        rw [HN.out]
        have c3 := HW1.out.cels.wide (j + 1) (by rw [HN.out]; exact hk)
        simp only [Nat.zero_add] at c3
        go_wp2_with fail
        refine (alone_any (some ⟨g, 0, none⟩) n n (j + 1) cs w1 HW1.out.cels HN.out (by omega) hl).mono ?_
        rintro e w2 ⟨rfl, rfl⟩
        rw [HAL.out]
        clear c3
        obtain ⟨⟨r, m, y, d, ⟨f, z, b⟩⟩, hc⟩ : ∃ q, cAt cs j = q := ⟨_, rfl⟩
        obtain ⟨⟨⟨r1, m1, y1, d1, ⟨f1, z1, b1⟩⟩, ok⟩, hm⟩ : ∃ q, markC (cAt cs j) x = q := ⟨_, rfl⟩
        have HE := hide (lmark_yes (by rw [HN.out]; omega) HJ.out hm)
        rw [hc] at hm
        have HM := hide hm
        clear hm
        obtain ⟨a0, a1, a2, a3, a4, a5, a6, -⟩ := HW1.out.sevenC (j * 7) j rfl (by rw [HN.out]; omega) hc
        clear hc
        go_wp2_with fail
        refine (cmark_v r m y d f z b x r1 m1 y1 d1 f1 z1 b1 ok HM.out w1 HS1.out).mono ?_
        rintro e w2 ⟨rfl, hb⟩
        clear a0 a1 a2 a3 a4 a5 a6
        have HW2 := hide (HW1.out.later hb)
        have HB2 := hide (HB1.out.trans (hb.mono HB1.out.size))
        have l2 : g < w2.heap.size := (HW1.out.later hb).lt
        obtain ⟨b0, b1', b2, b3, b4, b5, b6, b7⟩ := (HW1.out.later hb).seven (j * 7) j rfl (by rw [HN.out]; omega)
        clear hb
        go_wp2
        go_ret2
        refine ⟨g, by rw [HE.out]; simp only [List.length_set]; rw [HN.out]; rfl, HG.out, ?_, ?_⟩
        · rw [HE.out]; exact (put_cell HW2.out _ j rfl (by rw [HN.out]; omega) ⟨r1, m1, y1, d1, ⟨f1, z1, b1⟩⟩).alloc _
        · have hb9 := (only_cell (j * 7) (.int .i32 r1) (.int .i32 m1) (.int .i32 y1) (.int .u8 (d1 : Int)) (.int .u8 (f1 : Int)) (.int .u8 (z1 : Int)) (.int .u8 (b1 : Int))).below HB2.out HB2.out.size HG.out
          exact hb9.alloc hb9.size _
      · have HJ := hide (mkAt_alone h0 hal)
        have HAL := hide hal
        have e0 : ((wAt cs k : Int) == 0) = true := by simp; omega
        clear h0 hal
        go_enter Tryz.func79, Tryz.ntmps79
        go_wp2_with fail
        refine (copied_any A n c cs w HC.out HN.out hl).mono ?_
        rintro e w1 ⟨g, rfl, hg, hw, hb⟩
        have HW1 := hide hw
        have HB1 := hide hb
        have HG := hide hg
        have HS1 := hide (HS.out.below hb)
        clear hw hb hg
        rw [HN.out]
        have c3 := HW1.out.cels.wide k (by rw [HN.out]; exact hk)
        simp only [Nat.zero_add] at c3
        go_wp2_with fail
        refine (alone_any (some ⟨g, 0, none⟩) n n k cs w1 HW1.out.cels HN.out (by omega) hl).mono ?_
        rintro e w2 ⟨rfl, rfl⟩
        rw [HAL.out]
        clear c3
        obtain ⟨⟨r, m, y, d, ⟨f, z, b⟩⟩, hc⟩ : ∃ q, cAt cs k = q := ⟨_, rfl⟩
        obtain ⟨⟨⟨r1, m1, y1, d1, ⟨f1, z1, b1⟩⟩, ok⟩, hm⟩ : ∃ q, markC (cAt cs k) x = q := ⟨_, rfl⟩
        have HE := hide (lmark_yes (by rw [HN.out]; omega) HJ.out hm)
        rw [hc] at hm
        have HM := hide hm
        clear hm
        obtain ⟨a0, a1, a2, a3, a4, a5, a6, -⟩ := HW1.out.sevenC (k * 7) k rfl (by rw [HN.out]; omega) hc
        clear hc
        go_wp2_with fail
        refine (cmark_v r m y d f z b x r1 m1 y1 d1 f1 z1 b1 ok HM.out w1 HS1.out).mono ?_
        rintro e w2 ⟨rfl, hb⟩
        clear a0 a1 a2 a3 a4 a5 a6
        have HW2 := hide (HW1.out.later hb)
        have HB2 := hide (HB1.out.trans (hb.mono HB1.out.size))
        have l2 : g < w2.heap.size := (HW1.out.later hb).lt
        obtain ⟨b0, b1', b2, b3, b4, b5, b6, b7⟩ := (HW1.out.later hb).seven (k * 7) k rfl (by rw [HN.out]; omega)
        clear hb
        go_wp2
        go_ret2
        refine ⟨g, by rw [HE.out]; simp only [List.length_set]; rw [HN.out]; rfl, HG.out, ?_, ?_⟩
        · rw [HE.out]; exact (put_cell HW2.out _ k rfl (by rw [HN.out]; omega) ⟨r1, m1, y1, d1, ⟨f1, z1, b1⟩⟩).alloc _
        · have hb9 := (only_cell (k * 7) (.int .i32 r1) (.int .i32 m1) (.int .i32 y1) (.int .u8 (d1 : Int)) (.int .u8 (f1 : Int)) (.int .u8 (z1 : Int)) (.int .u8 (b1 : Int))).below HB2.out HB2.out.size HG.out
          exact hb9.alloc hb9.size _
    · have HJ := hide (mkAt_same h0)
      have HZ : Hid (((wAt cs k : Int) == 0) = false) := by unfold Hid; simp; omega
      clear h0
      go_enter Tryz.func79, Tryz.ntmps79
      go_wp2_with fail
      refine (copied_any A n c cs w HC.out HN.out hl).mono ?_
      rintro e w1 ⟨g, rfl, hg, hw, hb⟩
      have HW1 := hide hw
      have HB1 := hide hb
      have HG := hide hg
      have HS1 := hide (HS.out.below hb)
      clear hw hb hg
      rw [HN.out]
      obtain ⟨⟨r, m, y, d, ⟨f, z, b⟩⟩, hc⟩ : ∃ q, cAt cs k = q := ⟨_, rfl⟩
      obtain ⟨⟨⟨r1, m1, y1, d1, ⟨f1, z1, b1⟩⟩, ok⟩, hm⟩ : ∃ q, markC (cAt cs k) x = q := ⟨_, rfl⟩
      have HE := hide (lmark_yes (by rw [HN.out]; omega) HJ.out hm)
      rw [hc] at hm
      have HM := hide hm
      clear hm
      obtain ⟨a0, a1, a2, a3, a4, a5, a6, -⟩ := HW1.out.sevenC (k * 7) k rfl (by rw [HN.out]; omega) hc
      have e0 : ((d : Int) == 0) = false := by rw [← wAt_of (by rw [HN.out]; exact hk) hc]; exact HZ.out
      clear hc
      go_wp2_with fail
      refine (cmark_v r m y d f z b x r1 m1 y1 d1 f1 z1 b1 ok HM.out w1 HS1.out).mono ?_
      rintro e w2 ⟨rfl, hb⟩
      clear a0 a1 a2 a3 a4 a5 a6
      have HW2 := hide (HW1.out.later hb)
      have HB2 := hide (HB1.out.trans (hb.mono HB1.out.size))
      have l2 : g < w2.heap.size := (HW1.out.later hb).lt
      obtain ⟨b0, b1', b2, b3, b4, b5, b6, b7⟩ := (HW1.out.later hb).seven (k * 7) k rfl (by rw [HN.out]; omega)
      clear hb
      go_wp2
      go_ret2
      refine ⟨g, by rw [HE.out]; simp only [List.length_set]; rw [HN.out]; rfl, HG.out, ?_, ?_⟩
      · rw [HE.out]; exact (put_cell HW2.out _ k rfl (by rw [HN.out]; omega) ⟨r1, m1, y1, d1, ⟨f1, z1, b1⟩⟩).alloc _
      · have hb9 := (only_cell (k * 7) (.int .i32 r1) (.int .i32 m1) (.int .i32 y1) (.int .u8 (d1 : Int)) (.int .u8 (f1 : Int)) (.int .u8 (z1 : Int)) (.int .u8 (b1 : Int))).below HB2.out HB2.out.size HG.out
        exact hb9.alloc hb9.size _
  · have HE := hide (lmark_no (r := x) (by rw [HN.out]; exact hin))
    by_cases h0 : at_ < 0
    · clear hin
      go_enter Tryz.func79, Tryz.ntmps79
      go_wp2_with fail
      refine (copied_any A n c cs w HC.out HN.out hl).mono ?_
      rintro e w1 ⟨g, rfl, hg, hw, hb⟩
      have HW1 := hide hw
      have HB1 := hide hb
      have HG := hide hg
      have HS1 := hide (HS.out.below hb)
      clear hw hb hg
      rw [HN.out]
      go_wp2
      go_ret2
      exact ⟨g, by rw [HE.out]; simp only; rw [HN.out]; rfl, HG.out, by rw [HE.out]; exact HW1.out, HB1.out⟩
    · have h1 : (n : Int) ≤ at_ := by omega
      clear hin
      go_enter Tryz.func79, Tryz.ntmps79
      go_wp2_with fail
      refine (copied_any A n c cs w HC.out HN.out hl).mono ?_
      rintro e w1 ⟨g, rfl, hg, hw, hb⟩
      have HW1 := hide hw
      have HB1 := hide hb
      have HG := hide hg
      have HS1 := hide (HS.out.below hb)
      clear hw hb hg
      rw [HN.out]
      go_wp2
      go_ret2
      exact ⟨g, by rw [HE.out]; simp only; rw [HN.out]; rfl, HG.out, by rw [HE.out]; exact HW1.out, HB1.out⟩
end Go.Proofs.YtiifeniijcnahaaGreatDoor

namespace Go.Proofs.YtiifeniijcnahaaGreatDoor
set_option maxRecDepth 100000
open Go.ChangeShapes Go.WideShapes Go.ChangeAt Go.RowKit
set_option linter.unusedVariables false

set_option maxRecDepth 100000 in
set_option maxHeartbeats 1000000 in
theorem hold_any (x : Int) (q n : Nat) (A : Option Addr) (c : Nat) (w : World) (h : w.cell? ⟨q, 0, none⟩ = some (.slice A n c)) (m : Nat) (hm : min (max x 0) (n : Int) = (m : Int)) :
    Calls Tryz.prog 96 #[.int .i64 x, .pointer (some ⟨q, 0, none⟩)] w fun e w' => e = .returned (.int .i64 (m : Int)) ∧ w = w' := by
  go_enter Tryz.func96, Tryz.ntmps96
  go_wp2
  go_ret
  exact ⟨rfl, rfl⟩
/-- A number brought to 0 to n. -/
def clampN (x : Int) (n : Nat) : Nat := (min (max x 0) (n : Int)).toNat
theorem clampN_is (x : Int) (n : Nat) : min (max x 0) (n : Int) = (clampN x n : Int) := by unfold clampN; omega
theorem clampN_le (x : Int) (n : Nat) : clampN x n ≤ n := by unfold clampN; omega
theorem fill_erase (cs : List Cel) (x y : Int) (p : Pn) (n : Nat) (hn : cs.length = n) (h : clampN x n < clampN y n) : fillC cs (clampN x n) (clampN y n - clampN x n) (blankC p) = eraseTab cs x y p := by
  unfold fillC eraseTab
  refine tab_eq fun i hi => ?_
  unfold clampN at *
  by_cases q : x ≤ (i : Int) ∧ (i : Int) < y
  · rw [if_pos q, if_pos (by omega)]
  · rw [if_neg q, if_neg (by omega)]
theorem none_erase (cs : List Cel) (x y : Int) (p : Pn) (n : Nat) (hn : cs.length = n) (h : ¬ clampN x n < clampN y n) : eraseTab cs x y p = cs := by
  unfold eraseTab
  conv => rhs; rw [← tab_self cs]
  refine tab_eq fun i hi => ?_
  unfold clampN at *
  rw [if_neg (by omega)]
theorem eraseTab_len (cs : List Cel) (x y : Int) (p : Pn) : (eraseTab cs x y p).length = cs.length := tab_len _ _
theorem erase_len (cs : List Cel) (x y : Int) (p : Pn) : (eraseC cs x y p).length = cs.length := by unfold eraseC; rw [mend_len, eraseTab_len]
set_option maxRecDepth 100000 in
set_option maxHeartbeats 2000000 in
theorem erase_any (A : Option Addr) (n c : Nat) (x y : Int) (f g b : Nat) (cs : List Cel) (w : World) (h : Cels .i32 w A cs) (hn : cs.length = n) (hl : n ≤ 1000000) :
    Calls Tryz.prog 65 #[.slice A n c, .int .i64 x, .int .i64 y, .agg #[.int .u8 (f : Int), .int .u8 (g : Int), .int .u8 (b : Int)]] w (Lined (eraseC cs x y ⟨f, g, b⟩) w) := by
  have HC := hide h
  have HN := hide hn
  obtain ⟨X, hX⟩ : ∃ X, clampN x n = X := ⟨_, rfl⟩
  obtain ⟨Y, hY⟩ : ∃ Y, clampN y n = Y := ⟨_, rfl⟩
  have HX : Hid (min (max x 0) (n : Int) = (X : Int)) := by unfold Hid; rw [clampN_is, hX]
  have HY : Hid (min (max y 0) (n : Int) = (Y : Int)) := by unfold Hid; rw [clampN_is, hY]
  have hYn : Y ≤ n := by rw [← hY]; exact clampN_le y n
  have HF : Hid (X < Y → fillC cs X (Y - X) (blankC ⟨f, g, b⟩) = eraseTab cs x y ⟨f, g, b⟩) := by
    unfold Hid; intro q; rw [← hX, ← hY] at q ⊢; exact fill_erase cs x y _ n hn q
  have HE : Hid (¬ X < Y → eraseTab cs x y ⟨f, g, b⟩ = cs) := by
    unfold Hid; intro q; rw [← hX, ← hY] at q; exact none_erase cs x y _ n hn q
  clear hX hY
  obtain ⟨W0, hW0⟩ : ∃ W0, w.alloc (.cells #[.int .u8 (f : Int), .int .u8 (g : Int), .int .u8 (b : Int)] 38) = W0 := ⟨_, rfl⟩
  have HB0 : Hid (Below w.heap.size w W0) := by unfold Hid; rw [← hW0]; exact (Below.refl _ _).alloc (Nat.le_refl _) _
  have HP0 : Hid (Whole W0 w.heap.size 38 [.int .u8 (f : Int), .int .u8 (g : Int), .int .u8 (b : Int)]) := by unfold Hid; rw [← hW0]; exact Whole.new w 38 [.int .u8 (f : Int), .int .u8 (g : Int), .int .u8 (b : Int)]
  have HC0 : Hid (Cels .i32 W0 A cs) := by unfold Hid; rw [← hW0]; exact HC.out.alloc _
  have HW0 := hide hW0
  clear h hn hW0 HC
  go_enter Tryz.func65, Tryz.ntmps65
  go_wp2_with fail
  rw [HW0.out]
  refine (copied_any A n c cs W0 HC0.out HN.out hl).mono ?_
  rintro e w1 ⟨g1, rfl, hg, hw, hb⟩
  rw [HN.out]
  obtain ⟨W1, hW1⟩ : ∃ W1, w1.alloc (.cells #[.slice (some ⟨g1, 0, none⟩) n n] 41) = W1 := ⟨_, rfl⟩
  have HB1 : Hid (Below w.heap.size w W1) := by unfold Hid; rw [← hW1]; have q := HB0.out.trans (hb.mono HB0.out.size); exact q.alloc q.size _
  have HP1 : Hid (Whole W1 w.heap.size 38 [.int .u8 (f : Int), .int .u8 (g : Int), .int .u8 (b : Int)]) := by unfold Hid; rw [← hW1]; exact (HP0.out.later hb).alloc _
  have HG1 : Hid (Whole W1 g1 40 (flatC .i32 cs)) := by unfold Hid; rw [← hW1]; exact hw.alloc _
  have HQ1 : Hid (Whole W1 w1.heap.size 41 [.slice (some ⟨g1, 0, none⟩) n n]) := by unfold Hid; rw [← hW1]; exact Whole.new w1 41 [.slice (some ⟨g1, 0, none⟩) n n]
  have HG : Hid (w.heap.size ≤ g1) := by unfold Hid; exact Nat.le_trans HB0.out.size hg
  have HNP : Hid (w.heap.size ≠ g1) := by unfold Hid; have := HP0.out.lt; omega
  have HNQ : Hid (w1.heap.size ≠ g1) := by unfold Hid; have := hw.lt; omega
  have HW1 := hide hW1
  clear hg hw hb hW1
  go_wp2_with fail
  rw [HW1.out]
  refine (hold_any x w1.heap.size n (some ⟨g1, 0, none⟩) n W1 (HQ1.out.cell 0) X HX.out).mono ?_
  rintro e w2 ⟨rfl, rfl⟩
  go_wp2_with fail
  refine (hold_any y w1.heap.size n (some ⟨g1, 0, none⟩) n W1 (HQ1.out.cell 0) Y HY.out).mono ?_
  rintro e w2 ⟨rfl, rfl⟩
  by_cases hXY : X < Y
  · have HD := hide (HF.out hXY)
    go_wp2
    refine wp_region_chainH (fun w' => Only g1 W1 w') [(true, 1), (true, 2), (true, 0), (true, 4), (false, 3), (false, 5), (false, 6)] (by kernel_rfl) (by kernel_rfl) (by kernel_rfl) (fun _ _ _ _ _ h => h) ?_ ?_
    · exact Only.of_below ((Below.refl _ _).drewN 1)
    refine chainH_take (v := ?_) (by simp only [List.getElem?_toArray, List.getElem?_cons_zero, List.getElem?_cons_succ]; rfl) (by rfl) (fun w hS => ?_) ?_
    rotate_left
    · go_simp <;> with_reducible rfl
    simp only [Act.put, List.setIfInBounds_toArray, List.set_cons_zero, List.set_cons_succ]
    refine chainH_take (v := ?_) (by simp only [List.getElem?_toArray, List.getElem?_cons_zero, List.getElem?_cons_succ]; rfl) (by rfl) (fun w hS => ?_) ?_
    rotate_left
    · go_simp <;> with_reducible rfl
    simp only [Act.put, List.setIfInBounds_toArray, List.set_cons_zero, List.set_cons_succ]
    refine chainH_take (v := ?_) (by simp only [List.getElem?_toArray, List.getElem?_cons_zero]; rfl) (by rfl) (fun w hS => ?_) ?_
    rotate_left
    · have f0 := (HQ1.out.far hS HNQ.out).cell 0; go_simp <;> with_reducible rfl
    simp only [Act.put, List.setIfInBounds_toArray, List.set_cons_zero, List.set_cons_succ]
    refine chainH_take (v := ?_) (by simp only [List.getElem?_toArray, List.getElem?_cons_zero, List.getElem?_cons_succ]; rfl) (by rfl) (fun w hS => ?_) ?_
    rotate_left
    · obtain ⟨a0, a1, a2, -⟩ := cells3 (HP1.out.far hS HNP.out); go_simp <;> with_reducible rfl
    simp only [Act.put, List.setIfInBounds_toArray, List.set_cons_zero, List.set_cons_succ]
    refine chainH_alone (by simp only [List.getElem?_toArray, List.getElem?_cons_zero, List.getElem?_cons_succ]; rfl) ?_
    intro K hK
    go_wp2_with fail
    refine (cut_any g1 n X Y _ hXY hYn).mono ?_
    rintro e k1 ⟨rfl, rfl⟩
    have Ok1 : Only g1 W1 W1.drew := Only.of_below ((Below.refl _ _).drewN 1)
    go_wp2
    refine hK.out _ _ Ok1 ?_
    clear hK K
    refine chainH_alone (by simp only [List.getElem?_toArray, List.getElem?_cons_zero, List.getElem?_cons_succ]; rfl) ?_
    intro K hK
    go_wp2_with fail
    refine (blank_v f g b _).mono ?_
    rintro e k2 ⟨rfl, hb⟩
    have Ok2 : Only g1 W1 k2 := Ok1.trans (Only.of_below hb)
    have Wk2 := hide ((HG1.out.drewN 1).later (w' := k2) hb)
    clear hb
    go_wp2
    refine hK.out _ _ Ok2 ?_
    clear hK K
    refine chainH_alone (by simp only [List.getElem?_toArray, List.getElem?_cons_zero, List.getElem?_cons_succ]; rfl) ?_
    intro K hK
    go_wp2_with fail
    refine (fill_any g1 X (Y - X) (Y - X) 32 0 0 1 f g b cs k2 Wk2.out (by rw [HN.out]; omega) (by rw [HN.out]; exact hl)).mono ?_
    rintro e k3 ⟨rfl, hw3, ho3⟩
    have Ok3 : Only g1 W1 k3 := Ok2.trans ho3
    have Wk3 : Hid (Whole k3 g1 40 (flatC .i32 (eraseTab cs x y ⟨f, g, b⟩))) := by unfold Hid; rw [← HD.out]; exact hw3
    have HO3 := hide Ok3
    clear hw3 ho3
    go_wp2
    refine hK.out _ _ Ok3 ?_
    clear hK K
    refine chainH_nil ?_
    clear Ok1 Ok2 Ok3
    have f0 := (HQ1.out.far HO3.out HNQ.out).cell 0
    simp only [List.getElem?_cons_zero] at f0
    go_wp2_with fail
    refine (mendown_any g1 n (eraseTab cs x y ⟨f, g, b⟩) k3 Wk3.out (by rw [eraseTab_len, HN.out]) hl).mono ?_
    rintro e k4 ⟨rfl, hw, ho⟩
    clear f0
    go_wp2
    go_ret
    exact ⟨g1, by rw [erase_len, HN.out]; rfl, HG.out, hw, (HO3.out.trans ho).below HB1.out HB1.out.size HG.out⟩
  · have HD := hide (HE.out hXY)
    have f0 := HQ1.out.cell 0
    simp only [List.getElem?_cons_zero] at f0
    go_wp2_with fail
    refine (mendown_any g1 n cs W1 HG1.out HN.out hl).mono ?_
    rintro e k4 ⟨rfl, hw, ho⟩
    clear f0
    go_wp2
    go_ret
    exact ⟨g1, by rw [erase_len, HN.out]; rfl, HG.out, by unfold eraseC; rw [HD.out]; exact hw, ho.below HB1.out HB1.out.size HG.out⟩
end Go.Proofs.YtiifeniijcnahaaGreatDoor

namespace Go.Proofs.YtiifeniijcnahaaGreatDoor
set_option maxRecDepth 100000
open Go.ChangeShapes Go.WideShapes Go.ChangeAt Go.RowKit
set_option linter.unusedVariables false

theorem putOk_no {cs : List Cel} {a : Int} {c : Cel} (h : ¬ (rightC c = true ∧ c.w ≠ 0 ∧ 0 ≤ a ∧ a + (c.w : Int) ≤ (cs.length : Int))) : putOk cs a c = false := by unfold putOk; exact decide_eq_false h
theorem putOk_yes {cs : List Cel} {a : Int} {c : Cel} (h : rightC c = true ∧ c.w ≠ 0 ∧ 0 ≤ a ∧ a + (c.w : Int) ≤ (cs.length : Int)) : putOk cs a c = true := by unfold putOk; exact decide_eq_true h
theorem put_no {cs : List Cel} {a : Int} {c : Cel} (h : putOk cs a c = false) : putC cs a c = cs := by unfold putC; rw [h]; simp
theorem put_yes {cs : List Cel} {a : Int} {c : Cel} (h : putOk cs a c = true) : putC cs a c = mendC (putTab cs a.toNat c) := by unfold putC; rw [if_pos h]
theorem putTab_len (cs : List Cel) (k : Nat) (c : Cel) : (putTab cs k c).length = cs.length := tab_len _ _
theorem put_len (cs : List Cel) (a : Int) (c : Cel) : (putC cs a c).length = cs.length := by
  unfold putC; split
  · rw [mend_len, putTab_len]
  · rfl
theorem lay_put (cs : List Cel) (k : Nat) (c : Cel) (hw : c.w = 1 ∨ c.w = 2) (h : k + c.w ≤ cs.length) : layC cs k ([c, restC c].take c.w) = putTab cs k c := by
  have hl : ([c, restC c].take c.w).length = c.w := by simp; omega
  rw [lay_tab _ _ _ (by omega), hl]
  unfold putTab
  refine tab_eq fun i hi => ?_
  rcases hw with hw | hw
  · rw [hw]
    by_cases h1 : i = k
    · subst h1; rw [if_pos (by omega), if_pos rfl]; unfold cAt; simp
    · rw [if_neg (by omega), if_neg h1, if_neg (by omega)]
  · rw [hw]
    by_cases h1 : i = k
    · subst h1; rw [if_pos (by omega), if_pos rfl]; unfold cAt; simp
    · by_cases h2 : i = k + 1
      · subst h2; rw [if_pos (by omega), if_neg h1, if_pos ⟨rfl, rfl⟩, show k + 1 - k = 1 by omega]; unfold cAt; simp
      · rw [if_neg (by omega), if_neg h1, if_neg (by omega)]
theorem cels_two (w : World) (t : TypeId) (c d : Cel) : Cels .i32 (w.alloc (.cells #[.int .i32 c.r, .int .i32 c.m, .int .i32 c.n, .int .u8 (c.w : Int), .int .u8 (c.p.f : Int), .int .u8 (c.p.g : Int), .int .u8 (c.p.b : Int), .int .i32 d.r, .int .i32 d.m, .int .i32 d.n, .int .u8 (d.w : Int), .int .u8 (d.p.f : Int), .int .u8 (d.p.g : Int), .int .u8 (d.p.b : Int)] t)) (some ⟨w.heap.size, 0, none⟩) [c, d] :=
  (Whole.new w t (flatC .i32 [c, d])).cels
set_option maxRecDepth 100000 in
set_option maxHeartbeats 4000000 in
theorem put_any (A : Option Addr) (n c : Nat) (at_ : Int) (r m x : Int) (d f g b : Nat) (hd : d < 256) (cs : List Cel) (w : World) (h : Cels .i32 w A cs) (hn : cs.length = n) (hl : n ≤ 1000000) (hS : Spans w) (ha : -9223372036854775808 ≤ at_ ∧ at_ < 9223372036854775808) :
    Calls Tryz.prog 71 #[.slice A n c, .int .i64 at_, .agg #[.int .i32 r, .int .i32 m, .int .i32 x, .int .u8 (d : Int), .int .u8 (f : Int), .int .u8 (g : Int), .int .u8 (b : Int)]] w (Lined2 (putC cs at_ ⟨r, m, x, d, ⟨f, g, b⟩⟩) (putOk cs at_ ⟨r, m, x, d, ⟨f, g, b⟩⟩) w) := by
  have HN := hide hn
  obtain ⟨W0, hW0⟩ : ∃ W0, w.alloc (.cells #[.int .i32 r, .int .i32 m, .int .i32 x, .int .u8 (d : Int), .int .u8 (f : Int), .int .u8 (g : Int), .int .u8 (b : Int)] 40) = W0 := ⟨_, rfl⟩
  have HB0 : Hid (Below w.heap.size w W0) := by unfold Hid; rw [← hW0]; exact (Below.refl _ _).alloc (Nat.le_refl _) _
  have HP0 : Hid (Whole W0 w.heap.size 40 [.int .i32 r, .int .i32 m, .int .i32 x, .int .u8 (d : Int), .int .u8 (f : Int), .int .u8 (g : Int), .int .u8 (b : Int)]) := by unfold Hid; rw [← hW0]; exact Whole.new w 40 [.int .i32 r, .int .i32 m, .int .i32 x, .int .u8 (d : Int), .int .u8 (f : Int), .int .u8 (g : Int), .int .u8 (b : Int)]
  have HC0 : Hid (Cels .i32 W0 A cs) := by unfold Hid; rw [← hW0]; exact h.alloc _
  have HS0 : Hid (Spans W0) := by unfold Hid; rw [← hW0]; exact hS.alloc _
  have HW0 := hide hW0
  obtain ⟨R, hR⟩ : ∃ R, rightC ⟨r, m, x, d, ⟨f, g, b⟩⟩ = R := ⟨_, rfl⟩
  have key : (R = false ∧ putOk cs at_ ⟨r, m, x, d, ⟨f, g, b⟩⟩ = false) ∨ (R = true ∧ d = 0 ∧ putOk cs at_ ⟨r, m, x, d, ⟨f, g, b⟩⟩ = false) ∨ (R = true ∧ d ≠ 0 ∧ at_ < 0 ∧ putOk cs at_ ⟨r, m, x, d, ⟨f, g, b⟩⟩ = false) ∨ (R = true ∧ d ≠ 0 ∧ 0 ≤ at_ ∧ (n : Int) - d < at_ ∧ putOk cs at_ ⟨r, m, x, d, ⟨f, g, b⟩⟩ = false) ∨ (R = true ∧ d ≠ 0 ∧ 0 ≤ at_ ∧ at_ ≤ (n : Int) - d ∧ putOk cs at_ ⟨r, m, x, d, ⟨f, g, b⟩⟩ = true) := by
    cases R
    · exact .inl ⟨rfl, putOk_no (by rw [hR]; simp)⟩
    · by_cases h0 : d = 0
      · exact .inr (.inl ⟨rfl, h0, putOk_no (by simp [h0])⟩)
      · by_cases h1 : at_ < 0
        · exact .inr (.inr (.inl ⟨rfl, h0, h1, putOk_no (by rintro ⟨_, _, q, _⟩; omega)⟩))
        · by_cases h2 : (n : Int) - d < at_
          · exact .inr (.inr (.inr (.inl ⟨rfl, h0, by omega, h2, putOk_no (by rintro ⟨_, _, _, q⟩; simp only at q; omega)⟩)))
          · exact .inr (.inr (.inr (.inr ⟨rfl, h0, by omega, by omega, putOk_yes ⟨hR, h0, by omega, by simp only; omega⟩⟩)))
  have HR := hide hR
  clear h hn hW0 hS hR
  go_enter Tryz.func71, Tryz.ntmps71
  go_wp2
  rw [HW0.out]
  refine wp_region_chainH (fun w' => Below W0.heap.size W0 w') [(true, 0), (true, 2), (true, 3), (true, 4), (false, 1), (false, 5), (false, 6)] (by kernel_rfl) (by kernel_rfl) (by kernel_rfl) (fun _ _ _ _ _ h => h) ?_ ?_
  · exact (Below.refl _ _).drewN 1
  refine chainH_take (v := ?_) (by simp only [List.getElem?_toArray, List.getElem?_cons_zero]; rfl) (by rfl) (fun w hS => ?_) ?_
  rotate_left
  · go_simp <;> with_reducible rfl
  simp only [Act.put, List.setIfInBounds_toArray, List.set_cons_zero, List.set_cons_succ]
  refine chainH_take (v := ?_) (by simp only [List.getElem?_toArray, List.getElem?_cons_zero, List.getElem?_cons_succ]; rfl) (by rfl) (fun w hS => ?_) ?_
  rotate_left
  · go_simp <;> with_reducible rfl
  simp only [Act.put, List.setIfInBounds_toArray, List.set_cons_zero, List.set_cons_succ]
  refine chainH_take (v := ?_) (by simp only [List.getElem?_toArray, List.getElem?_cons_zero, List.getElem?_cons_succ]; rfl) (by rfl) (fun w hS => ?_) ?_
  rotate_left
  · have f3 := (HP0.out.later hS).cell 3; simp only [List.getElem?_cons_zero, List.getElem?_cons_succ] at f3; go_simp <;> with_reducible rfl
  simp only [Act.put, List.setIfInBounds_toArray, List.set_cons_zero, List.set_cons_succ]
  refine chainH_take (v := ?_) (by simp only [List.getElem?_toArray, List.getElem?_cons_zero, List.getElem?_cons_succ]; rfl) (by rfl) (fun w hS => ?_) ?_
  rotate_left
  · go_simp <;> with_reducible rfl
  simp only [Act.put, List.setIfInBounds_toArray, List.set_cons_zero, List.set_cons_succ]
  refine chainH_alone (by simp only [List.getElem?_toArray, List.getElem?_cons_zero, List.getElem?_cons_succ]; rfl) ?_
  intro K hK
  go_wp2_with fail
  refine (copied_any A n c cs _ (HC0.out.drewN 1) HN.out hl).mono ?_
  rintro e k1 ⟨g1, rfl, hg, hw, hb⟩
  rw [HN.out]
  have Bk1 : Below W0.heap.size W0 k1 := ((Below.refl _ _).drewN 1).trans hb
  have HG1 := hide hw
  have HGE : Hid (W0.heap.size ≤ g1) := hg
  clear hb hw hg
  go_wp2
  refine hK.out _ _ Bk1 ?_
  clear hK K
  refine chainH_alone (by simp only [List.getElem?_toArray, List.getElem?_cons_zero, List.getElem?_cons_succ]; rfl) ?_
  intro K hK
  go_wp2
  refine hK.out _ _ Bk1 ?_
  clear hK K
  refine chainH_alone (by simp only [List.getElem?_toArray, List.getElem?_cons_zero, List.getElem?_cons_succ]; rfl) ?_
  intro K hK
  go_wp2
  refine hK.out _ _ Bk1 ?_
  clear hK K
  refine chainH_nil ?_
  have HB1 := hide (HB0.out.trans (Bk1.mono HB0.out.size))
  have HS1 := hide (HS0.out.below Bk1)
  have HP1 := hide (HP0.out.later Bk1)
  have HG : Hid (w.heap.size ≤ g1) := by unfold Hid; exact Nat.le_trans HB0.out.size HGE.out
  have HNP : Hid (w.heap.size ≠ g1) := by unfold Hid; have := HP0.out.lt; have := HGE.out; omega
  clear Bk1
  obtain ⟨a0, a1, a2, a3, a4, a5, a6, -⟩ := cells7 HP1.out
  go_wp2_with fail
  refine (cright_any r m x d f g b hd k1 HS1.out).mono ?_
  rintro e w2 ⟨rfl, hb⟩
  rw [HR.out]
  clear a0 a1 a2 a3 a4 a5 a6
  have HB2 := hide (HB1.out.trans (hb.mono HB1.out.size))
  have HP2 := hide (HP1.out.later hb)
  have HG2 := hide (HG1.out.later hb)
  clear hb HS0 HC0 HP0 HB0 HS1 HP1 HG1 HB1
  obtain ⟨a0, a1, a2, a3, a4, a5, a6, -⟩ := cells7 HP2.out
  rcases key with ⟨rfl, hk⟩ | ⟨rfl, h0, hk⟩ | ⟨rfl, h0, h1, hk⟩ | ⟨rfl, h0, h1, h2, hk⟩ | ⟨rfl, h0, h1, h2, hk⟩
  · have HK := hide hk
    clear hk
    go_wp2
    go_ret2
    exact ⟨g1, by rw [HK.out, put_no HK.out, HN.out]; rfl, HG.out, by rw [put_no HK.out]; exact HG2.out, HB2.out⟩
  · have HK := hide hk
    have e0 : ((d : Int) == 0) = true := by simp; omega
    clear hk h0
    go_wp2
    go_ret2
    exact ⟨g1, by rw [HK.out, put_no HK.out, HN.out]; rfl, HG.out, by rw [put_no HK.out]; exact HG2.out, HB2.out⟩
  · have HK := hide hk
    have e0 : ((d : Int) == 0) = false := by simp; omega
    clear hk h0
    go_wp2
    go_ret2
    exact ⟨g1, by rw [HK.out, put_no HK.out, HN.out]; rfl, HG.out, by rw [put_no HK.out]; exact HG2.out, HB2.out⟩
  · have HK := hide hk
    have e0 : ((d : Int) == 0) = false := by simp; omega
    clear hk h0
    go_wp2
    go_ret2
    exact ⟨g1, by rw [HK.out, put_no HK.out, HN.out]; rfl, HG.out, by rw [put_no HK.out]; exact HG2.out, HB2.out⟩
  · have HK := hide hk
    have hd2 : d = 1 ∨ d = 2 := by rcases right_w HR.out with q | q | q; exact absurd q h0; exact .inl q; exact .inr q
    have e0 : ((d : Int) == 0) = false := by simp; omega
    obtain ⟨k, rfl⟩ : ∃ k : Nat, at_ = (k : Int) := ⟨at_.toNat, by omega⟩
    have hk2 : k + d ≤ n := by omega
    have HL := hide (lay_put cs k ⟨r, m, x, d, ⟨f, g, b⟩⟩ hd2 (by rw [HN.out]; exact hk2))
    have ed : ((k + d : Nat) : Int) = (k : Int) + (d : Int) := by omega
    clear hk h0
    go_wp2
    refine wp_region_chainH (fun w' => Only g1 w2 w') [(true, 0), (true, 1), (true, 2), (true, 3), (true, 4), (true, 6), (true, 7), (false, 5), (false, 8), (false, 9), (false, 10)] (by kernel_rfl) (by kernel_rfl) (by kernel_rfl) (fun _ _ _ _ _ h => h) ?_ ?_
    · exact Only.of_below ((Below.refl _ _).drewN 1)
    refine chainH_take (v := ?_) (by simp only [List.getElem?_toArray, List.getElem?_cons_zero]; rfl) (by rfl) (fun w hS => ?_) ?_
    rotate_left
    · go_simp <;> with_reducible rfl
    simp only [Act.put, List.setIfInBounds_toArray, List.set_cons_zero, List.set_cons_succ]
    refine chainH_take (v := ?_) (by simp only [List.getElem?_toArray, List.getElem?_cons_zero, List.getElem?_cons_succ]; rfl) (by rfl) (fun w hS => ?_) ?_
    rotate_left
    · go_simp <;> with_reducible rfl
    simp only [Act.put, List.setIfInBounds_toArray, List.set_cons_zero, List.set_cons_succ]
    refine chainH_take (v := ?_) (by simp only [List.getElem?_toArray, List.getElem?_cons_zero, List.getElem?_cons_succ]; rfl) (by rfl) (fun w hS => ?_) ?_
    rotate_left
    · go_simp <;> with_reducible rfl
    simp only [Act.put, List.setIfInBounds_toArray, List.set_cons_zero, List.set_cons_succ]
    refine chainH_take (v := ?_) (by simp only [List.getElem?_toArray, List.getElem?_cons_zero, List.getElem?_cons_succ]; rfl) (by rfl) (fun w hS => ?_) ?_
    rotate_left
    · go_simp <;> with_reducible rfl
    simp only [Act.put, List.setIfInBounds_toArray, List.set_cons_zero, List.set_cons_succ]
    refine chainH_take (v := ?_) (by simp only [List.getElem?_toArray, List.getElem?_cons_zero, List.getElem?_cons_succ]; rfl) (by rfl) (fun w hS => ?_) ?_
    rotate_left
    · go_simp <;> with_reducible rfl
    simp only [Act.put, List.setIfInBounds_toArray, List.set_cons_zero, List.set_cons_succ]
    refine chainH_take (v := ?_) (by simp only [List.getElem?_toArray, List.getElem?_cons_zero, List.getElem?_cons_succ]; rfl) (by rfl) (fun w hS => ?_) ?_
    rotate_left
    · obtain ⟨a0, a1, a2, a3, a4, a5, a6, -⟩ := cells7 (HP2.out.far hS HNP.out); go_simp <;> with_reducible rfl
    simp only [Act.put, List.setIfInBounds_toArray, List.set_cons_zero, List.set_cons_succ]
    refine chainH_take (v := ?_) (by simp only [List.getElem?_toArray, List.getElem?_cons_zero, List.getElem?_cons_succ]; rfl) (by rfl) (fun w hS => ?_) ?_
    rotate_left
    · obtain ⟨a0, a1, a2, a3, a4, a5, a6, -⟩ := cells7 (HP2.out.far hS HNP.out); go_simp <;> with_reducible rfl
    simp only [Act.put, List.setIfInBounds_toArray, List.set_cons_zero, List.set_cons_succ]
    refine chainH_alone (by simp only [List.getElem?_toArray, List.getElem?_cons_zero, List.getElem?_cons_succ]; rfl) ?_
    intro K hK
    go_wp2_with fail
    have hcut := cut_any g1 n k (k + d) w2.drew (by omega) hk2
    rw [ed, show k + d - k = d by omega] at hcut
    refine hcut.mono ?_
    rintro e j1 ⟨rfl, rfl⟩
    clear hcut
    have Oj1 : Only g1 w2 w2.drew := Only.of_below ((Below.refl _ _).drewN 1)
    go_wp2
    refine hK.out _ _ Oj1 ?_
    clear hK K
    refine chainH_alone (by simp only [List.getElem?_toArray, List.getElem?_cons_zero, List.getElem?_cons_succ]; rfl) ?_
    intro K hK
    go_wp2_with fail
    refine (rest_v r m x d f g b _).mono ?_
    rintro e j2 ⟨rfl, hb⟩
    have Oj2 : Only g1 w2 j2 := Oj1.trans (Only.of_below hb)
    have Wj2 := hide ((HG2.out.drewN 1).later (w' := j2) hb)
    have HJ2 := hide Oj2
    clear hb
    go_wp2
    refine hK.out _ _ Oj2 ?_
    clear hK K
    refine chainH_alone (by simp only [List.getElem?_toArray, List.getElem?_cons_zero, List.getElem?_cons_succ]; rfl) ?_
    intro K hK
    go_wp2
    have Oj3 : Only g1 w2 (j2.alloc (.cells #[.int .i32 r, .int .i32 m, .int .i32 x, .int .u8 (d : Int), .int .u8 (f : Int), .int .u8 (g : Int), .int .u8 (b : Int), .int .i32 0, .int .i32 0, .int .i32 0, .int .u8 0, .int .u8 (f : Int), .int .u8 (g : Int), .int .u8 (b : Int)] 40)) := HJ2.out.trans (Only.of_below ((Below.refl _ _).alloc (Nat.le_refl _) _))
    refine hK.out _ _ Oj3 ?_
    clear hK K
    obtain ⟨j3, hj3⟩ : ∃ j3, j2.alloc (.cells #[.int .i32 r, .int .i32 m, .int .i32 x, .int .u8 (d : Int), .int .u8 (f : Int), .int .u8 (g : Int), .int .u8 (b : Int), .int .i32 0, .int .i32 0, .int .i32 0, .int .u8 0, .int .u8 (f : Int), .int .u8 (g : Int), .int .u8 (b : Int)] 40) = j3 := ⟨_, rfl⟩
    have Cj3 : Hid (Cels .i32 j3 (some ⟨j2.heap.size, 0, none⟩) [⟨r, m, x, d, ⟨f, g, b⟩⟩, restC ⟨r, m, x, d, ⟨f, g, b⟩⟩]) := by unfold Hid; rw [← hj3]; exact cels_two j2 40 ⟨r, m, x, d, ⟨f, g, b⟩⟩ (restC ⟨r, m, x, d, ⟨f, g, b⟩⟩)
    have Wj3 : Hid (Whole j3 g1 40 (flatC .i32 cs)) := by unfold Hid; rw [← hj3]; exact Wj2.out.alloc _
    rw [hj3]
    rw [hj3] at Oj3
    have HJ3 := hide Oj3
    clear hj3 Oj3
    obtain ⟨j4, hrun, hw4, ho4⟩ := run_copyL elemL j3 3 g1 k 40 cs [⟨r, m, x, d, ⟨f, g, b⟩⟩, restC ⟨r, m, x, d, ⟨f, g, b⟩⟩] (some ⟨j2.heap.size, 0, none⟩) d d 2 2 Wj3.out Cj3.out rfl (by rw [HN.out]; omega)
    have Oj4 : Only g1 w2 j4 := HJ3.out.trans ho4
    have HJ4 := hide Oj4
    have Wj4 : Hid (Whole j4 g1 40 (flatC .i32 (putTab cs k ⟨r, m, x, d, ⟨f, g, b⟩⟩))) := by unfold Hid; rw [← HL.out]; exact hw4
    clear hw4 ho4
    refine chainH_alone (by simp only [List.getElem?_toArray, List.getElem?_cons_zero, List.getElem?_cons_succ]; rfl) ?_
    intro K hK
    go_wp2
    refine hK.out _ _ HJ4.out ?_
    clear hK K
    refine chainH_nil ?_
    clear Oj1 Oj2 Oj4 hrun
    go_wp2_with fail
    refine (mendown_any g1 n (putTab cs k ⟨r, m, x, d, ⟨f, g, b⟩⟩) j4 Wj4.out (by rw [putTab_len, HN.out]) hl).mono ?_
    rintro e j5 ⟨rfl, hw, ho⟩
    have HW5 := hide hw
    have HO5 := hide ho
    clear hw ho
    go_wp2
    go_ret2
    exact ⟨g1, by rw [HK.out, put_len, HN.out]; rfl, HG.out, by rw [put_yes HK.out]; exact HW5.out, (HJ4.out.trans HO5.out).below HB2.out HB2.out.size HG.out⟩
end Go.Proofs.YtiifeniijcnahaaGreatDoor

namespace Go.Proofs.YtiifeniijcnahaaGreatDoor
set_option maxRecDepth 100000
open Go.ChangeShapes Go.WideShapes Go.ChangeAt Go.RowKit
set_option linter.unusedVariables false

theorem neqCell (W : World) (r m n w f g b r' m' n' w' f' g' b' : Int) :
    (binOp .neq 40 (.agg #[.int .i32 r, .int .i32 m, .int .i32 n, .int .u8 w, .int .u8 f, .int .u8 g, .int .u8 b]) (.agg #[.int .i32 r', .int .i32 m', .int .i32 n', .int .u8 w', .int .u8 f', .int .u8 g', .int .u8 b'])).run Tryz.prog W = .ok (.bool (!(eqC r m n w f g b r' m' n' w' f' g' b'))) W := by
  rw [run_neq_struct, equalCell 9997]; rfl
theorem neqC (W : World) (r m n w f g b r' m' n' w' f' g' b' : Int) :
    (binOp .neq 52 (.agg #[.int .i64 r, .int .i64 m, .int .i64 n, .int .u8 w, .int .u8 f, .int .u8 g, .int .u8 b]) (.agg #[.int .i64 r', .int .i64 m', .int .i64 n', .int .u8 w', .int .u8 f', .int .u8 g', .int .u8 b'])).run Tryz.prog W = .ok (.bool (!(eqC r m n w f g b r' m' n' w' f' g' b'))) W := by
  rw [run_neq_struct, equalC 9997]; rfl
theorem neqP (W : World) (f g b f' g' b' : Int) :
    (binOp .neq 50 (.agg #[.int .u8 f, .int .u8 g, .int .u8 b]) (.agg #[.int .u8 f', .int .u8 g', .int .u8 b'])).run Tryz.prog W = .ok (.bool (!(eqP f g b f' g' b'))) W := by
  rw [run_neq_struct, equalP 50 Tryz.underlying50 (by kernel_rfl) fieldsP 9998]; rfl
theorem eqC_cel (r m x : Int) (d f y b : Nat) (r' m' x' : Int) (d' f' y' b' : Nat) : eqC r m x (d : Int) (f : Int) (y : Int) (b : Int) r' m' x' (d' : Int) (f' : Int) (y' : Int) (b' : Int) = decide ((⟨r, m, x, d, ⟨f, y, b⟩⟩ : Cel) = ⟨r', m', x', d', ⟨f', y', b'⟩⟩) := by
  rw [eqC_iff, Bool.eq_iff_iff, decide_eq_true_iff, decide_eq_true_iff]
  simp only [Cel.mk.injEq, Pn.mk.injEq, Int.ofNat_inj]
theorem eqP_pen (f y b f' y' b' : Nat) : eqP (f : Int) (y : Int) (b : Int) (f' : Int) (y' : Int) (b' : Int) = decide ((⟨f, y, b⟩ : Pn) = ⟨f', y', b'⟩) := by
  unfold eqP
  rw [Bool.eq_iff_iff, decide_eq_true_iff]
  simp only [Bool.and_eq_true, beq_iff_eq, Pn.mk.injEq, Int.ofNat_inj]
theorem take_cel (a b : List Cel) (k : Nat) (ha : k < a.length) (hb : k < b.length) (h : a.take k = b.take k) (e : cAt a k = cAt b k) : a.take (k + 1) = b.take (k + 1) := by
  rw [List.take_succ_eq_append_getElem ha, List.take_succ_eq_append_getElem hb, h]
  have h1 : a[k] = cAt a k := Option.some.inj ((List.getElem?_eq_getElem ha).symm.trans (get_cAt a k ha))
  have h2 : b[k] = cAt b k := Option.some.inj ((List.getElem?_eq_getElem hb).symm.trans (get_cAt b k hb))
  rw [h1, h2, e]
set_option maxRecDepth 100000 in
set_option maxHeartbeats 2000000 in
theorem equal_any (A C : Option Addr) (n c m d : Nat) (xs ys : List Cel) (w : World) (ha : Cels .i32 w A xs) (hb : Cels .i32 w C ys) (hn : xs.length = n) (hm : ys.length = m) (hl : n ≤ 1000000) :
    Calls Tryz.prog 94 #[.slice A n c, .slice C m d] w (Said (decide (xs = ys)) w) := by
  have nC := @neqCell
  have HN := hide hn
  have HM := hide hm
  have HA := hide ha
  have HC := hide hb
  by_cases hnm : n = m
  · have en : ((n : Int) != (m : Int)) = false := by simp; omega
    clear hn hm ha hb
    go_enter Tryz.func94, Tryz.ntmps94
    go_wp2
    go_loopw [5, 13] (fun _ i wr => ∃ k : Nat, k ≤ n ∧ i = .int .i64 k ∧ Hid (xs.take k = ys.take k) ∧ Below w.heap.size w wr) (fun _ i _ => n - (intOf i).toNat)
    case atStart => exact ⟨0, Nat.zero_le _, rfl, (by unfold Hid; simp), Below.refl _ _⟩
    case round =>
      obtain ⟨k, hk, rfl, ht, hbel⟩ := hrel
      have HB := hide hbel
      clear hbel
      by_cases hlt : k < n
      · obtain ⟨b1, o1, rfl, l1, -⟩ := HA.out.at (i := k) (by rw [HN.out]; exact hlt)
        obtain ⟨b2, o2, rfl, l2, -⟩ := HC.out.at (i := k) (by rw [HM.out]; omega)
        by_cases he : cAt xs k = cAt ys k
        · have HT := hide (take_cel xs ys k (by rw [HN.out]; exact hlt) (by rw [HM.out]; omega) ht.out he)
          obtain ⟨⟨r, x, y, z, ⟨f, g, b⟩⟩, hc⟩ : ∃ q, cAt xs k = q := ⟨_, rfl⟩
          have hc2 := he.symm.trans hc
          obtain ⟨u0, u1, u2, u3, u4, u5, u6, -⟩ := (HA.out.below HB.out).sevenC k (by rw [HN.out]; exact hlt) hc
          obtain ⟨v0, v1, v2, v3, v4, v5, v6, -⟩ := (HC.out.below HB.out).sevenC k (by rw [HM.out]; omega) hc2
          have hq := eqC_self r x y (z : Int) (f : Int) (g : Int) (b : Int)
          clear hc hc2 he ht
          go_wp2
          go_quiet (fail)
          go_wp2
          go_roundw
          case rel => exact ⟨k + 1, by omega, by go_num, HT, HB.out.drewN _⟩
          case measure => simp [intOf]; omega
        · have HF : Hid (decide (xs = ys) = false) := by unfold Hid; exact decide_eq_false (fun q => he (by rw [q]))
          obtain ⟨⟨r, x, y, z, ⟨f, g, b⟩⟩, hc⟩ : ∃ q, cAt xs k = q := ⟨_, rfl⟩
          obtain ⟨⟨r', x', y', z', ⟨f', g', b'⟩⟩, hc2⟩ : ∃ q, cAt ys k = q := ⟨_, rfl⟩
          rw [hc, hc2] at he
          obtain ⟨u0, u1, u2, u3, u4, u5, u6, -⟩ := (HA.out.below HB.out).sevenC k (by rw [HN.out]; exact hlt) hc
          obtain ⟨v0, v1, v2, v3, v4, v5, v6, -⟩ := (HC.out.below HB.out).sevenC k (by rw [HM.out]; omega) hc2
          have hq : eqC r x y (z : Int) (f : Int) (g : Int) (b : Int) r' x' y' (z' : Int) (f' : Int) (g' : Int) (b' : Int) = false := by rw [eqC_cel]; exact decide_eq_false he
          clear hc hc2 he ht
          go_wp2
          go_quiet (fail)
          go_wp2
          go_ret
          exact ⟨ret_bool HF.out.symm, HB.out.drewN _⟩
      · have HF : Hid (decide (xs = ys) = true) := by
          unfold Hid
          refine decide_eq_true ?_
          have q := ht.out
          rwa [List.take_of_length_le (by rw [HN.out]; omega), List.take_of_length_le (by rw [HM.out]; omega)] at q
        clear ht
        go_wp2
        go_ret
        exact ⟨ret_bool HF.out.symm, HB.out⟩
  · have en : ((n : Int) != (m : Int)) = true := by simp; omega
    have HF : Hid (decide (xs = ys) = false) := by unfold Hid; exact decide_eq_false (fun q => hnm (by rw [← hn, ← hm, q]))
    clear hn hm ha hb hnm
    go_enter Tryz.func94, Tryz.ntmps94
    go_wp2
    go_ret
    exact ⟨ret_bool HF.out.symm, Below.refl _ _⟩
set_option maxRecDepth 100000 in
set_option maxHeartbeats 2000000 in
theorem rsame6_any (A C : Option Addr) (n c m d : Nat) (xs ys : List Cel) (w : World) (ha : Cels .i64 w A xs) (hb : Cels .i64 w C ys) (hn : xs.length = n) (hm : ys.length = m) (hl : n ≤ 1000000) :
    Calls Tryz.prog 86 #[.slice A n c, .slice C m d] w (Said (decide (xs = ys)) w) := by
  have nC := @neqC
  have HN := hide hn
  have HM := hide hm
  have HA := hide ha
  have HC := hide hb
  by_cases hnm : n = m
  · have en : ((n : Int) != (m : Int)) = false := by simp; omega
    clear hn hm ha hb
    go_enter Tryz.func86, Tryz.ntmps86
    go_wp2
    go_loopw [5] (fun i wr => ∃ k : Nat, k ≤ n ∧ i = .int .i64 k ∧ Hid (xs.take k = ys.take k) ∧ Below w.heap.size w wr) (fun i _ => n - (intOf i).toNat)
    case atStart => exact ⟨0, Nat.zero_le _, rfl, (by unfold Hid; simp), Below.refl _ _⟩
    case round =>
      obtain ⟨k, hk, rfl, ht, hbel⟩ := hrel
      have HB := hide hbel
      clear hbel
      by_cases hlt : k < n
      · obtain ⟨b1, o1, rfl, l1, -⟩ := HA.out.at (i := k) (by rw [HN.out]; exact hlt)
        obtain ⟨b2, o2, rfl, l2, -⟩ := HC.out.at (i := k) (by rw [HM.out]; omega)
        by_cases he : cAt xs k = cAt ys k
        · have HT := hide (take_cel xs ys k (by rw [HN.out]; exact hlt) (by rw [HM.out]; omega) ht.out he)
          obtain ⟨⟨r, x, y, z, ⟨f, g, b⟩⟩, hc⟩ : ∃ q, cAt xs k = q := ⟨_, rfl⟩
          have hc2 := he.symm.trans hc
          obtain ⟨u0, u1, u2, u3, u4, u5, u6, -⟩ := (HA.out.below HB.out).sevenC k (by rw [HN.out]; exact hlt) hc
          obtain ⟨v0, v1, v2, v3, v4, v5, v6, -⟩ := (HC.out.below HB.out).sevenC k (by rw [HM.out]; omega) hc2
          have hq := eqC_self r x y (z : Int) (f : Int) (g : Int) (b : Int)
          clear hc hc2 he ht
          go_wp2
          go_quiet (fail)
          go_wp2
          go_roundw
          case rel => exact ⟨k + 1, by omega, by go_num, HT, HB.out.drewN _⟩
          case measure => simp [intOf]; omega
        · have HF : Hid (decide (xs = ys) = false) := by unfold Hid; exact decide_eq_false (fun q => he (by rw [q]))
          obtain ⟨⟨r, x, y, z, ⟨f, g, b⟩⟩, hc⟩ : ∃ q, cAt xs k = q := ⟨_, rfl⟩
          obtain ⟨⟨r', x', y', z', ⟨f', g', b'⟩⟩, hc2⟩ : ∃ q, cAt ys k = q := ⟨_, rfl⟩
          rw [hc, hc2] at he
          obtain ⟨u0, u1, u2, u3, u4, u5, u6, -⟩ := (HA.out.below HB.out).sevenC k (by rw [HN.out]; exact hlt) hc
          obtain ⟨v0, v1, v2, v3, v4, v5, v6, -⟩ := (HC.out.below HB.out).sevenC k (by rw [HM.out]; omega) hc2
          have hq : eqC r x y (z : Int) (f : Int) (g : Int) (b : Int) r' x' y' (z' : Int) (f' : Int) (g' : Int) (b' : Int) = false := by rw [eqC_cel]; exact decide_eq_false he
          clear hc hc2 he ht
          go_wp2
          go_quiet (fail)
          go_wp2
          go_ret
          exact ⟨ret_bool HF.out.symm, HB.out.drewN _⟩
      · have HF : Hid (decide (xs = ys) = true) := by
          unfold Hid
          refine decide_eq_true ?_
          have q := ht.out
          rwa [List.take_of_length_le (by rw [HN.out]; omega), List.take_of_length_le (by rw [HM.out]; omega)] at q
        clear ht
        go_wp2
        go_ret
        exact ⟨ret_bool HF.out.symm, HB.out⟩
  · have en : ((n : Int) != (m : Int)) = true := by simp; omega
    have HF : Hid (decide (xs = ys) = false) := by unfold Hid; exact decide_eq_false (fun q => hnm (by rw [← hn, ← hm, q]))
    clear hn hm ha hb hnm
    go_enter Tryz.func86, Tryz.ntmps86
    go_wp2
    go_ret
    exact ⟨ret_bool HF.out.symm, Below.refl _ _⟩
set_option maxRecDepth 100000 in
theorem same6_any (A C : Option Addr) (n c m d : Nat) (xs ys : List Cel) (w : World) (ha : Cels .i32 w A xs) (hb : Cels .i32 w C ys) (hn : xs.length = n) (hm : ys.length = m) (hl : n ≤ 1000000) :
    Calls Tryz.prog 62 #[.slice A n c, .slice C m d] w (Said (decide (xs = ys)) w) := by
  have HN := hide hn
  have HM := hide hm
  have HA := hide ha
  have HC := hide hb
  clear hn hm ha hb
  go_enter Tryz.func62, Tryz.ntmps62
  go_wp2_with fail
  refine (equal_any A C n c m d xs ys w HA.out HC.out HN.out HM.out hl).mono ?_
  rintro e w1 ⟨rfl, hb⟩
  go_wp2
  go_ret
  exact ⟨rfl, hb⟩
end Go.Proofs.YtiifeniijcnahaaGreatDoor
