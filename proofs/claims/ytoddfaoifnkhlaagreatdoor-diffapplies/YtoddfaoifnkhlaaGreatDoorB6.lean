/-
  Contracts and plain mathematics of LMark, LPut, LRef4.
-/
import Derived.Test.YtoddfaoifnkhlaaGreatDoorB5
import Derived.Test.YtoddfaoifnkhlaaGreatDoorB4
namespace Go.Proofs.YtoddfaoifnkhlaaGreatDoor
set_option maxRecDepth 100000
set_option linter.unusedVariables false
set_option maxHeartbeats 8000000
section
open Go.ChangeShapes Go.WideShapes Go.ChangeAt Go.RowKit
def Lined2 (cs : List Cel) (ok : Bool) (w : World) (e : Ending) (w' : World) : Prop := ∃ g, e = .returned (.tuple #[.slice (some ⟨g, 0, none⟩) cs.length cs.length, .bool ok]) ∧ w.heap.size ≤ g ∧ Whole w' g 65 (flatC .i32 cs) ∧ Below w.heap.size w w'
theorem lmark_no {cs : List Cel} {a r : Int} (h : ¬ (0 ≤ a ∧ a < (cs.length : Int))) : lmarkC cs a r = (cs, false) := by unfold lmarkC; rw [if_neg h]
theorem lmark_yes {cs : List Cel} {k : Nat} {r : Int} {j : Nat} {c : Cel} {ok : Bool} (h : k < cs.length) (hj : mkAt cs k = j) (hm : markC (cAt cs j) r = (c, ok)) : lmarkC cs (k : Int) r = (cs.set j c, ok) := by
 unfold lmarkC; rw [if_pos (by omega), Int.toNat_natCast, hj, hm]
theorem mkAt_same {cs : List Cel} {k : Nat} (h : wAt cs k ≠ 0) : mkAt cs k = k := by unfold mkAt; rw [if_neg (fun q => h q.1)]
theorem mkAt_alone {cs : List Cel} {k : Nat} (h : wAt cs k = 0) (ha : aloneC cs k = true) : mkAt cs k = k := by
 unfold mkAt; rw [if_neg]; rintro ⟨_, h1, h2⟩
 have : aloneC cs k = false := by unfold aloneC; rw [if_neg (by omega), if_pos h]; simp [h2]; omega
 rw [this] at ha; cases ha
theorem mkAt_not {cs : List Cel} {j : Nat} (h : wAt cs (j + 1) = 0) (ha : aloneC cs (j + 1) = false) : mkAt cs (j + 1) = j := by
 obtain ⟨h1, h2⟩ := alone_0 h ha
 unfold mkAt; rw [if_pos ⟨h, by omega, h2⟩]; rfl
theorem wAt_of {cs : List Cel} {k : Nat} {r m y : Int} {d : Nat} {p : Pn} (h : k < cs.length) (hc : cAt cs k = ⟨r, m, y, d, p⟩) : wAt cs k = d := by rw [wAt_in cs k h, hc]
theorem lmark_any (A : Option Addr) (n c : Nat) (at_ x : Int) (cs : List Cel) (w : World) (h : Cels .i32 w A cs) (hn : cs.length = n) (hl : n ≤ 1000000) (hS : Spans w) :
  Calls Tryz.prog 97 #[.slice A n c, .int .i64 at_, .int .i32 x] w (Lined2 (lmarkC cs at_ x).1 (lmarkC cs at_ x).2 w) := by
 have HC := hide h; have HN := hide hn; have HS := hide hS; clear h hn hS
 by_cases hin : 0 ≤ at_ ∧ at_ < (n : Int)
 ·obtain ⟨k, rfl⟩ : ∃ k : Nat, at_ = (k : Int) := ⟨at_.toNat, by omega⟩
  have hk : k < n := by omega
  clear hin
  by_cases h0 : wAt cs k = 0
  ·cases hal : aloneC cs k
   ·obtain ⟨j, rfl⟩ : ∃ j, k = j + 1 := ⟨k - 1, by have := (alone_0 h0 hal).1; omega⟩
    have HJ := hide (mkAt_not h0 hal)
    have HAL := hide hal
    have e0 : ((wAt cs (j + 1) : Int) == 0) = true := by simp; omega
    clear h0 hal
    go_enter Tryz.func97, Tryz.ntmps97
    go_wp2_with fail
    refine (copied_any A n c cs w HC.out HN.out hl).mono ?_
    rintro e w1 ⟨g, rfl, hg, hw, hb⟩
    have HW1 := hide hw; have HB1 := hide hb; have HG := hide hg
    have HS1 := hide (HS.out.below hb)
    clear hw hb hg
    rw [HN.out]
    have c3 := HW1.out.cels.wide (j + 1) (by rw [HN.out]; exact hk)
    simp only [Nat.zero_add] at c3
    go_wp2_with fail
    refine (alone_any (some ⟨g, 0, none⟩) n n (j + 1) cs w1 HW1.out.cels HN.out (by omega) hl).mono ?_
    rintro e w2 ⟨rfl, rfl⟩
    rw [HAL.out]
    clear c3
    obtain ⟨⟨r, m, y, d, ⟨f, z, b⟩⟩, hc⟩ : ∃ q, cAt cs j = q := ⟨_, rfl⟩
    obtain ⟨⟨⟨r1, m1, y1, d1, ⟨f1, z1, b1⟩⟩, ok⟩, hm⟩ : ∃ q, markC (cAt cs j) x = q := ⟨_, rfl⟩
    have HE := hide (lmark_yes (by rw [HN.out]; omega) HJ.out hm)
    rw [hc] at hm
    have HM := hide hm; clear hm
    obtain ⟨a0, a1, a2, a3, a4, a5, a6, -⟩ := HW1.out.sevenC (j * 7) j rfl (by rw [HN.out]; omega) hc
    clear hc; go_wp2_with fail
    refine (cmark_v r m y d f z b x r1 m1 y1 d1 f1 z1 b1 ok HM.out w1 HS1.out).mono ?_
    rintro e w2 ⟨rfl, hb⟩
    clear a0 a1 a2 a3 a4 a5 a6
    have HW2 := hide (HW1.out.later hb)
    have HB2 := hide (HB1.out.trans (hb.mono HB1.out.size))
    have l2 : g < w2.heap.size := (HW1.out.later hb).lt
    obtain ⟨b0, b1', b2, b3, b4, b5, b6, b7⟩ := (HW1.out.later hb).seven (j * 7) j rfl (by rw [HN.out]; omega)
    clear hb; go_wp2; go_ret2
    refine ⟨g, by rw [HE.out]; simp only [List.length_set]; rw [HN.out]; rfl, HG.out, ?_, ?_⟩
    ·rw [HE.out]; exact (put_cell HW2.out _ j rfl (by rw [HN.out]; omega) ⟨r1, m1, y1, d1, ⟨f1, z1, b1⟩⟩).alloc _
    ·have hb9 := (only_cell (j * 7) (.int .i32 r1) (.int .i32 m1) (.int .i32 y1) (.int .u8 d1) (.int .u8 f1) (.int .u8 z1) (.int .u8 b1)).below HB2.out HB2.out.size HG.out
     exact hb9.alloc hb9.size _
   ·have HJ := hide (mkAt_alone h0 hal)
    have HAL := hide hal
    have e0 : ((wAt cs k : Int) == 0) = true := by simp; omega
    clear h0 hal
    go_enter Tryz.func97, Tryz.ntmps97
    go_wp2_with fail
    refine (copied_any A n c cs w HC.out HN.out hl).mono ?_
    rintro e w1 ⟨g, rfl, hg, hw, hb⟩
    have HW1 := hide hw; have HB1 := hide hb; have HG := hide hg
    have HS1 := hide (HS.out.below hb)
    clear hw hb hg
    rw [HN.out]
    have c3 := HW1.out.cels.wide k (by rw [HN.out]; exact hk)
    simp only [Nat.zero_add] at c3
    go_wp2_with fail
    refine (alone_any (some ⟨g, 0, none⟩) n n k cs w1 HW1.out.cels HN.out (by omega) hl).mono ?_
    rintro e w2 ⟨rfl, rfl⟩
    rw [HAL.out]
    clear c3
    obtain ⟨⟨r, m, y, d, ⟨f, z, b⟩⟩, hc⟩ : ∃ q, cAt cs k = q := ⟨_, rfl⟩
    obtain ⟨⟨⟨r1, m1, y1, d1, ⟨f1, z1, b1⟩⟩, ok⟩, hm⟩ : ∃ q, markC (cAt cs k) x = q := ⟨_, rfl⟩
    have HE := hide (lmark_yes (by rw [HN.out]; omega) HJ.out hm)
    rw [hc] at hm
    have HM := hide hm; clear hm
    obtain ⟨a0, a1, a2, a3, a4, a5, a6, -⟩ := HW1.out.sevenC (k * 7) k rfl (by rw [HN.out]; omega) hc
    clear hc; go_wp2_with fail
    refine (cmark_v r m y d f z b x r1 m1 y1 d1 f1 z1 b1 ok HM.out w1 HS1.out).mono ?_
    rintro e w2 ⟨rfl, hb⟩
    clear a0 a1 a2 a3 a4 a5 a6
    have HW2 := hide (HW1.out.later hb)
    have HB2 := hide (HB1.out.trans (hb.mono HB1.out.size))
    have l2 : g < w2.heap.size := (HW1.out.later hb).lt
    obtain ⟨b0, b1', b2, b3, b4, b5, b6, b7⟩ := (HW1.out.later hb).seven (k * 7) k rfl (by rw [HN.out]; omega)
    clear hb; go_wp2; go_ret2
    refine ⟨g, by rw [HE.out]; simp only [List.length_set]; rw [HN.out]; rfl, HG.out, ?_, ?_⟩
    ·rw [HE.out]; exact (put_cell HW2.out _ k rfl (by rw [HN.out]; omega) ⟨r1, m1, y1, d1, ⟨f1, z1, b1⟩⟩).alloc _
    ·have hb9 := (only_cell (k * 7) (.int .i32 r1) (.int .i32 m1) (.int .i32 y1) (.int .u8 d1) (.int .u8 f1) (.int .u8 z1) (.int .u8 b1)).below HB2.out HB2.out.size HG.out
     exact hb9.alloc hb9.size _
  ·have HJ := hide (mkAt_same h0)
   have HZ : Hid (((wAt cs k : Int) == 0) = false) := by unfold Hid; simp; omega
   clear h0
   go_enter Tryz.func97, Tryz.ntmps97
   go_wp2_with fail
   refine (copied_any A n c cs w HC.out HN.out hl).mono ?_
   rintro e w1 ⟨g, rfl, hg, hw, hb⟩
   have HW1 := hide hw; have HB1 := hide hb; have HG := hide hg
   have HS1 := hide (HS.out.below hb)
   clear hw hb hg
   rw [HN.out]
   obtain ⟨⟨r, m, y, d, ⟨f, z, b⟩⟩, hc⟩ : ∃ q, cAt cs k = q := ⟨_, rfl⟩
   obtain ⟨⟨⟨r1, m1, y1, d1, ⟨f1, z1, b1⟩⟩, ok⟩, hm⟩ : ∃ q, markC (cAt cs k) x = q := ⟨_, rfl⟩
   have HE := hide (lmark_yes (by rw [HN.out]; omega) HJ.out hm)
   rw [hc] at hm
   have HM := hide hm; clear hm
   obtain ⟨a0, a1, a2, a3, a4, a5, a6, -⟩ := HW1.out.sevenC (k * 7) k rfl (by rw [HN.out]; omega) hc
   have e0 : ((d : Int) == 0) = false := by rw [← wAt_of (by rw [HN.out]; exact hk) hc]; exact HZ.out
   clear hc; go_wp2_with fail
   refine (cmark_v r m y d f z b x r1 m1 y1 d1 f1 z1 b1 ok HM.out w1 HS1.out).mono ?_
   rintro e w2 ⟨rfl, hb⟩
   clear a0 a1 a2 a3 a4 a5 a6
   have HW2 := hide (HW1.out.later hb)
   have HB2 := hide (HB1.out.trans (hb.mono HB1.out.size))
   have l2 : g < w2.heap.size := (HW1.out.later hb).lt
   obtain ⟨b0, b1', b2, b3, b4, b5, b6, b7⟩ := (HW1.out.later hb).seven (k * 7) k rfl (by rw [HN.out]; omega)
   clear hb; go_wp2; go_ret2
   refine ⟨g, by rw [HE.out]; simp only [List.length_set]; rw [HN.out]; rfl, HG.out, ?_, ?_⟩
   ·rw [HE.out]; exact (put_cell HW2.out _ k rfl (by rw [HN.out]; omega) ⟨r1, m1, y1, d1, ⟨f1, z1, b1⟩⟩).alloc _
   ·have hb9 := (only_cell (k * 7) (.int .i32 r1) (.int .i32 m1) (.int .i32 y1) (.int .u8 d1) (.int .u8 f1) (.int .u8 z1) (.int .u8 b1)).below HB2.out HB2.out.size HG.out
    exact hb9.alloc hb9.size _
 ·have HE := hide (lmark_no (r := x) (by rw [HN.out]; exact hin))
  by_cases h0 : at_ < 0
  ·clear hin
   go_enter Tryz.func97, Tryz.ntmps97
   go_wp2_with fail
   refine (copied_any A n c cs w HC.out HN.out hl).mono ?_
   rintro e w1 ⟨g, rfl, hg, hw, hb⟩
   have HW1 := hide hw; have HB1 := hide hb; have HG := hide hg
   have HS1 := hide (HS.out.below hb)
   clear hw hb hg
   rw [HN.out]
   go_wp2; go_ret2
   exact ⟨g, by rw [HE.out]; simp only; rw [HN.out]; rfl, HG.out, by rw [HE.out]; exact HW1.out, HB1.out⟩
  ·have h1 : (n : Int) ≤ at_ := by omega
   clear hin
   go_enter Tryz.func97, Tryz.ntmps97
   go_wp2_with fail
   refine (copied_any A n c cs w HC.out HN.out hl).mono ?_
   rintro e w1 ⟨g, rfl, hg, hw, hb⟩
   have HW1 := hide hw; have HB1 := hide hb; have HG := hide hg
   have HS1 := hide (HS.out.below hb)
   clear hw hb hg
   rw [HN.out]
   go_wp2; go_ret2
   exact ⟨g, by rw [HE.out]; simp only; rw [HN.out]; rfl, HG.out, by rw [HE.out]; exact HW1.out, HB1.out⟩
theorem putOk_no {cs : List Cel} {a : Int} {c : Cel} (h : ¬ (rightC c = true ∧ c.w ≠ 0 ∧ 0 ≤ a ∧ a + (c.w : Int) ≤ (cs.length : Int))) : putOk cs a c = false := by unfold putOk; exact decide_eq_false h
theorem putOk_yes {cs : List Cel} {a : Int} {c : Cel} (h : rightC c = true ∧ c.w ≠ 0 ∧ 0 ≤ a ∧ a + (c.w : Int) ≤ (cs.length : Int)) : putOk cs a c = true := by unfold putOk; exact decide_eq_true h
theorem put_no {cs : List Cel} {a : Int} {c : Cel} (h : putOk cs a c = false) : putC cs a c = cs := by unfold putC; rw [h]; simp
theorem put_yes {cs : List Cel} {a : Int} {c : Cel} (h : putOk cs a c = true) : putC cs a c = mendC (putTab cs a.toNat c) := by unfold putC; rw [if_pos h]
theorem putTab_len (cs : List Cel) (k : Nat) (c : Cel) : (putTab cs k c).length = cs.length := tab_len _ _
theorem put_len (cs : List Cel) (a : Int) (c : Cel) : (putC cs a c).length = cs.length := by
 unfold putC; split
 ·rw [mend_len, putTab_len]
 ·rfl
theorem lay_put (cs : List Cel) (k : Nat) (c : Cel) (hw : c.w = 1 ∨ c.w = 2) (h : k + c.w ≤ cs.length) : layC cs k ([c, restC c].take c.w) = putTab cs k c := by
 have hl : ([c, restC c].take c.w).length = c.w := by simp; omega
 rw [lay_tab _ _ _ (by omega), hl]
 unfold putTab
 refine tab_eq fun i hi => ?_
 rcases hw with hw | hw
 ·rw [hw]
  by_cases h1 : i = k
  ·subst h1; rw [if_pos (by omega), if_pos rfl]; unfold cAt; simp
  ·rw [if_neg (by omega), if_neg h1, if_neg (by omega)]
 ·rw [hw]
  by_cases h1 : i = k
  ·subst h1; rw [if_pos (by omega), if_pos rfl]; unfold cAt; simp
  ·by_cases h2 : i = k + 1
   ·subst h2; rw [if_pos (by omega), if_neg h1, if_pos ⟨rfl, rfl⟩, show k + 1 - k = 1 by omega]; unfold cAt; simp
   ·rw [if_neg (by omega), if_neg h1, if_neg (by omega)]
theorem cels_two (w : World) (t : TypeId) (c d : Cel) : Cels .i32 (w.alloc (.cells #[.int .i32 c.r, .int .i32 c.m, .int .i32 c.n, .int .u8 c.w, .int .u8 c.p.f, .int .u8 c.p.g, .int .u8 c.p.b, .int .i32 d.r, .int .i32 d.m, .int .i32 d.n, .int .u8 d.w, .int .u8 d.p.f, .int .u8 d.p.g, .int .u8 d.p.b] t)) (some ⟨w.heap.size, 0, none⟩) [c, d] :=
 (Whole.new w t (flatC .i32 [c, d])).cels
theorem put_any (A : Option Addr) (n c : Nat) (at_ : Int) (r m x : Int) (d f g b : Nat) (hd : d < 256) (cs : List Cel) (w : World) (h : Cels .i32 w A cs) (hn : cs.length = n) (hl : n ≤ 1000000) (hS : Spans w) (ha : -9223372036854775808 ≤ at_ ∧ at_ < 9223372036854775808) :
  Calls Tryz.prog 80 #[.slice A n c, .int .i64 at_, .agg #[.int .i32 r, .int .i32 m, .int .i32 x, .int .u8 d, .int .u8 f, .int .u8 g, .int .u8 b]] w (Lined2 (putC cs at_ ⟨r, m, x, d, ⟨f, g, b⟩⟩) (putOk cs at_ ⟨r, m, x, d, ⟨f, g, b⟩⟩) w) := by
 have HN := hide hn
 obtain ⟨W0, hW0⟩ := exq (w.alloc (.cells #[.int .i32 r, .int .i32 m, .int .i32 x, .int .u8 d, .int .u8 f, .int .u8 g, .int .u8 b] 65))
 have HB0 : Hid (Below w.heap.size w W0) := by unfold Hid; rw [← hW0]; exact (Below.refl _ _).alloc (Nat.le_refl _) _
 have HP0 : Hid (Whole W0 w.heap.size 65 [.int .i32 r, .int .i32 m, .int .i32 x, .int .u8 d, .int .u8 f, .int .u8 g, .int .u8 b]) := by unfold Hid; rw [← hW0]; exact Whole.new _ _ _
 have HC0 : Hid (Cels .i32 W0 A cs) := by unfold Hid; rw [← hW0]; exact h.alloc _
 have HS0 : Hid (Spans W0) := by unfold Hid; rw [← hW0]; exact hS.alloc _
 have HW0 := hide hW0
 obtain ⟨R, hR⟩ := exq (rightC ⟨r, m, x, d, ⟨f, g, b⟩⟩)
 have key : (R = false ∧ putOk cs at_ ⟨r, m, x, d, ⟨f, g, b⟩⟩ = false) ∨ (R = true ∧ d = 0 ∧ putOk cs at_ ⟨r, m, x, d, ⟨f, g, b⟩⟩ = false) ∨ (R = true ∧ d ≠ 0 ∧ at_ < 0 ∧ putOk cs at_ ⟨r, m, x, d, ⟨f, g, b⟩⟩ = false) ∨ (R = true ∧ d ≠ 0 ∧ 0 ≤ at_ ∧ (n : Int) - d < at_ ∧ putOk cs at_ ⟨r, m, x, d, ⟨f, g, b⟩⟩ = false) ∨ (R = true ∧ d ≠ 0 ∧ 0 ≤ at_ ∧ at_ ≤ (n : Int) - d ∧ putOk cs at_ ⟨r, m, x, d, ⟨f, g, b⟩⟩ = true) := by
  cases R
  ·exact .inl ⟨rfl, putOk_no (by rw [hR]; simp)⟩
  ·by_cases h0 : d = 0
   ·exact .inr (.inl ⟨rfl, h0, putOk_no (by simp [h0])⟩)
   ·by_cases h1 : at_ < 0
    ·exact .inr (.inr (.inl ⟨rfl, h0, h1, putOk_no (by rintro ⟨_, _, q, _⟩; omega)⟩))
    ·by_cases h2 : (n : Int) - d < at_
     ·exact .inr (.inr (.inr (.inl ⟨rfl, h0, by omega, h2, putOk_no (by rintro ⟨_, _, _, q⟩; simp only at q; omega)⟩)))
     ·exact .inr (.inr (.inr (.inr ⟨rfl, h0, by omega, by omega, putOk_yes ⟨hR, h0, by omega, by simp only; omega⟩⟩)))
 have HR := hide hR; clear h hn hW0 hS hR
 go_enter Tryz.func80, Tryz.ntmps80
 go_wp2; rw [HW0.out]
 refine rgH (fun w' => Below W0.heap.size W0 w') [(true, 0), (true, 2), (true, 3), (true, 4), (false, 1), (false, 5), (false, 6)] bd1 ?_
 refine stH (h := ?_)
 refine stH (h := ?_)
 refine stH (hy := fun w hS => by have f3 := (HP0.out.later hS).cell 3; simp only [List.getElem?_cons_zero, List.getElem?_cons_succ] at f3; go_simp <;> with_reducible rfl) (h := ?_)
 refine stH (h := ?_)
 refine alH fun K hK => ?_
 go_wp2_with fail
 refine (copied_any A n c cs _ (HC0.out.drewN 1) HN.out hl).mono ?_
 rintro e k1 ⟨g1, rfl, hg, hw, hb⟩
 rw [HN.out]
 have Bk1 : Below W0.heap.size W0 k1 := bd1.trans hb
 have HG1 := hide hw
 have HGE : Hid (W0.heap.size ≤ g1) := hg
 clear hb hw hg; go_wp2
 refine hK.out _ _ Bk1 ?_
 clear hK K
 refine alH fun K hK => ?_
 go_wp2
 refine hK.out _ _ Bk1 ?_
 clear hK K
 refine alH fun K hK => ?_
 go_wp2
 refine hK.out _ _ Bk1 ?_
 clear hK K
 refine chainH_nil ?_
 have HB1 := hide (HB0.out.trans (Bk1.mono HB0.out.size))
 have HS1 := hide (HS0.out.below Bk1)
 have HP1 := hide (HP0.out.later Bk1)
 have HG : Hid (w.heap.size ≤ g1) := by unfold Hid; exact Nat.le_trans HB0.out.size HGE.out
 have HNP : Hid (w.heap.size ≠ g1) := by unfold Hid; have := HP0.out.lt; have := HGE.out; omega
 clear Bk1
 obtain ⟨a0, a1, a2, a3, a4, a5, a6, -⟩ := cells7 HP1.out
 go_wp2_with fail
 refine (cright_any r m x d f g b hd k1 HS1.out).mono ?_
 rintro e w2 ⟨rfl, hb⟩
 rw [HR.out]
 clear a0 a1 a2 a3 a4 a5 a6
 have HB2 := hide (HB1.out.trans (hb.mono HB1.out.size))
 have HP2 := hide (HP1.out.later hb)
 have HG2 := hide (HG1.out.later hb)
 clear hb HS0 HC0 HP0 HB0 HS1 HP1 HG1 HB1
 obtain ⟨a0, a1, a2, a3, a4, a5, a6, -⟩ := cells7 HP2.out
 rcases key with ⟨rfl, hk⟩ | ⟨rfl, h0, hk⟩ | ⟨rfl, h0, h1, hk⟩ | ⟨rfl, h0, h1, h2, hk⟩ | ⟨rfl, h0, h1, h2, hk⟩
 ·have HK := hide hk
  clear hk; go_wp2; go_ret2
  exact ⟨g1, by rw [HK.out, put_no HK.out, HN.out]; rfl, HG.out, by rw [put_no HK.out]; exact HG2.out, HB2.out⟩
 ·have HK := hide hk
  have e0 : ((d : Int) == 0) = true := by simp; omega
  clear hk h0; go_wp2; go_ret2
  exact ⟨g1, by rw [HK.out, put_no HK.out, HN.out]; rfl, HG.out, by rw [put_no HK.out]; exact HG2.out, HB2.out⟩
 ·have HK := hide hk
  have e0 : ((d : Int) == 0) = false := by simp; omega
  clear hk h0; go_wp2; go_ret2
  exact ⟨g1, by rw [HK.out, put_no HK.out, HN.out]; rfl, HG.out, by rw [put_no HK.out]; exact HG2.out, HB2.out⟩
 ·have HK := hide hk
  have e0 : ((d : Int) == 0) = false := by simp; omega
  clear hk h0; go_wp2; go_ret2
  exact ⟨g1, by rw [HK.out, put_no HK.out, HN.out]; rfl, HG.out, by rw [put_no HK.out]; exact HG2.out, HB2.out⟩
 ·have HK := hide hk
  have hd2 : d = 1 ∨ d = 2 := by rcases right_w HR.out with q | q | q; exact absurd q h0; exact .inl q; exact .inr q
  have e0 : ((d : Int) == 0) = false := by simp; omega
  obtain ⟨k, rfl⟩ : ∃ k : Nat, at_ = (k : Int) := ⟨at_.toNat, by omega⟩
  have hk2 : k + d ≤ n := by omega
  have HL := hide (lay_put cs k ⟨r, m, x, d, ⟨f, g, b⟩⟩ hd2 (by rw [HN.out]; exact hk2))
  have ed : ((k + d : Nat) : Int) = (k : Int) + (d : Int) := by omega
  clear hk h0; go_wp2
  refine rgH (fun w' => Only g1 w2 w') [(true, 0), (true, 1), (true, 2), (true, 3), (true, 4), (true, 6), (true, 7), (false, 5), (false, 8), (false, 9), (false, 10)] (Only.of_below bd1) ?_
  iterate 5 refine stH (h := ?_)
  refine stH (hy := fun w hS => by obtain ⟨a0, a1, a2, a3, a4, a5, a6, -⟩ := cells7 (HP2.out.far hS HNP.out); go_simp <;> with_reducible rfl) (h := ?_)
  refine stH (hy := fun w hS => by obtain ⟨a0, a1, a2, a3, a4, a5, a6, -⟩ := cells7 (HP2.out.far hS HNP.out); go_simp <;> with_reducible rfl) (h := ?_)
  refine alH fun K hK => ?_
  go_wp2_with fail
  have hcut := cut_any g1 n k (k + d) w2.drew (by omega) hk2
  rw [ed, show k + d - k = d by omega] at hcut
  refine hcut.mono ?_
  rintro e j1 ⟨rfl, rfl⟩
  clear hcut
  have Oj1 : Only g1 w2 w2.drew := Only.of_below bd1
  go_wp2
  refine hK.out _ _ Oj1 ?_
  clear hK K
  refine alH fun K hK => ?_
  go_wp2_with fail
  refine (rest_v r m x d f g b _).mono ?_
  rintro e j2 ⟨rfl, hb⟩
  have Oj2 : Only g1 w2 j2 := Oj1.trans (Only.of_below hb)
  have Wj2 := hide ((HG2.out.drewN 1).later (w' := j2) hb)
  have HJ2 := hide Oj2; clear hb; go_wp2
  refine hK.out _ _ Oj2 ?_
  clear hK K
  refine alH fun K hK => ?_
  go_wp2
  have Oj3 : Only g1 w2 (j2.alloc (.cells #[.int .i32 r, .int .i32 m, .int .i32 x, .int .u8 d, .int .u8 f, .int .u8 g, .int .u8 b, .int .i32 0, .int .i32 0, .int .i32 0, .int .u8 0, .int .u8 f, .int .u8 g, .int .u8 b] 65)) := HJ2.out.trans (Only.of_below ((Below.refl _ _).alloc (Nat.le_refl _) _))
  refine hK.out _ _ Oj3 ?_
  clear hK K
  obtain ⟨j3, hj3⟩ := exq (j2.alloc (.cells #[.int .i32 r, .int .i32 m, .int .i32 x, .int .u8 d, .int .u8 f, .int .u8 g, .int .u8 b, .int .i32 0, .int .i32 0, .int .i32 0, .int .u8 0, .int .u8 f, .int .u8 g, .int .u8 b] 65))
  have Cj3 : Hid (Cels .i32 j3 (some ⟨j2.heap.size, 0, none⟩) [⟨r, m, x, d, ⟨f, g, b⟩⟩, restC ⟨r, m, x, d, ⟨f, g, b⟩⟩]) := by unfold Hid; rw [← hj3]; exact cels_two j2 65 ⟨r, m, x, d, ⟨f, g, b⟩⟩ (restC ⟨r, m, x, d, ⟨f, g, b⟩⟩)
  have Wj3 : Hid (Whole j3 g1 65 (flatC .i32 cs)) := by unfold Hid; rw [← hj3]; exact Wj2.out.alloc _
  rw [hj3]
  rw [hj3] at Oj3
  have HJ3 := hide Oj3; clear hj3 Oj3
  obtain ⟨j4, hrun, hw4, ho4⟩ := run_copyL elemL j3 3 g1 k 65 cs [⟨r, m, x, d, ⟨f, g, b⟩⟩, restC ⟨r, m, x, d, ⟨f, g, b⟩⟩] (some ⟨j2.heap.size, 0, none⟩) d d 2 2 Wj3.out Cj3.out rfl (by rw [HN.out]; omega)
  have Oj4 : Only g1 w2 j4 := HJ3.out.trans ho4
  have HJ4 := hide Oj4
  have Wj4 : Hid (Whole j4 g1 65 (flatC .i32 (putTab cs k ⟨r, m, x, d, ⟨f, g, b⟩⟩))) := by unfold Hid; rw [← HL.out]; exact hw4
  clear hw4 ho4
  refine alH fun K hK => ?_
  go_wp2
  refine hK.out _ _ HJ4.out ?_
  clear hK K
  refine chainH_nil ?_
  clear Oj1 Oj2 Oj4 hrun; go_wp2_with fail
  refine (mendown_any g1 n (putTab cs k ⟨r, m, x, d, ⟨f, g, b⟩⟩) j4 Wj4.out (by rw [putTab_len, HN.out]) hl).mono ?_
  rintro e j5 ⟨rfl, hw, ho⟩
  have HW5 := hide hw; have HO5 := hide ho; clear hw ho; go_wp2; go_ret2
  exact ⟨g1, by rw [HK.out, put_len, HN.out]; rfl, HG.out, by rw [put_yes HK.out]; exact HW5.out, (HJ4.out.trans HO5.out).below HB2.out HB2.out.size HG.out⟩
def LineV2 (k : IntKind) (cs : List Cel) (ok : Bool) (w : World) (e : Ending) (w' : World) : Prop := ∃ A c, e = .returned (.tuple #[.slice A cs.length c, .bool ok]) ∧ Cels k w' A cs ∧ Below w.heap.size w w'
def putAt (cs : List Cel) (k : Nat) (c : Cel) (i : Nat) : Cel := if i = k then c else if i = k + 1 ∧ c.w = 2 then restC c else cAt cs i
theorem putTab_is (cs : List Cel) (k : Nat) (c : Cel) : putTab cs k c = tab cs.length (putAt cs k c) := rfl
theorem putAt_a (cs : List Cel) (k : Nat) (c : Cel) : putAt cs k c k = c := by unfold putAt; rw [if_pos rfl]
theorem putAt_b {cs : List Cel} {k : Nat} {c : Cel} (h : c.w = 2) : putAt cs k c (k + 1) = restC c := by unfold putAt; rw [if_neg (by omega), if_pos ⟨rfl, h⟩]
theorem putAt_c {cs : List Cel} {k : Nat} {c : Cel} {i : Nat} (h : i ≠ k) (h2 : ¬ (i = k + 1 ∧ c.w = 2)) : putAt cs k c i = cAt cs i := by unfold putAt; rw [if_neg h, if_neg h2]
theorem rput_any (A : Option Addr) (n c : Nat) (at_ : Int) (r m x : Int) (d f g b : Nat) (hd : d < 256) (cs : List Cel) (w : World) (h : Cels .i64 w A cs) (hn : cs.length = n) (hl : n ≤ 1000000) (ha : -9223372036854775808 ≤ at_ ∧ at_ < 9223372036854775808) :
  Calls Tryz.prog 94 #[.slice A n c, .int .i64 at_, .agg #[.int .i64 r, .int .i64 m, .int .i64 x, .int .u8 d, .int .u8 f, .int .u8 g, .int .u8 b]] w (LineV2 .i64 (putC cs at_ ⟨r, m, x, d, ⟨f, g, b⟩⟩) (putOk cs at_ ⟨r, m, x, d, ⟨f, g, b⟩⟩) w) := by
 have HN := hide hn
 obtain ⟨W0, hW0⟩ := exq (w.alloc (.cells #[.int .i64 r, .int .i64 m, .int .i64 x, .int .u8 d, .int .u8 f, .int .u8 g, .int .u8 b] 95))
 have HB0 : Hid (Below w.heap.size w W0) := by unfold Hid; rw [← hW0]; exact (Below.refl _ _).alloc (Nat.le_refl _) _
 have HP0 : Hid (Whole W0 w.heap.size 95 [.int .i64 r, .int .i64 m, .int .i64 x, .int .u8 d, .int .u8 f, .int .u8 g, .int .u8 b]) := by unfold Hid; rw [← hW0]; exact Whole.new _ _ _
 have HC0 : Hid (Cels .i64 W0 A cs) := by unfold Hid; rw [← hW0]; exact h.alloc _
 have HW0 := hide hW0
 obtain ⟨R, hR⟩ := exq (rightC ⟨r, m, x, d, ⟨f, g, b⟩⟩)
 have key : (R = false ∧ putOk cs at_ ⟨r, m, x, d, ⟨f, g, b⟩⟩ = false) ∨ (R = true ∧ d = 0 ∧ putOk cs at_ ⟨r, m, x, d, ⟨f, g, b⟩⟩ = false) ∨ (R = true ∧ d ≠ 0 ∧ at_ < 0 ∧ putOk cs at_ ⟨r, m, x, d, ⟨f, g, b⟩⟩ = false) ∨ (R = true ∧ d ≠ 0 ∧ 0 ≤ at_ ∧ (n : Int) ≤ at_ ∧ putOk cs at_ ⟨r, m, x, d, ⟨f, g, b⟩⟩ = false) ∨ (R = true ∧ d = 2 ∧ 0 ≤ at_ ∧ at_ = (n : Int) - 1 ∧ putOk cs at_ ⟨r, m, x, d, ⟨f, g, b⟩⟩ = false) ∨ (R = true ∧ d = 2 ∧ 0 ≤ at_ ∧ at_ < (n : Int) - 1 ∧ putOk cs at_ ⟨r, m, x, d, ⟨f, g, b⟩⟩ = true) ∨ (R = true ∧ d = 1 ∧ 0 ≤ at_ ∧ at_ < (n : Int) ∧ putOk cs at_ ⟨r, m, x, d, ⟨f, g, b⟩⟩ = true) := by
  cases R
  ·exact .inl ⟨rfl, putOk_no (by rw [hR]; simp)⟩
  ·refine .inr ?_
   by_cases h0 : d = 0
   ·exact .inl ⟨rfl, h0, putOk_no (by simp [h0])⟩
   refine .inr ?_
   by_cases h1 : at_ < 0
   ·exact .inl ⟨rfl, h0, h1, putOk_no (by rintro ⟨_, _, q, _⟩; omega)⟩
   refine .inr ?_
   by_cases h2 : (n : Int) ≤ at_
   ·exact .inl ⟨rfl, h0, by omega, h2, putOk_no (by rintro ⟨_, _, _, q⟩; simp only at q; omega)⟩
   refine .inr ?_
   have hd2 : d = 1 ∨ d = 2 := by rcases right_w hR with q | q | q; exact absurd q h0; exact .inl q; exact .inr q
   rcases hd2 with q | q
   ·exact .inr (.inr ⟨rfl, q, by omega, by omega, putOk_yes ⟨hR, h0, by omega, by simp only; omega⟩⟩)
   ·by_cases h3 : at_ = (n : Int) - 1
    ·exact .inl ⟨rfl, q, by omega, h3, putOk_no (by rintro ⟨_, _, _, q⟩; simp only at q; omega)⟩
    ·exact .inr (.inl ⟨rfl, q, by omega, by omega, putOk_yes ⟨hR, h0, by omega, by simp only; omega⟩⟩)
 have HR := hide hR; clear h hn hW0 hR
 obtain ⟨a0, a1, a2, a3, a4, a5, a6, -⟩ := cells7 HP0.out
 go_enter Tryz.func94, Tryz.ntmps94
 go_wp2_with fail
 rw [HW0.out]
 refine (rcright_any r m x d f g b hd W0).mono ?_
 rintro e w2 ⟨rfl, hb⟩
 rw [HR.out]
 clear a0 a1 a2 a3 a4 a5 a6
 have HB2 := hide (HB0.out.trans (hb.mono HB0.out.size))
 have HP2 := hide (HP0.out.later hb)
 have HC2 := hide (HC0.out.below hb)
 clear hb HC0 HP0 HB0
 obtain ⟨a0, a1, a2, a3, a4, a5, a6, -⟩ := cells7 HP2.out
 rcases key with ⟨rfl, hk⟩ | ⟨rfl, h0, hk⟩ | ⟨rfl, h0, h1, hk⟩ | ⟨rfl, h0, h1, h2, hk⟩ | ⟨rfl, h0, h1, h2, hk⟩ | ⟨rfl, h0, h1, h2, hk⟩ | ⟨rfl, h0, h1, h2, hk⟩
 ·have HK := hide hk
  clear hk; go_wp2; go_ret2
  exact ⟨A, c, by rw [HK.out, put_no HK.out, HN.out]; rfl, by rw [put_no HK.out]; exact HC2.out, HB2.out⟩
 ·have HK := hide hk
  have e0 : ((d : Int) == 0) = true := by simp; omega
  clear hk h0; go_wp2; go_ret2
  exact ⟨A, c, by rw [HK.out, put_no HK.out, HN.out]; rfl, by rw [put_no HK.out]; exact HC2.out, HB2.out⟩
 ·have HK := hide hk
  have e0 : ((d : Int) == 0) = false := by simp; omega
  clear hk h0; go_wp2; go_ret2
  exact ⟨A, c, by rw [HK.out, put_no HK.out, HN.out]; rfl, by rw [put_no HK.out]; exact HC2.out, HB2.out⟩
 ·have HK := hide hk
  have e0 : ((d : Int) == 0) = false := by simp; omega
  clear hk h0; go_wp2; go_ret2
  exact ⟨A, c, by rw [HK.out, put_no HK.out, HN.out]; rfl, by rw [put_no HK.out]; exact HC2.out, HB2.out⟩
 ·have HK := hide hk
  have e0 : ((d : Int) == 0) = false := by simp; omega
  have e2 : ((d : Int) == 2) = true := by simp; omega
  have e3 : (at_ == (n : Int) - 1) = true := by simp; omega
  clear hk h0; go_wp2; go_ret2
  exact ⟨A, c, by rw [HK.out, put_no HK.out, HN.out]; rfl, by rw [put_no HK.out]; exact HC2.out, HB2.out⟩
 ·obtain ⟨k0, rfl⟩ : ∃ k0 : Nat, at_ = (k0 : Int) := ⟨at_.toNat, by omega⟩
  have HK := hide hk
  have e0 : ((d : Int) == 0) = false := by simp; omega
  have e2 : ((d : Int) == 2) = true := by simp; omega
  have e3 : ((k0 : Int) == (n : Int) - 1) = false := by simp; omega
  have HD2 := hide h0; clear h0 hk h1; go_wp2; clear a0 a1 a2 a3 a4 a5 a6
  try generalize decide (n ≤ k0) = B1
  try generalize decide ((k0 : Int) < 0) = B2
  go_loopw [8, 9] (fun v i wr => ∃ k : Nat, k ≤ n ∧ i = .int .i64 k ∧ OwnC 95 .i64 w2.heap.size w2 wr v (tab k (putAt cs k0 ⟨r, m, x, d, ⟨f, g, b⟩⟩))) (fun _ i _ => n - (intOf i).toNat)
  case atStart => exact ⟨0, Nat.zero_le _, rfl, OwnC.start (Nat.le_refl _)⟩
  case round =>
   obtain ⟨k, hk, rfl, hown⟩ := hrel
   have HV := hide hown; clear hown
   by_cases hlt : k < n
   ·by_cases hk0 : k = k0
    ·have HM : Hid (putAt cs k0 ⟨r, m, x, d, ⟨f, g, b⟩⟩ k = ⟨r, m, x, d, ⟨f, g, b⟩⟩) := by unfold Hid; rw [hk0]; exact putAt_a cs k0 _
     have q0 : ((k : Int) == (k0 : Int)) = true := by simp; omega
     obtain ⟨a0, a1, a2, a3, a4, a5, a6, -⟩ := cells7 (HP2.out.later HV.out.bel)
     go_wp2_with (at_builtin; refine stopw ?_)
     unfold Hid
     refine wpList_pushC elemLC ⟨r, m, x, d, ⟨f, g, b⟩⟩ rfl _ _ rfl rfl rfl (HV.out) (by rw [tab_len]; omega) (by omega) ?_
     intro v' wn hn1
     have HV' := hide (hn1.snoc HM.out)
     clear hn1 a0 a1 a2 a3 a4 a5 a6; go_wp2
     go_roundw
     case rel => exact ⟨k + 1, by omega, by go_num, HV'.out⟩
     case measure => simp [intOf]; omega
    ·have q0 : ((k : Int) == (k0 : Int)) = false := by simp; omega
     by_cases hk1 : k = k0 + 1
     ·have q1 : ((k : Int) == (k0 : Int) + 1) = true := by simp; omega
      have HM := hide (putAt_b (cs := cs) (k := k0) (c := ⟨r, m, x, d, ⟨f, g, b⟩⟩) HD2.out)
      subst hk1
      obtain ⟨a0, a1, a2, a3, a4, a5, a6, -⟩ := cells7 (HP2.out.later HV.out.bel)
      go_wp2_with fail
      refine (rrest_v r m x d f g b wr).mono ?_
      rintro e w4 ⟨rfl, hb4⟩
      have HV1 := hide (HV.out.later hb4)
      clear hb4 a0 a1 a2 a3 a4 a5 a6
      go_wp2_with (at_builtin; refine stopw ?_)
      unfold Hid
      refine wpList_pushC elemLC ⟨0, 0, 0, 0, ⟨f, g, b⟩⟩ rfl _ _ rfl rfl rfl (HV1.out) (by rw [tab_len]; omega) (by omega) ?_
      intro v' wn hn1
      have HV' := hide (hn1.snoc HM.out)
      clear hn1; go_wp2
      go_roundw
      case rel => exact ⟨k0 + 1 + 1, by omega, by go_num, HV'.out⟩
      case measure => simp [intOf]; omega
     ·have q1 : ((k : Int) == (k0 : Int) + 1) = false := by simp; omega
      have HM := hide (putAt_c (cs := cs) (c := ⟨r, m, x, d, ⟨f, g, b⟩⟩) (k := k0) (i := k) hk0 (by omega))
      obtain ⟨b1, o1, rfl, l1, -⟩ := HC2.out.at (i := k) (by rw [HN.out]; exact hlt)
      obtain ⟨⟨r', x', y', z', ⟨f', g', b'⟩⟩, hc⟩ : ∃ q, cAt cs k = q := ⟨_, rfl⟩
      rw [hc] at HM
      obtain ⟨a0, a1, a2, a3, a4, a5, a6, -⟩ := (HC2.out.below HV.out.bel).sevenC k (by rw [HN.out]; exact hlt) hc
      clear hc
      go_wp2_with (at_builtin; refine stopw ?_)
      unfold Hid
      refine wpList_pushC elemLC ⟨r', x', y', z', ⟨f', g', b'⟩⟩ rfl _ _ rfl rfl rfl (HV.out) (by rw [tab_len]; omega) (by omega) ?_
      intro v' wn hn1
      have HV' := hide (hn1.snoc HM.out)
      clear hn1 a0 a1 a2 a3 a4 a5 a6; go_wp2
      go_roundw
      case rel => exact ⟨k + 1, by omega, by go_num, HV'.out⟩
      case measure => simp [intOf]; omega
   ·obtain rfl : k = n := by omega
    obtain ⟨A3, c3, hv, hc3, hcap, hnil, hmax⟩ := HV.out.form
    rw [tab_len] at hv
    subst hv
    have HC3 : Hid (Cels .i64 wr A3 (putTab cs k0 ⟨r, m, x, d, ⟨f, g, b⟩⟩)) := by unfold Hid; rw [putTab_is, HN.out]; exact hc3
    clear hc3 hcap hnil hmax; go_wp2_with fail
    refine (rmend_any A3 k c3 (putTab cs k0 ⟨r, m, x, d, ⟨f, g, b⟩⟩) wr HC3.out (by rw [putTab_len, HN.out]) hl).mono ?_
    rintro e w4 ⟨v2, rfl, ho2⟩
    have HO2 := hide ((ho2.from (HV.out.bel) HV.out.le).from HB2.out HB2.out.size)
    clear ho2; go_wp2; go_ret2
    obtain ⟨A5, c5, hv5, hc5, -⟩ := HO2.out.form
    have e9 : putC cs (k0 : Int) ⟨r, m, x, d, ⟨f, g, b⟩⟩ = mendC (putTab cs k0 ⟨r, m, x, d, ⟨f, g, b⟩⟩) := put_yes HK.out
    exact ⟨A5, c5, by rw [HK.out, e9, ← hv5]; rfl, by rw [e9]; exact hc5, HO2.out.bel⟩
 ·obtain ⟨k0, rfl⟩ : ∃ k0 : Nat, at_ = (k0 : Int) := ⟨at_.toNat, by omega⟩
  have HK := hide hk
  have e0 : ((d : Int) == 0) = false := by simp; omega
  have e2 : ((d : Int) == 2) = false := by simp; omega
  have HD2 := hide h0; clear h0 hk h1; go_wp2; clear a0 a1 a2 a3 a4 a5 a6
  try generalize decide (n ≤ k0) = B1
  try generalize decide ((k0 : Int) < 0) = B2
  go_loopw [8, 9] (fun v i wr => ∃ k : Nat, k ≤ n ∧ i = .int .i64 k ∧ OwnC 95 .i64 w2.heap.size w2 wr v (tab k (putAt cs k0 ⟨r, m, x, d, ⟨f, g, b⟩⟩))) (fun _ i _ => n - (intOf i).toNat)
  case atStart => exact ⟨0, Nat.zero_le _, rfl, OwnC.start (Nat.le_refl _)⟩
  case round =>
   obtain ⟨k, hk, rfl, hown⟩ := hrel
   have HV := hide hown; clear hown
   by_cases hlt : k < n
   ·by_cases hk0 : k = k0
    ·have HM : Hid (putAt cs k0 ⟨r, m, x, d, ⟨f, g, b⟩⟩ k = ⟨r, m, x, d, ⟨f, g, b⟩⟩) := by unfold Hid; rw [hk0]; exact putAt_a cs k0 _
     have q0 : ((k : Int) == (k0 : Int)) = true := by simp; omega
     obtain ⟨a0, a1, a2, a3, a4, a5, a6, -⟩ := cells7 (HP2.out.later HV.out.bel)
     go_wp2_with (at_builtin; refine stopw ?_)
     unfold Hid
     refine wpList_pushC elemLC ⟨r, m, x, d, ⟨f, g, b⟩⟩ rfl _ _ rfl rfl rfl (HV.out) (by rw [tab_len]; omega) (by omega) ?_
     intro v' wn hn1
     have HV' := hide (hn1.snoc HM.out)
     clear hn1 a0 a1 a2 a3 a4 a5 a6; go_wp2
     go_roundw
     case rel => exact ⟨k + 1, by omega, by go_num, HV'.out⟩
     case measure => simp [intOf]; omega
    ·have q0 : ((k : Int) == (k0 : Int)) = false := by simp; omega
     have HM := hide (putAt_c (cs := cs) (c := ⟨r, m, x, d, ⟨f, g, b⟩⟩) (k := k0) (i := k) hk0 (by have := HD2.out; simp only; omega))
     by_cases hk1 : k = k0 + 1
     ·have q1 : ((k : Int) == (k0 : Int) + 1) = true := by simp; omega
      subst hk1
      obtain ⟨b1, o1, rfl, l1, -⟩ := HC2.out.at (i := k0 + 1) (by rw [HN.out]; exact hlt)
      obtain ⟨⟨r', x', y', z', ⟨f', g', b'⟩⟩, hc⟩ : ∃ q, cAt cs (k0 + 1) = q := ⟨_, rfl⟩
      rw [hc] at HM
      obtain ⟨a0, a1, a2, a3, a4, a5, a6, -⟩ := (HC2.out.below HV.out.bel).sevenC (k0 + 1) (by rw [HN.out]; exact hlt) hc
      clear hc
      obtain ⟨-, -, -, c3, -, -, -, -⟩ := cells7 (HP2.out.later HV.out.bel)
      go_wp2_with (at_builtin; refine stopw ?_)
      unfold Hid
      refine wpList_pushC elemLC ⟨r', x', y', z', ⟨f', g', b'⟩⟩ rfl _ _ rfl rfl rfl (HV.out) (by rw [tab_len]; omega) (by omega) ?_
      intro v' wn hn1
      have HV' := hide (hn1.snoc HM.out)
      clear hn1 a0 a1 a2 a3 a4 a5 a6 c3; go_wp2
      go_roundw
      case rel => exact ⟨k0 + 1 + 1, by omega, by go_num, HV'.out⟩
      case measure => simp [intOf]; omega
     ·have q1 : ((k : Int) == (k0 : Int) + 1) = false := by simp; omega
      obtain ⟨b1, o1, rfl, l1, -⟩ := HC2.out.at (i := k) (by rw [HN.out]; exact hlt)
      obtain ⟨⟨r', x', y', z', ⟨f', g', b'⟩⟩, hc⟩ : ∃ q, cAt cs k = q := ⟨_, rfl⟩
      rw [hc] at HM
      obtain ⟨a0, a1, a2, a3, a4, a5, a6, -⟩ := (HC2.out.below HV.out.bel).sevenC k (by rw [HN.out]; exact hlt) hc
      clear hc
      go_wp2_with (at_builtin; refine stopw ?_)
      unfold Hid
      refine wpList_pushC elemLC ⟨r', x', y', z', ⟨f', g', b'⟩⟩ rfl _ _ rfl rfl rfl (HV.out) (by rw [tab_len]; omega) (by omega) ?_
      intro v' wn hn1
      have HV' := hide (hn1.snoc HM.out)
      clear hn1 a0 a1 a2 a3 a4 a5 a6; go_wp2
      go_roundw
      case rel => exact ⟨k + 1, by omega, by go_num, HV'.out⟩
      case measure => simp [intOf]; omega
   ·obtain rfl : k = n := by omega
    obtain ⟨A3, c3, hv, hc3, hcap, hnil, hmax⟩ := HV.out.form
    rw [tab_len] at hv
    subst hv
    have HC3 : Hid (Cels .i64 wr A3 (putTab cs k0 ⟨r, m, x, d, ⟨f, g, b⟩⟩)) := by unfold Hid; rw [putTab_is, HN.out]; exact hc3
    clear hc3 hcap hnil hmax; go_wp2_with fail
    refine (rmend_any A3 k c3 (putTab cs k0 ⟨r, m, x, d, ⟨f, g, b⟩⟩) wr HC3.out (by rw [putTab_len, HN.out]) hl).mono ?_
    rintro e w4 ⟨v2, rfl, ho2⟩
    have HO2 := hide ((ho2.from (HV.out.bel) HV.out.le).from HB2.out HB2.out.size)
    clear ho2; go_wp2; go_ret2
    obtain ⟨A5, c5, hv5, hc5, -⟩ := HO2.out.form
    have e9 : putC cs (k0 : Int) ⟨r, m, x, d, ⟨f, g, b⟩⟩ = mendC (putTab cs k0 ⟨r, m, x, d, ⟨f, g, b⟩⟩) := put_yes HK.out
    exact ⟨A5, c5, by rw [HK.out, e9, ← hv5]; rfl, by rw [e9]; exact hc5, HO2.out.bel⟩
theorem flat_set (k : IntKind) (cs : List Cel) (j : Nat) (c : Cel) (h : j < cs.length) : (flatC k cs).take (j * 7) ++ ([.int k c.r, .int k c.m, .int k c.n, .int .u8 c.w, .int .u8 c.p.f, .int .u8 c.p.g, .int .u8 c.p.b] ++ (flatC k cs).drop (j * 7 + 7)) = flatC k (cs.set j c) := by
 rw [set_lay cs j c h, flat_lay]
 rfl
theorem OwnC.put {e : TypeId} {k : IntKind} {B : Nat} {w wr : World} {g n cap : Nat} {cs : List Cel} (h : OwnC e k B w wr (.slice (some ⟨g, 0, none⟩) n cap) cs) (hn : cs.length = n) (o j : Nat) (ho : o = j * 7) (hj : j < n) (c : Cel) :
  OwnC e k B w (((((((wr.setCell ⟨g, o, none⟩ (.int k c.r)).setCell ⟨g, o + 1, none⟩ (.int k c.m)).setCell ⟨g, o + 2, none⟩ (.int k c.n)).setCell ⟨g, o + 3, none⟩ (.int .u8 c.w)).setCell ⟨g, o + 4, none⟩ (.int .u8 c.p.f)).setCell ⟨g, o + 5, none⟩ (.int .u8 c.p.g)).setCell ⟨g, o + 6, none⟩ (.int .u8 c.p.b)) (.slice (some ⟨g, 0, none⟩) n cap) (cs.set j c) := by
 subst hn
 have hB : B ≤ g := (h.own.lt g rfl).1
 have s0 := (h.own.stored o (.int k c.r)).1
 have s1 := (s0.stored (o + 1) (.int k c.m)).1
 have s2 := (s1.stored (o + 2) (.int k c.n)).1
 have s3 := (s2.stored (o + 3) (.int .u8 c.w)).1
 have s4 := (s3.stored (o + 4) (.int .u8 c.p.f)).1
 have s5 := (s4.stored (o + 5) (.int .u8 c.p.g)).1
 have s6 := (s5.stored (o + 6) (.int .u8 c.p.b)).1
 clear s0 s1 s2 s3 s4 s5
 rw [set7 _ o (by rw [flatC_len]; omega)] at s6
 subst ho
 rw [flat_set k cs j c hj] at s6
 refine ⟨?_, (only_cell (j * 7) _ _ _ _ _ _ _).below h.bel h.le hB, ?_⟩
 ·rw [List.length_set]; exact s6
 ·have := h.le; simp only [World.size_setCell]; exact this
theorem rlmark_any (A : Option Addr) (n c : Nat) (at_ x : Int) (cs : List Cel) (w : World) (h : Cels .i64 w A cs) (hn : cs.length = n) (hl : n ≤ 1000000) (hA : A = none → c = 0) :
  Calls Tryz.prog 95 #[.slice A n c, .int .i64 at_, .int .i64 x] w (LineV2 .i64 (lmarkC cs at_ x).1 (lmarkC cs at_ x).2 w) := by
 have HC := hide h; have HN := hide hn; have HA := hide hA; clear h hn hA
 by_cases hin : 0 ≤ at_ ∧ at_ < (n : Int)
 ·obtain ⟨k, rfl⟩ : ∃ k : Nat, at_ = (k : Int) := ⟨at_.toNat, by omega⟩
  have hk : k < n := by omega
  clear hin
  obtain ⟨b0, o0, rfl, l0, -⟩ := HC.out.at (i := k) (by rw [HN.out]; exact hk)
  by_cases h0 : wAt cs k = 0
  ·have e0 : ((wAt cs k : Int) == 0) = true := by simp; omega
   cases hal : aloneC cs k
   ·obtain ⟨j, rfl⟩ : ∃ j, k = j + 1 := ⟨k - 1, by have := (alone_0 h0 hal).1; omega⟩
    have HJ := hide (mkAt_not h0 hal)
    have h2 : wAt cs j = 2 := (alone_0 h0 hal).2
    have c3 := HC.out.wide (j + 1) (by rw [HN.out]; exact hk)
    obtain ⟨⟨r, m, y, d, ⟨f, z, b⟩⟩, hc⟩ : ∃ q, cAt cs j = q := ⟨_, rfl⟩
    obtain ⟨⟨⟨r1, m1, y1, d1, ⟨f1, z1, b1⟩⟩, ok⟩, hm⟩ : ∃ q, markC (cAt cs j) x = q := ⟨_, rfl⟩
    have HE := hide (lmark_yes (by rw [HN.out]; omega) HJ.out hm)
    rw [hc] at hm
    have HM := hide hm; clear hm
    obtain ⟨v0, v1, v2, v3, v4, v5, v6, -⟩ := HC.out.sevenC j (by rw [HN.out]; omega) hc
    have e2 : ((d : Int) == 2) = true := by have q := wAt_of (by rw [HN.out]; omega) hc; simp; omega
    clear h0 hal h2; clear hc
    go_enter Tryz.func95, Tryz.ntmps95
    go_wp2_with fail
    refine (rcmark_v r m y d f z b x r1 m1 y1 d1 f1 z1 b1 ok HM.out w).mono ?_
    rintro e w2 ⟨rfl, hb⟩
    clear v0 v1 v2 v3 v4 v5 v6
    have hb8 := hb.alloc hb.size (.cells #[.int .i64 r1, .int .i64 m1, .int .i64 y1, .int .u8 d1, .int .u8 f1, .int .u8 z1, .int .u8 b1] 95)
    obtain ⟨W2, hW2⟩ := exq (w2.alloc (.cells #[.int .i64 r1, .int .i64 m1, .int .i64 y1, .int .u8 d1, .int .u8 f1, .int .u8 z1, .int .u8 b1] 95))
    rw [hW2] at hb8
    have HB2 := hide hb8
    have HP2 : Hid (Whole W2 w2.heap.size 95 [.int .i64 r1, .int .i64 m1, .int .i64 y1, .int .u8 d1, .int .u8 f1, .int .u8 z1, .int .u8 b1]) := by unfold Hid; rw [← hW2]; exact Whole.new _ _ _
    have HC2 := hide ((HC.out.below hb8).alloc (.cells #[] 95))
    have hsz : w2.heap.size + 1 = W2.heap.size := by rw [← hW2]; simp
    have HW2 := hide hW2; clear hb hb8 hW2
    go_wp2_with (at_builtin; refine stopw ?_)
    unfold Hid
    rw [HW2.out]
    refine wpList_catC elemLC rfl _ _ rfl rfl rfl (OwnC.empty W2 95 .i64) HC2.out HN.out HA.out (by simp; omega) (by omega) ?_
    intro v' w5 hown
    rw [List.nil_append] at hown
    obtain ⟨g5, c5, rfl⟩ : ∃ g5 c5, v' = .slice (some ⟨g5, 0, none⟩) n c5 := by
     rcases hown.own.2 with ⟨-, h0⟩ | ⟨g5, c5, cur, hv, -⟩
     ·rw [HN.out] at h0; omega
     ·exact ⟨g5, c5, by rw [hv, HN.out]⟩
    obtain ⟨A6, c6, hv6, hc6, -⟩ := hown.form
    injection hv6 with q1 q2 q3
    subst q1; clear q2 q3; have HO := hide hown
    have hfz : ∀ i, w5.frozen? ⟨g5, i, none⟩ = false := by
     rcases hown.own.2 with ⟨h0, -⟩ | ⟨g, cap, cur, hv, -, hh, -⟩
     ·cases h0
     ·cases hv; intro i; simp [World.frozen?, hh]
    obtain ⟨⟨r9, m9, y9, d9, ⟨f9, z9, b9⟩⟩, hc9⟩ : ∃ q, cAt cs j = q := ⟨_, rfl⟩
    obtain ⟨v0, v1, v2, v3, v4, v5, v6, -⟩ := hc6.sevenC j (by rw [HN.out]; omega) hc9
    simp only [Nat.zero_add] at v0 v1 v2 v3 v4 v5 v6
    obtain ⟨t0, t1, t2, t3, t4, t5, t6, -⟩ := cells7 (HP2.out.later hown.bel)
    clear hown hc6 hc9; go_wp2; go_ret2
    have hfin := HO.out.put HN.out (j * 7) j rfl (by omega) ⟨r1, m1, y1, d1, ⟨f1, z1, b1⟩⟩
    obtain ⟨A7, c7, hv7, hc7, -⟩ := hfin.form
    have hB7 := (hfin.from HB2.out HB2.out.size).bel
    injection hv7 with q1 q2 q3
    subst q1 q3
    exact ⟨_, c5, by rw [HE.out]; simp only [List.length_set]; rw [HN.out]; rfl, by rw [HE.out]; exact hc7, hB7⟩
   ·have HJ := hide (mkAt_alone h0 hal)
    have hp : k = 0 ∨ (k ≠ 0 ∧ wAt cs (k - 1) ≠ 2) := by
     by_cases q : k = 0
     ·exact .inl q
     ·refine .inr ⟨q, fun q2 => ?_⟩
      have : aloneC cs k = false := by unfold aloneC; rw [if_neg (by omega), if_pos h0]; simp [q2]; omega
      rw [this] at hal; cases hal
    rcases hp with hp | ⟨hp, hp2⟩
    ·subst hp
     obtain ⟨⟨r, m, y, d, ⟨f, z, b⟩⟩, hc⟩ : ∃ q, cAt cs 0 = q := ⟨_, rfl⟩
     obtain ⟨⟨⟨r1, m1, y1, d1, ⟨f1, z1, b1⟩⟩, ok⟩, hm⟩ : ∃ q, markC (cAt cs 0) x = q := ⟨_, rfl⟩
     have HE := hide (lmark_yes (by rw [HN.out]; omega) HJ.out hm)
     rw [hc] at hm
     have HM := hide hm; clear hm
     obtain ⟨v0, v1, v2, v3, v4, v5, v6, -⟩ := HC.out.sevenC 0 (by rw [HN.out]; omega) hc
     have e1 : ((d : Int) == 0) = true := by rw [← wAt_of (by rw [HN.out]; exact hk) hc]; exact e0
     simp only [Nat.zero_mul, Nat.add_zero] at v0 v1 v2 v3 v4 v5 v6
     clear h0 hal; clear hc
     go_enter Tryz.func95, Tryz.ntmps95
     go_wp2_with fail
     refine (rcmark_v r m y d f z b x r1 m1 y1 d1 f1 z1 b1 ok HM.out w).mono ?_
     rintro e w2 ⟨rfl, hb⟩
     clear v0 v1 v2 v3 v4 v5 v6
     have hb8 := hb.alloc hb.size (.cells #[.int .i64 r1, .int .i64 m1, .int .i64 y1, .int .u8 d1, .int .u8 f1, .int .u8 z1, .int .u8 b1] 95)
     obtain ⟨W2, hW2⟩ := exq (w2.alloc (.cells #[.int .i64 r1, .int .i64 m1, .int .i64 y1, .int .u8 d1, .int .u8 f1, .int .u8 z1, .int .u8 b1] 95))
     rw [hW2] at hb8
     have HB2 := hide hb8
     have HP2 : Hid (Whole W2 w2.heap.size 95 [.int .i64 r1, .int .i64 m1, .int .i64 y1, .int .u8 d1, .int .u8 f1, .int .u8 z1, .int .u8 b1]) := by unfold Hid; rw [← hW2]; exact Whole.new _ _ _
     have HC2 := hide ((HC.out.below hb8).alloc (.cells #[] 95))
     have hsz : w2.heap.size + 1 = W2.heap.size := by rw [← hW2]; simp
     have HW2 := hide hW2; clear hb hb8 hW2
     go_wp2_with (at_builtin; refine stopw ?_)
     unfold Hid
     rw [HW2.out]
     refine wpList_catC elemLC rfl _ _ rfl rfl rfl (OwnC.empty W2 95 .i64) HC2.out HN.out HA.out (by simp; omega) (by omega) ?_
     intro v' w5 hown
     rw [List.nil_append] at hown
     obtain ⟨g5, c5, rfl⟩ : ∃ g5 c5, v' = .slice (some ⟨g5, 0, none⟩) n c5 := by
      rcases hown.own.2 with ⟨-, h0⟩ | ⟨g5, c5, cur, hv, -⟩
      ·rw [HN.out] at h0; omega
      ·exact ⟨g5, c5, by rw [hv, HN.out]⟩
     obtain ⟨A6, c6, hv6, hc6, -⟩ := hown.form
     injection hv6 with q1 q2 q3
     subst q1; clear q2 q3; have HO := hide hown
     have hfz : ∀ i, w5.frozen? ⟨g5, i, none⟩ = false := by
      rcases hown.own.2 with ⟨h0, -⟩ | ⟨g, cap, cur, hv, -, hh, -⟩
      ·cases h0
      ·cases hv; intro i; simp [World.frozen?, hh]
     obtain ⟨⟨r9, m9, y9, d9, ⟨f9, z9, b9⟩⟩, hc9⟩ : ∃ q, cAt cs 0 = q := ⟨_, rfl⟩
     obtain ⟨v0, v1, v2, v3, v4, v5, v6, -⟩ := hc6.sevenC 0 (by rw [HN.out]; omega) hc9
     simp only [Nat.zero_mul, Nat.zero_add] at v0 v1 v2 v3 v4 v5 v6
     obtain ⟨t0, t1, t2, t3, t4, t5, t6, -⟩ := cells7 (HP2.out.later hown.bel)
     clear hown hc6 hc9; go_wp2; go_ret2
     have hfin := HO.out.put HN.out 0 0 rfl (by omega) ⟨r1, m1, y1, d1, ⟨f1, z1, b1⟩⟩
     obtain ⟨A7, c7, hv7, hc7, -⟩ := hfin.form
     have hB7 := (hfin.from HB2.out HB2.out.size).bel
     injection hv7 with q1 q2 q3
     subst q1 q3
     exact ⟨_, c5, by rw [HE.out]; simp only [List.length_set]; rw [HN.out]; rfl, by rw [HE.out]; exact hc7, hB7⟩
    ·obtain ⟨j, rfl⟩ : ∃ j, k = j + 1 := ⟨k - 1, by omega⟩
     rw [show j + 1 - 1 = j by omega] at hp2
     have c4 := HC.out.wide j (by rw [HN.out]; omega)
     have e4 : ((wAt cs j : Int) == 2) = false := by simp; omega
     obtain ⟨⟨r, m, y, d, ⟨f, z, b⟩⟩, hc⟩ : ∃ q, cAt cs (j + 1) = q := ⟨_, rfl⟩
     obtain ⟨⟨⟨r1, m1, y1, d1, ⟨f1, z1, b1⟩⟩, ok⟩, hm⟩ : ∃ q, markC (cAt cs (j + 1)) x = q := ⟨_, rfl⟩
     have HE := hide (lmark_yes (by rw [HN.out]; omega) HJ.out hm)
     rw [hc] at hm
     have HM := hide hm; clear hm
     obtain ⟨v0, v1, v2, v3, v4, v5, v6, -⟩ := HC.out.sevenC (j + 1) (by rw [HN.out]; omega) hc
     have e1 : ((d : Int) == 0) = true := by rw [← wAt_of (by rw [HN.out]; exact hk) hc]; exact e0
     clear h0 hal hp hp2; clear hc
     go_enter Tryz.func95, Tryz.ntmps95
     go_wp2_with fail
     refine (rcmark_v r m y d f z b x r1 m1 y1 d1 f1 z1 b1 ok HM.out w).mono ?_
     rintro e w2 ⟨rfl, hb⟩
     clear v0 v1 v2 v3 v4 v5 v6
     have hb8 := hb.alloc hb.size (.cells #[.int .i64 r1, .int .i64 m1, .int .i64 y1, .int .u8 d1, .int .u8 f1, .int .u8 z1, .int .u8 b1] 95)
     obtain ⟨W2, hW2⟩ := exq (w2.alloc (.cells #[.int .i64 r1, .int .i64 m1, .int .i64 y1, .int .u8 d1, .int .u8 f1, .int .u8 z1, .int .u8 b1] 95))
     rw [hW2] at hb8
     have HB2 := hide hb8
     have HP2 : Hid (Whole W2 w2.heap.size 95 [.int .i64 r1, .int .i64 m1, .int .i64 y1, .int .u8 d1, .int .u8 f1, .int .u8 z1, .int .u8 b1]) := by unfold Hid; rw [← hW2]; exact Whole.new _ _ _
     have HC2 := hide ((HC.out.below hb8).alloc (.cells #[] 95))
     have hsz : w2.heap.size + 1 = W2.heap.size := by rw [← hW2]; simp
     have HW2 := hide hW2; clear hb hb8 hW2
     go_wp2_with (at_builtin; refine stopw ?_)
     unfold Hid
     rw [HW2.out]
     refine wpList_catC elemLC rfl _ _ rfl rfl rfl (OwnC.empty W2 95 .i64) HC2.out HN.out HA.out (by simp; omega) (by omega) ?_
     intro v' w5 hown
     rw [List.nil_append] at hown
     obtain ⟨g5, c5, rfl⟩ : ∃ g5 c5, v' = .slice (some ⟨g5, 0, none⟩) n c5 := by
      rcases hown.own.2 with ⟨-, h0⟩ | ⟨g5, c5, cur, hv, -⟩
      ·rw [HN.out] at h0; omega
      ·exact ⟨g5, c5, by rw [hv, HN.out]⟩
     obtain ⟨A6, c6, hv6, hc6, -⟩ := hown.form
     injection hv6 with q1 q2 q3
     subst q1; clear q2 q3; have HO := hide hown
     have hfz : ∀ i, w5.frozen? ⟨g5, i, none⟩ = false := by
      rcases hown.own.2 with ⟨h0, -⟩ | ⟨g, cap, cur, hv, -, hh, -⟩
      ·cases h0
      ·cases hv; intro i; simp [World.frozen?, hh]
     obtain ⟨⟨r9, m9, y9, d9, ⟨f9, z9, b9⟩⟩, hc9⟩ : ∃ q, cAt cs (j + 1) = q := ⟨_, rfl⟩
     obtain ⟨v0, v1, v2, v3, v4, v5, v6, -⟩ := hc6.sevenC (j + 1) (by rw [HN.out]; omega) hc9
     simp only [Nat.zero_add] at v0 v1 v2 v3 v4 v5 v6
     obtain ⟨t0, t1, t2, t3, t4, t5, t6, -⟩ := cells7 (HP2.out.later hown.bel)
     clear hown hc6 hc9; go_wp2; go_ret2
     have hfin := HO.out.put HN.out ((j + 1) * 7) (j + 1) rfl (by omega) ⟨r1, m1, y1, d1, ⟨f1, z1, b1⟩⟩
     obtain ⟨A7, c7, hv7, hc7, -⟩ := hfin.form
     have hB7 := (hfin.from HB2.out HB2.out.size).bel
     injection hv7 with q1 q2 q3
     subst q1 q3
     exact ⟨_, c5, by rw [HE.out]; simp only [List.length_set]; rw [HN.out]; rfl, by rw [HE.out]; exact hc7, hB7⟩
  ·have HJ := hide (mkAt_same h0)
   obtain ⟨⟨r, m, y, d, ⟨f, z, b⟩⟩, hc⟩ : ∃ q, cAt cs k = q := ⟨_, rfl⟩
   obtain ⟨⟨⟨r1, m1, y1, d1, ⟨f1, z1, b1⟩⟩, ok⟩, hm⟩ : ∃ q, markC (cAt cs k) x = q := ⟨_, rfl⟩
   have HE := hide (lmark_yes (by rw [HN.out]; omega) HJ.out hm)
   rw [hc] at hm
   have HM := hide hm; clear hm
   obtain ⟨v0, v1, v2, v3, v4, v5, v6, -⟩ := HC.out.sevenC k (by rw [HN.out]; omega) hc
   have e1 : ((d : Int) == 0) = false := by have q := wAt_of (by rw [HN.out]; exact hk) hc; simp; omega
   clear h0; clear hc
   go_enter Tryz.func95, Tryz.ntmps95
   go_wp2_with fail
   refine (rcmark_v r m y d f z b x r1 m1 y1 d1 f1 z1 b1 ok HM.out w).mono ?_
   rintro e w2 ⟨rfl, hb⟩
   clear v0 v1 v2 v3 v4 v5 v6
   have hb8 := hb.alloc hb.size (.cells #[.int .i64 r1, .int .i64 m1, .int .i64 y1, .int .u8 d1, .int .u8 f1, .int .u8 z1, .int .u8 b1] 95)
   obtain ⟨W2, hW2⟩ := exq (w2.alloc (.cells #[.int .i64 r1, .int .i64 m1, .int .i64 y1, .int .u8 d1, .int .u8 f1, .int .u8 z1, .int .u8 b1] 95))
   rw [hW2] at hb8
   have HB2 := hide hb8
   have HP2 : Hid (Whole W2 w2.heap.size 95 [.int .i64 r1, .int .i64 m1, .int .i64 y1, .int .u8 d1, .int .u8 f1, .int .u8 z1, .int .u8 b1]) := by unfold Hid; rw [← hW2]; exact Whole.new _ _ _
   have HC2 := hide ((HC.out.below hb8).alloc (.cells #[] 95))
   have hsz : w2.heap.size + 1 = W2.heap.size := by rw [← hW2]; simp
   have HW2 := hide hW2; clear hb hb8 hW2
   go_wp2_with (at_builtin; refine stopw ?_)
   unfold Hid
   rw [HW2.out]
   refine wpList_catC elemLC rfl _ _ rfl rfl rfl (OwnC.empty W2 95 .i64) HC2.out HN.out HA.out (by simp; omega) (by omega) ?_
   intro v' w5 hown
   rw [List.nil_append] at hown
   obtain ⟨g5, c5, rfl⟩ : ∃ g5 c5, v' = .slice (some ⟨g5, 0, none⟩) n c5 := by
    rcases hown.own.2 with ⟨-, h0⟩ | ⟨g5, c5, cur, hv, -⟩
    ·rw [HN.out] at h0; omega
    ·exact ⟨g5, c5, by rw [hv, HN.out]⟩
   obtain ⟨A6, c6, hv6, hc6, -⟩ := hown.form
   injection hv6 with q1 q2 q3
   subst q1; clear q2 q3; have HO := hide hown
   have hfz : ∀ i, w5.frozen? ⟨g5, i, none⟩ = false := by
    rcases hown.own.2 with ⟨h0, -⟩ | ⟨g, cap, cur, hv, -, hh, -⟩
    ·cases h0
    ·cases hv; intro i; simp [World.frozen?, hh]
   obtain ⟨⟨r9, m9, y9, d9, ⟨f9, z9, b9⟩⟩, hc9⟩ : ∃ q, cAt cs k = q := ⟨_, rfl⟩
   obtain ⟨v0, v1, v2, v3, v4, v5, v6, -⟩ := hc6.sevenC k (by rw [HN.out]; omega) hc9
   simp only [Nat.zero_add] at v0 v1 v2 v3 v4 v5 v6
   obtain ⟨t0, t1, t2, t3, t4, t5, t6, -⟩ := cells7 (HP2.out.later hown.bel)
   clear hown hc6 hc9; go_wp2; go_ret2
   have hfin := HO.out.put HN.out (k * 7) k rfl (by omega) ⟨r1, m1, y1, d1, ⟨f1, z1, b1⟩⟩
   obtain ⟨A7, c7, hv7, hc7, -⟩ := hfin.form
   have hB7 := (hfin.from HB2.out HB2.out.size).bel
   injection hv7 with q1 q2 q3
   subst q1 q3
   exact ⟨_, c5, by rw [HE.out]; simp only [List.length_set]; rw [HN.out]; rfl, by rw [HE.out]; exact hc7, hB7⟩
 ·have HE := hide (lmark_no (r := x) (by rw [HN.out]; exact hin))
  by_cases h0 : at_ < 0
  ·clear hin
   go_enter Tryz.func95, Tryz.ntmps95
   go_wp2; go_ret2
   exact ⟨A, c, by rw [HE.out]; simp only; rw [HN.out]; rfl, by rw [HE.out]; exact HC.out, Below.refl _ _⟩
  ·have h1 : (n : Int) ≤ at_ := by omega
   clear hin
   go_enter Tryz.func95, Tryz.ntmps95
   go_wp2; go_ret2
   exact ⟨A, c, by rw [HE.out]; simp only; rw [HN.out]; rfl, by rw [HE.out]; exact HC.out, Below.refl _ _⟩
end
end Go.Proofs.YtoddfaoifnkhlaaGreatDoor
