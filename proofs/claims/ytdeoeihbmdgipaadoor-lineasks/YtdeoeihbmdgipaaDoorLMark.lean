/-
  Contract: a line with a mark more at a place (the program's).
-/
import Derived.Test.YtdeoeihbmdgipaaDoorLNew
namespace Go.Proofs.YtdeoeihbmdgipaaDoor
open Go.ChangeShapes Go.WideShapes Go.ChangeAt Go.RowKit
set_option linter.unusedVariables false

/-- .. and told whether. -/
def Lined2 (cs : List Cel) (ok : Bool) (w : World) (e : Ending) (w' : World) : Prop := ∃ g, e = .returned (.tuple #[.slice (some ⟨g, 0, none⟩) cs.length cs.length, .bool ok]) ∧ w.heap.size ≤ g ∧ Whole w' g 27 (flatC .i32 cs) ∧ Below w.heap.size w w'
theorem lmark_no {cs : List Cel} {a r : Int} (h : ¬ (0 ≤ a ∧ a < (cs.length : Int))) : lmarkC cs a r = (cs, false) := by unfold lmarkC; rw [if_neg h]
theorem lmark_yes {cs : List Cel} {k : Nat} {r : Int} {j : Nat} {c : Cel} {ok : Bool} (h : k < cs.length) (hj : mkAt cs k = j) (hm : markC (cAt cs j) r = (c, ok)) : lmarkC cs (k : Int) r = (cs.set j c, ok) := by
  unfold lmarkC; rw [if_pos (by omega), Int.toNat_natCast, hj, hm]
theorem mkAt_same {cs : List Cel} {k : Nat} (h : wAt cs k ≠ 0) : mkAt cs k = k := by unfold mkAt; rw [if_neg (fun q => h q.1)]
theorem mkAt_alone {cs : List Cel} {k : Nat} (h : wAt cs k = 0) (ha : aloneC cs k = true) : mkAt cs k = k := by
  unfold mkAt; rw [if_neg]; rintro ⟨_, h1, h2⟩
  have : aloneC cs k = false := by unfold aloneC; rw [if_neg (by omega), if_pos h]; simp [h2]; omega
  rw [this] at ha; cases ha
theorem mkAt_not {cs : List Cel} {j : Nat} (h : wAt cs (j + 1) = 0) (ha : aloneC cs (j + 1) = false) : mkAt cs (j + 1) = j := by
  obtain ⟨h1, h2⟩ := alone_0 h ha
  unfold mkAt; rw [if_pos ⟨h, by omega, h2⟩]; rfl
theorem wAt_of {cs : List Cel} {k : Nat} {r m y : Int} {d : Nat} {p : Pn} (h : k < cs.length) (hc : cAt cs k = ⟨r, m, y, d, p⟩) : wAt cs k = d := by rw [wAt_in cs k h, hc]
set_option maxRecDepth 100000 in
set_option maxHeartbeats 2000000 in
theorem lmark_any (A : Option Addr) (n c : Nat) (at_ x : Int) (cs : List Cel) (w : World) (h : Cels .i32 w A cs) (hn : cs.length = n) (hl : n ≤ 1000000) (hS : Spans w) :
    Calls Tryd.prog 12 #[.slice A n c, .int .i64 at_, .int .i32 x] w (Lined2 (lmarkC cs at_ x).1 (lmarkC cs at_ x).2 w) := by
  have HC := hide h
  have HN := hide hn
  have HS := hide hS
  clear h hn hS
  by_cases hin : 0 ≤ at_ ∧ at_ < (n : Int)
  · obtain ⟨k, rfl⟩ : ∃ k : Nat, at_ = (k : Int) := ⟨at_.toNat, by omega⟩
    have hk : k < n := by omega
    clear hin
    by_cases h0 : wAt cs k = 0
    · cases hal : aloneC cs k
      · obtain ⟨j, rfl⟩ : ∃ j, k = j + 1 := ⟨k - 1, by have := (alone_0 h0 hal).1; omega⟩
        have HJ := hide (mkAt_not h0 hal)
        have HAL := hide hal
        have e0 : ((wAt cs (j + 1) : Int) == 0) = true := by simp; omega
        clear h0 hal
        go_enter Tryd.func12, Tryd.ntmps12
        go_wp2_with fail
        refine (copied_any A n c cs w HC.out HN.out hl).mono ?_
        rintro e w1 ⟨g, rfl, hg, hw, hb⟩
        have HW1 := hide hw
        have HB1 := hide hb
        have HG := hide hg
        have HS1 := hide (HS.out.below hb)
        clear hw hb hg
        rw [HN.out]
        have c3 := HW1.out.cels.wide (j + 1) (by rw [HN.out]; exact hk)
        simp only [Nat.zero_add] at c3
        go_wp2_with fail
        refine (alone_any (some ⟨g, 0, none⟩) n n (j + 1) cs w1 HW1.out.cels HN.out (by omega) hl).mono ?_
        rintro e w2 ⟨rfl, rfl⟩
        rw [HAL.out]
        clear c3
        obtain ⟨⟨r, m, y, d, ⟨f, z, b⟩⟩, hc⟩ : ∃ q, cAt cs j = q := ⟨_, rfl⟩
        obtain ⟨⟨⟨r1, m1, y1, d1, ⟨f1, z1, b1⟩⟩, ok⟩, hm⟩ : ∃ q, markC (cAt cs j) x = q := ⟨_, rfl⟩
        have HE := hide (lmark_yes (by rw [HN.out]; omega) HJ.out hm)
        rw [hc] at hm
        have HM := hide hm
        clear hm
        obtain ⟨a0, a1, a2, a3, a4, a5, a6, -⟩ := HW1.out.sevenC (j * 7) j rfl (by rw [HN.out]; omega) hc
        clear hc
        go_wp2_with fail
        refine (cmark_v r m y d f z b x r1 m1 y1 d1 f1 z1 b1 ok HM.out w1 HS1.out).mono ?_
        rintro e w2 ⟨rfl, hb⟩
        clear a0 a1 a2 a3 a4 a5 a6
        have HW2 := hide (HW1.out.later hb)
        have HB2 := hide (HB1.out.trans (hb.mono HB1.out.size))
        have l2 : g < w2.heap.size := (HW1.out.later hb).lt
        obtain ⟨b0, b1', b2, b3, b4, b5, b6, b7⟩ := (HW1.out.later hb).seven (j * 7) j rfl (by rw [HN.out]; omega)
        clear hb
        go_wp2
        go_ret2
        refine ⟨g, by rw [HE.out]; simp only [List.length_set]; rw [HN.out]; rfl, HG.out, ?_, ?_⟩
        · rw [HE.out]; exact (put_cell HW2.out _ j rfl (by rw [HN.out]; omega) ⟨r1, m1, y1, d1, ⟨f1, z1, b1⟩⟩).alloc _
        · have hb9 := (only_cell (j * 7) (.int .i32 r1) (.int .i32 m1) (.int .i32 y1) (.int .u8 (d1 : Int)) (.int .u8 (f1 : Int)) (.int .u8 (z1 : Int)) (.int .u8 (b1 : Int))).below HB2.out HB2.out.size HG.out
          exact hb9.alloc hb9.size _
      · have HJ := hide (mkAt_alone h0 hal)
        have HAL := hide hal
        have e0 : ((wAt cs k : Int) == 0) = true := by simp; omega
        clear h0 hal
        go_enter Tryd.func12, Tryd.ntmps12
        go_wp2_with fail
        refine (copied_any A n c cs w HC.out HN.out hl).mono ?_
        rintro e w1 ⟨g, rfl, hg, hw, hb⟩
        have HW1 := hide hw
        have HB1 := hide hb
        have HG := hide hg
        have HS1 := hide (HS.out.below hb)
        clear hw hb hg
        rw [HN.out]
        have c3 := HW1.out.cels.wide k (by rw [HN.out]; exact hk)
        simp only [Nat.zero_add] at c3
        go_wp2_with fail
        refine (alone_any (some ⟨g, 0, none⟩) n n k cs w1 HW1.out.cels HN.out (by omega) hl).mono ?_
        rintro e w2 ⟨rfl, rfl⟩
        rw [HAL.out]
        clear c3
        obtain ⟨⟨r, m, y, d, ⟨f, z, b⟩⟩, hc⟩ : ∃ q, cAt cs k = q := ⟨_, rfl⟩
        obtain ⟨⟨⟨r1, m1, y1, d1, ⟨f1, z1, b1⟩⟩, ok⟩, hm⟩ : ∃ q, markC (cAt cs k) x = q := ⟨_, rfl⟩
        have HE := hide (lmark_yes (by rw [HN.out]; omega) HJ.out hm)
        rw [hc] at hm
        have HM := hide hm
        clear hm
        obtain ⟨a0, a1, a2, a3, a4, a5, a6, -⟩ := HW1.out.sevenC (k * 7) k rfl (by rw [HN.out]; omega) hc
        clear hc
        go_wp2_with fail
        refine (cmark_v r m y d f z b x r1 m1 y1 d1 f1 z1 b1 ok HM.out w1 HS1.out).mono ?_
        rintro e w2 ⟨rfl, hb⟩
        clear a0 a1 a2 a3 a4 a5 a6
        have HW2 := hide (HW1.out.later hb)
        have HB2 := hide (HB1.out.trans (hb.mono HB1.out.size))
        have l2 : g < w2.heap.size := (HW1.out.later hb).lt
        obtain ⟨b0, b1', b2, b3, b4, b5, b6, b7⟩ := (HW1.out.later hb).seven (k * 7) k rfl (by rw [HN.out]; omega)
        clear hb
        go_wp2
        go_ret2
        refine ⟨g, by rw [HE.out]; simp only [List.length_set]; rw [HN.out]; rfl, HG.out, ?_, ?_⟩
        · rw [HE.out]; exact (put_cell HW2.out _ k rfl (by rw [HN.out]; omega) ⟨r1, m1, y1, d1, ⟨f1, z1, b1⟩⟩).alloc _
        · have hb9 := (only_cell (k * 7) (.int .i32 r1) (.int .i32 m1) (.int .i32 y1) (.int .u8 (d1 : Int)) (.int .u8 (f1 : Int)) (.int .u8 (z1 : Int)) (.int .u8 (b1 : Int))).below HB2.out HB2.out.size HG.out
          exact hb9.alloc hb9.size _
    · have HJ := hide (mkAt_same h0)
      have HZ : Hid (((wAt cs k : Int) == 0) = false) := by unfold Hid; simp; omega
      clear h0
      go_enter Tryd.func12, Tryd.ntmps12
      go_wp2_with fail
      refine (copied_any A n c cs w HC.out HN.out hl).mono ?_
      rintro e w1 ⟨g, rfl, hg, hw, hb⟩
      have HW1 := hide hw
      have HB1 := hide hb
      have HG := hide hg
      have HS1 := hide (HS.out.below hb)
      clear hw hb hg
      rw [HN.out]
      obtain ⟨⟨r, m, y, d, ⟨f, z, b⟩⟩, hc⟩ : ∃ q, cAt cs k = q := ⟨_, rfl⟩
      obtain ⟨⟨⟨r1, m1, y1, d1, ⟨f1, z1, b1⟩⟩, ok⟩, hm⟩ : ∃ q, markC (cAt cs k) x = q := ⟨_, rfl⟩
      have HE := hide (lmark_yes (by rw [HN.out]; omega) HJ.out hm)
      rw [hc] at hm
      have HM := hide hm
      clear hm
      obtain ⟨a0, a1, a2, a3, a4, a5, a6, -⟩ := HW1.out.sevenC (k * 7) k rfl (by rw [HN.out]; omega) hc
      have e0 : ((d : Int) == 0) = false := by rw [← wAt_of (by rw [HN.out]; exact hk) hc]; exact HZ.out
      clear hc
      go_wp2_with fail
      refine (cmark_v r m y d f z b x r1 m1 y1 d1 f1 z1 b1 ok HM.out w1 HS1.out).mono ?_
      rintro e w2 ⟨rfl, hb⟩
      clear a0 a1 a2 a3 a4 a5 a6
      have HW2 := hide (HW1.out.later hb)
      have HB2 := hide (HB1.out.trans (hb.mono HB1.out.size))
      have l2 : g < w2.heap.size := (HW1.out.later hb).lt
      obtain ⟨b0, b1', b2, b3, b4, b5, b6, b7⟩ := (HW1.out.later hb).seven (k * 7) k rfl (by rw [HN.out]; omega)
      clear hb
      go_wp2
      go_ret2
      refine ⟨g, by rw [HE.out]; simp only [List.length_set]; rw [HN.out]; rfl, HG.out, ?_, ?_⟩
      · rw [HE.out]; exact (put_cell HW2.out _ k rfl (by rw [HN.out]; omega) ⟨r1, m1, y1, d1, ⟨f1, z1, b1⟩⟩).alloc _
      · have hb9 := (only_cell (k * 7) (.int .i32 r1) (.int .i32 m1) (.int .i32 y1) (.int .u8 (d1 : Int)) (.int .u8 (f1 : Int)) (.int .u8 (z1 : Int)) (.int .u8 (b1 : Int))).below HB2.out HB2.out.size HG.out
        exact hb9.alloc hb9.size _
  · have HE := hide (lmark_no (r := x) (by rw [HN.out]; exact hin))
    by_cases h0 : at_ < 0
    · clear hin
      go_enter Tryd.func12, Tryd.ntmps12
      go_wp2_with fail
      refine (copied_any A n c cs w HC.out HN.out hl).mono ?_
      rintro e w1 ⟨g, rfl, hg, hw, hb⟩
      have HW1 := hide hw
      have HB1 := hide hb
      have HG := hide hg
      have HS1 := hide (HS.out.below hb)
      clear hw hb hg
      rw [HN.out]
      go_wp2
      go_ret2
      exact ⟨g, by rw [HE.out]; simp only; rw [HN.out]; rfl, HG.out, by rw [HE.out]; exact HW1.out, HB1.out⟩
    · have h1 : (n : Int) ≤ at_ := by omega
      clear hin
      go_enter Tryd.func12, Tryd.ntmps12
      go_wp2_with fail
      refine (copied_any A n c cs w HC.out HN.out hl).mono ?_
      rintro e w1 ⟨g, rfl, hg, hw, hb⟩
      have HW1 := hide hw
      have HB1 := hide hb
      have HG := hide hg
      have HS1 := hide (HS.out.below hb)
      clear hw hb hg
      rw [HN.out]
      go_wp2
      go_ret2
      exact ⟨g, by rw [HE.out]; simp only; rw [HN.out]; rfl, HG.out, by rw [HE.out]; exact HW1.out, HB1.out⟩
end Go.Proofs.YtdeoeihbmdgipaaDoor
