/-
  Contract: the chapter's example holds.
-/
import Derived.Test.YtiifeniijcnahaaGreatDoorGDo6
namespace Go.Proofs.YtiifeniijcnahaaGreatDoor
set_option maxRecDepth 100000
open Go.ChangeShapes Go.WideShapes Go.ChangeAt Go.RowKit
set_option linter.unusedVariables false

def kA : Cel := ⟨97, 0, 0, 1, ⟨0, 0, 0⟩⟩
def kG0 : Gd := newG 2 3
def kG1 : Gd := putG kG0 0 0 ⟨97, 0, 0, 1, ⟨0, 0, 0⟩⟩
def kG2 : Gd := scrollG kG1 3 (-1) ⟨0, 0, 0⟩
def kG3 : Gd := fitG kG2 1 2
theorem k_of : ofC 97 ⟨0, 0, 0⟩ = (⟨97, 0, 0, 1, ⟨0, 0, 0⟩⟩, true) := by decide +kernel
theorem k_ok : putGOk kG0 0 0 ⟨97, 0, 0, 1, ⟨0, 0, 0⟩⟩ = true := by decide +kernel
theorem k_at : cAt (lAt kG2.ls 1) 0 = ⟨97, 0, 0, 1, ⟨0, 0, 0⟩⟩ := by decide +kernel
theorem k_used : usedC (lAt kG3.ls 0) = 0 := by decide +kernel
theorem k_len : (lAt kG3.ls 0).length = 2 := by decide +kernel
theorem k_new (w : World) : Calls Tryz.prog 6 #[.int .i64 2, .int .i64 3] w (GaveG2 2 3 kG0 w) := gnew_yes 2 3 (by omega) (by omega) (by omega) (by omega) w
theorem k_fit {w : World} {G L M : Nat} (h : Grd w G L M 2 3 kG2) : Calls Tryz.prog 23 #[.pointer (some ⟨G, 0, none⟩), .int .i64 1, .int .i64 2] w (GaveG2 1 2 kG3 w) := fit_yes h (by omega) 1 2 (by omega) (by omega) (by omega) (by omega)
theorem k_gat {w : World} {G L M : Nat} (h : Grd w G L M 2 3 kG2) : Calls Tryz.prog 14 #[.pointer (some ⟨G, 0, none⟩), .int .i64 1, .int .i64 0] w fun e w' => e = .returned (.tuple #[.agg #[.int .i32 97, .int .i32 0, .int .i32 0, .int .u8 (1 : Int), .int .u8 (0 : Int), .int .u8 (0 : Int), .int .u8 (0 : Int)], .bool true]) ∧ Below w.heap.size w w' :=
  gat_yes h 1 0 (by omega) (by omega) (by omega) 97 0 0 1 0 0 0 k_at
theorem k_rows {w : World} {G L M : Nat} {g : Gd} (h : Grd w G L M 1 2 g) : Calls Tryz.prog 24 #[.pointer (some ⟨G, 0, none⟩)] w fun e w' => e = .returned (.int .i64 1) ∧ w = w' := rows_any h
theorem k_cols {w : World} {G L M : Nat} {g : Gd} (h : Grd w G L M 1 2 g) : Calls Tryz.prog 25 #[.pointer (some ⟨G, 0, none⟩)] w fun e w' => e = .returned (.int .i64 2) ∧ w = w' := cols_any h (by omega)
theorem k_scroll {w : World} {G L M : Nat} (h : Grd w G L M 2 3 kG1) (hS : Spans w) : Calls Tryz.prog 34 #[.pointer (some ⟨G, 0, none⟩), .int .i64 (-1), .agg #[.int .u8 (0 : Int), .int .u8 (0 : Int), .int .u8 (0 : Int)]] w (Scrolled 2 3 kG2 w G L M) := scroll_any h (by omega) (by omega) (by omega) (by omega) hS (-1) 0 0 0
theorem k_put {w : World} {G L M : Nat} (h : Grd w G L M 2 3 kG0) (hS : Spans w) : Calls Tryz.prog 33 #[.pointer (some ⟨G, 0, none⟩), .int .i64 0, .int .i64 0, .agg #[.int .i32 97, .int .i32 0, .int .i32 0, .int .u8 (1 : Int), .int .u8 (0 : Int), .int .u8 (0 : Int), .int .u8 (0 : Int)]] w fun e w' => e = .returned (.bool true) ∧ Grd w' G L M 2 3 kG1 ∧ Trn G L M w w' := by
  have := gput_any h (by omega) hS 0 0 97 0 0 1 0 0 0 (by omega) (by omega)
  rw [k_ok] at this
  exact this
set_option maxHeartbeats 2000000 in
theorem gknown_any (w : World) (hS : Spans w) : Calls Tryz.prog 8 #[] w (Said true w) := by
  have eC := eqlCell
  have e1 : eqC 97 0 0 1 0 0 0 97 0 0 1 0 0 0 = true := by decide
  go_enter Tryz.func8, Tryz.ntmps8
  go_wp2_with fail
  refine (k_new w).mono ?_
  rintro e w1 ⟨G, L, M, rfl, hg, hb, n1, n2, n3⟩
  have HS1 := hide (hS.below hb)
  have HG1 := hide hg
  have HB1 := hide hb
  have N1 := n1
  have N2 := n2
  have N3 := n3
  clear hg hb hS
  go_wp2_with fail
  refine (cof_v 97 0 0 0 97 0 0 1 0 0 0 true k_of w1 HS1.out).mono ?_
  rintro e w2 ⟨rfl, hb⟩
  obtain ⟨Q3, hQ3⟩ : ∃ Q3, w2.heap.size = Q3 := ⟨_, rfl⟩
  obtain ⟨W2, hW2⟩ : ∃ W2, w2.alloc (.cells #[.int .i32 97, .int .i32 0, .int .i32 0, .int .u8 (1 : Int), .int .u8 (0 : Int), .int .u8 (0 : Int), .int .u8 (0 : Int)] 40) = W2 := ⟨_, rfl⟩
  have hb2 : Below w1.heap.size w1 W2 := by rw [← hW2]; exact hb.alloc hb.size _
  have HA2 : Hid (Whole W2 Q3 40 [.int .i32 97, .int .i32 0, .int .i32 0, .int .u8 (1 : Int), .int .u8 (0 : Int), .int .u8 (0 : Int), .int .u8 (0 : Int)]) := by unfold Hid; rw [← hW2, ← hQ3]; exact Whole.new w2 40 [.int .i32 97, .int .i32 0, .int .i32 0, .int .u8 (1 : Int), .int .u8 (0 : Int), .int .u8 (0 : Int), .int .u8 (0 : Int)]
  have HG2 := hide (HG1.out.later hb2)
  have HS2 := hide (HS1.out.below hb2)
  have HB2 := hide (HB1.out.trans (hb2.mono HB1.out.size))
  have hq : w1.heap.size ≤ Q3 := by rw [← hQ3]; exact hb.size
  have lG := HG1.out.ltG
  have lL := HG1.out.ltL
  have lM := HG1.out.ltM
  have hqG : Q3 ≠ G := by omega
  have hqL : Q3 ≠ L := by omega
  have hqM : Q3 ≠ M := by omega
  have HW2 := hide hW2
  have HQ3 := hide hQ3
  clear hb hb2 hW2 hQ3
  obtain ⟨a0, a1, a2, a3, a4, a5, a6, la⟩ := cells7 HA2.out
  go_wp2_with fail
  rw [HW2.out]
  refine (k_put HG2.out HS2.out).mono ?_
  rintro e w3 ⟨rfl, hg, ht⟩
  have HG3 := hide hg
  have HS3 := hide (HS2.out.turn HG2.out (by omega) ht)
  have HB3 := hide (ht.below HB2.out HB2.out.size N1 N2 N3)
  have HA3 := hide (ht.whole HA2.out hqG hqL hqM)
  clear hg ht a0 a1 a2 a3 a4 a5 a6 la
  go_wp2_with fail
  refine (k_scroll HG3.out HS3.out).mono ?_
  rintro e w4 ⟨rfl, L4, hg, ht, hL4⟩
  have HG4 := hide hg
  have HB4 := hide (ht.below HB3.out HB3.out.size N1 N2 N3)
  have HA4 := hide (ht.whole HA3.out hqG hqL hqM)
  clear hg ht hL4
  go_wp2_with fail
  refine (k_gat HG4.out).mono ?_
  rintro e w5 ⟨rfl, hb⟩
  obtain ⟨Q6, hQ6⟩ : ∃ Q6, w5.heap.size = Q6 := ⟨_, rfl⟩
  obtain ⟨W5, hW5⟩ : ∃ W5, w5.alloc (.cells #[.int .i32 97, .int .i32 0, .int .i32 0, .int .u8 (1 : Int), .int .u8 (0 : Int), .int .u8 (0 : Int), .int .u8 (0 : Int)] 40) = W5 := ⟨_, rfl⟩
  have hb5 : Below w4.heap.size w4 W5 := by rw [← hW5]; exact hb.alloc hb.size _
  have HC5 : Hid (Whole W5 Q6 40 [.int .i32 97, .int .i32 0, .int .i32 0, .int .u8 (1 : Int), .int .u8 (0 : Int), .int .u8 (0 : Int), .int .u8 (0 : Int)]) := by unfold Hid; rw [← hW5, ← hQ6]; exact Whole.new w5 40 [.int .i32 97, .int .i32 0, .int .i32 0, .int .u8 (1 : Int), .int .u8 (0 : Int), .int .u8 (0 : Int), .int .u8 (0 : Int)]
  have HA5 := hide (HA4.out.later hb5)
  have HG5 := hide (HG4.out.later hb5)
  have HB5 := hide (HB4.out.trans (hb5.mono HB4.out.size))
  have HW5 := hide hW5
  have HQ6 := hide hQ6
  clear hb hb5 hW5 hQ6
  go_wp2_with fail
  rw [HW5.out]
  refine (k_fit HG5.out).mono ?_
  rintro e w6 ⟨G6, L6, M6, rfl, hg, hb, -, -, -⟩
  have HG6 := hide hg
  have HA6 := hide (HA5.out.later hb)
  have HC6 := hide (HC5.out.later hb)
  have HB6 := hide (HB5.out.trans (hb.mono HB5.out.size))
  clear hg hb
  rw [HQ3.out, HQ6.out]
  obtain ⟨a0, a1, a2, a3, a4, a5, a6, la⟩ := cells7 HA6.out
  obtain ⟨c0, c1, c2, c3, c4, c5, c6, lc⟩ := cells7 HC6.out
  go_wp2_with fail
  refine (k_rows HG6.out).mono ?_
  rintro e k1 ⟨rfl, rfl⟩
  go_wp2_with fail
  refine (k_cols HG6.out).mono ?_
  rintro e k1 ⟨rfl, rfl⟩
  go_wp2_with fail
  refine (gline_any HG6.out 0 (by unfold hasG; omega) (by omega)).mono ?_
  rintro e w7 ⟨v, rfl, hown⟩
  obtain ⟨A7, c7, rfl, hc7, -⟩ := hown.form
  have HC7 := hide hc7
  have HB7 := hide (HB6.out.trans (hown.bel.mono HB6.out.size))
  clear hown hc7 a0 a1 a2 a3 a4 a5 a6 la c0 c1 c2 c3 c4 c5 c6 lc
  go_wp2_with fail
  refine (used_any A7 _ c7 _ w7 HC7.out rfl (by rw [show (0 : Int).toNat = 0 from rfl, k_len]; omega)).mono ?_
  rintro e w8 ⟨rfl, hb⟩
  rw [show (0 : Int).toNat = 0 from rfl, k_used]
  have HB8 := hide (HB7.out.trans (hb.mono HB7.out.size))
  clear hb
  go_wp2
  go_ret
  exact ⟨rfl, HB8.out⟩
end Go.Proofs.YtiifeniijcnahaaGreatDoor
