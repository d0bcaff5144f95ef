/-
  Contracts and plain mathematics of NRTurn.
-/
import Derived.Test.YtkijclgbpbhglaaGreatDoorQd23
import Derived.Test.YtkijclgbpbhglaaGreatDoorQd3
import Derived.Deep.RegionWith
namespace Go.Proofs.YtkijclgbpbhglaaGreatDoor
set_option maxRecDepth 100000
set_option linter.unusedVariables false
set_option maxHeartbeats 8000000
section
open Go.ChangeShapes Go.WideShapes Go.ChangeAt Go.RowKit
theorem off_any (i : Nat) (hi : i < 5) (w : World) : Calls Tryz.prog 113 #[.int .i64 i] w (Num .i64 (offC i) w) := by
 have hc : (w.alloc (.cells #[.int .i64 22, .int .i64 22, .int .i64 24, .int .i64 25, .int .i64 27] 3)).cell? ⟨w.heap.size, i, none⟩ = some (.int .i64 (offC i)) := tab_i w 3 .i64 22 22 24 25 27 i hi
 go_enter Tryz.func113, Tryz.ntmps113
 go_wp2; go_ret
 exact ⟨rfl, (Below.refl _ _).alloc (Nat.le_refl _) _⟩
theorem bitC_bd (i : Nat) (hi : i < 5) : 0 < bitC i ∧ bitC i < 256 := by
 match i, hi with
 | 0, _ => decide
 | 1, _ => decide
 | 2, _ => decide
 | 3, _ => decide
 | 4, _ => decide
theorem on_off (i : Nat) (hi : i < 5) : onC i ≠ offC i := by
 match i, hi with
 | 0, _ => decide
 | 1, _ => decide
 | 2, _ => decide
 | 3, _ => decide
 | 4, _ => decide
theorem hasN_le (x b : Nat) (hb : 0 < b) (h : hasN x b = true) : b ≤ x := by
 rw [hasN_iff] at h
 by_cases hx : x < b
 ·rw [Nat.div_eq_of_lt hx] at h; omega
 ·omega
theorem flag_add (n : Int) (f j : Nat) (X : Nat) (hX : flagK n f j = X) (hj : j < 5) (h : n = onC j) (h2 : hasN X (bitC j) = false) : flagK n f (j + 1) = X + bitC j := by
 have h3 : n ≠ offC j := by rw [h]; exact on_off j hj
 have a : addF n j X = X + bitC j := by unfold addF; rw [if_pos ⟨h, h2⟩]
 simp only [flagK, hX]
 rw [a]
 unfold subF
 rw [if_neg (fun e => h3 e.1)]
theorem flag_same1 (n : Int) (f j : Nat) (X : Nat) (hX : flagK n f j = X) (hj : j < 5) (h : n = onC j) (h2 : hasN X (bitC j) = true) : flagK n f (j + 1) = X := by
 have h3 : n ≠ offC j := by rw [h]; exact on_off j hj
 have a : addF n j X = X := by unfold addF; rw [if_neg (fun e => by rw [h2] at e; exact absurd e.2 (by decide))]
 simp only [flagK, hX]
 rw [a]
 unfold subF
 rw [if_neg (fun e => h3 e.1)]
theorem add_not (n : Int) (j X : Nat) (h0 : n ≠ onC j) : addF n j X = X := by unfold addF; rw [if_neg (fun e => h0 e.1)]
theorem flag_sub (n : Int) (f j : Nat) (X : Nat) (hX : flagK n f j = X) (h0 : n ≠ onC j) (h : n = offC j) (h2 : hasN X (bitC j) = true) : flagK n f (j + 1) = X - bitC j := by
 simp only [flagK, hX]
 rw [add_not n j X h0]
 unfold subF
 rw [if_pos ⟨h, h2⟩]
theorem flag_same2 (n : Int) (f j : Nat) (X : Nat) (hX : flagK n f j = X) (h0 : n ≠ onC j) (h2 : n ≠ offC j ∨ hasN X (bitC j) = false) : flagK n f (j + 1) = X := by
 simp only [flagK, hX]
 rw [add_not n j X h0]
 unfold subF
 rw [if_neg]
 rintro ⟨e1, e2⟩
 rcases h2 with h2 | h2
 ·exact h2 e1
 ·rw [h2] at e2; exact absurd e2 (by decide)
theorem wrap_u8_in (x : Int) (y : Nat) (h : x = (y : Int)) (hy : y < 256) : IntKind.u8.wrap x = (y : Int) := by
 rw [IntKind.wrap_u8', h]; omega
theorem once_doc (F G B F1 G1 B1 : Nat) (r : Int) (hF : F < 256) (h : (r = 0 ∧ F1 = 0 ∧ G1 = 0 ∧ B1 = 0) ∨ (r ≠ 0 ∧ F1 = F ∧ G1 = G ∧ B1 = B)) :
  onceN ⟨F, G, B⟩ r = ⟨flagK r F1 5, if r = 39 then 0 else dyeK G1 r 8, if r = 49 then 0 else dyeK B1 (r - 10) 8⟩ := by
 have hF1 : F1 < 256 := by omega
 rw [flagK_all r F1 hF1 (by omega), dyeK_all]
 have e : (if r = 49 then 0 else dyeK B1 (r - 10) 8) = dyeN B1 (r - 10) := by
  rw [← dyeK_all]
  by_cases h1 : r = 49
  ·rw [if_pos h1, if_pos (by omega)]
  ·rw [if_neg h1, if_neg (by omega)]
 rw [e]
 rcases h with ⟨rfl, rfl, rfl, rfl⟩ | ⟨h0, rfl, rfl, rfl⟩
 ·rfl
 ·unfold onceN; rw [if_neg h0]
theorem rturn_any (f g b : Nat) (hp : Pn.ok ⟨f, g, b⟩) (A : Option Addr) (m c : Nat) (zs : List Int) (w : World) (h : Ints .i64 w A zs) (hl : zs.length = m) (hm : m ≤ 1000000) :
  Calls Tryz.prog 59 #[.agg #[.int .u8 f, .int .u8 g, .int .u8 b], .slice A m c] w (Penned (turnN ⟨f, g, b⟩ zs) w) := by
 by_cases h0 : m = 0
 ·subst h0
  have E : Hid (turnN ⟨f, g, b⟩ zs = ⟨0, 0, 0⟩) := by
   have : zs = [] := List.eq_nil_of_length_eq_zero hl
   subst this; rfl
  clear hl
  rw [E.out]
  go_enter Tryz.func59, Tryz.ntmps59
  go_wp2
  exact ret3 Tryz.results59 (.inr rfl) rfl rfl (pn_whole_snd w _ _ _) ⟨rfl, ((Below.refl _ _).alloc (Nat.le_refl _) _).alloc (by simp) _⟩
 have h0p : 0 < m := by omega
 have h0' : ((m : Int) == 0) = false := by simp; omega
 clear h0; have HL := hide hl; have HP := hide hp
 have ET := hide (turn_full ⟨f, g, b⟩ zs (by omega))
 clear hl hp
 have HW0 := hide (two_whole w 38 [.int .u8 f, .int .u8 g, .int .u8 b] (.cells #[.int .u8 0, .int .u8 0, .int .u8 0] 38))
 have HW1 := hide (pn_whole_snd w (.cells #[.int .u8 f, .int .u8 g, .int .u8 b] 38) 38 [.int .u8 0, .int .u8 0, .int .u8 0])
 go_enter Tryz.func59, Tryz.ntmps59
 go_wp2
 go_loopw [5, 6, 7, 8] (fun i _ _ _ wr => ∃ k : Nat, k ≤ m ∧ i = .int .i64 k ∧ Whole wr w.heap.size 38 (penL ((zs.take k).foldl onceN ⟨f, g, b⟩)) ∧ Whole wr (w.heap.size + 1) 38 [.int .u8 0, .int .u8 0, .int .u8 0] ∧ Below w.heap.size w wr)
  (fun i _ _ _ _ => m - (intOf i).toNat)
 case atStart => exact ⟨0, Nat.zero_le _, rfl, HW0.out, HW1.out, ((Below.refl _ _).alloc (Nat.le_refl _) _).alloc (by simp) _⟩
 case round =>
  clear HW0 HW1
  obtain ⟨k, hk, rfl, hw0, hw1, hbel⟩ := hrel
  obtain ⟨⟨F, G, B⟩, hP⟩ : ∃ P, (zs.take k).foldl onceN ⟨f, g, b⟩ = P := ⟨_, rfl⟩
  have hok := foldN_ok (zs.take k) _ HP.out
  rw [hP] at hw0 hok
  have hF : F < 256 := hok.1
  have hG : G < 256 := hok.2.1
  have hB : B < 256 := hok.2.2
  obtain ⟨c0, c1, c2, z0, z1, z2⟩ := whole3 hw0
  have s0 := hw0.lt
  have s1 := hw1.lt
  by_cases hlt : k < m
  ·obtain ⟨bb, off, rfl, hc, hb⟩ := h.at (i := k) (by rw [HL.out]; exact hlt)
   obtain ⟨r, hr⟩ := exq (zs.getD k 0)
   have hcx : wr.cell? ⟨bb, off + k, none⟩ = some (.int .i64 r) := by rw [← hr]; exact (hbel.cell (by exact hb)).trans hc
   have HT := hide (fold_snoc ⟨f, g, b⟩ zs k r (by rw [HL.out]; exact hlt) hr)
   rw [hP] at HT
   clear hr hc hP hok
   by_cases hr0 : r = 0
   ·have r0b : (r == 0) = true := by simpa using hr0
    obtain ⟨F1, hF1⟩ : ∃ F1 : Nat, F1 = 0 := ⟨_, rfl⟩
    obtain ⟨G1, hG1⟩ : ∃ G1 : Nat, G1 = 0 := ⟨_, rfl⟩
    obtain ⟨B1, hB1⟩ : ∃ B1 : Nat, B1 = 0 := ⟨_, rfl⟩
    have HD := hide (once_doc F G B F1 G1 B1 r hF (.inl ⟨hr0, hF1, hG1, hB1⟩))
    have HWa0 : Hid (Whole (((wr.setCell ⟨w.heap.size, 0, none⟩ (.int .u8 0)).setCell ⟨w.heap.size, 1, none⟩ (.int .u8 0)).setCell ⟨w.heap.size, 2, none⟩ (.int .u8 0)) w.heap.size 38 [.int .u8 F1, .int .u8 G1, .int .u8 B1]) := by
     rw [hF1, hG1, hB1]; exact pn_put3 hw0
    have HWb0 := hide (whole_put3 (q := w.heap.size) hw1 (by omega) (.int .u8 0) (.int .u8 0) (.int .u8 0))
    have hbel0 := pn_below_put3 (q := w.heap.size) hbel (Nat.le_refl _) (.int .u8 0) (.int .u8 0) (.int .u8 0)
    have hF1l : F1 < 256 := by omega
    have hG1l : G1 < 256 := by omega
    have hB1l : B1 < 256 := by omega
    have s1' : w.heap.size + 1 < (((wr.setCell ⟨w.heap.size, 0, none⟩ (.int .u8 0)).setCell ⟨w.heap.size, 1, none⟩ (.int .u8 0)).setCell ⟨w.heap.size, 2, none⟩ (.int .u8 0)).heap.size := HWb0.out.lt
    clear hF1 hG1 hB1 hr0 hw0 hw1; go_wp2
    generalize ((wr.setCell ⟨w.heap.size, 0, none⟩ (.int .u8 0)).setCell ⟨w.heap.size, 1, none⟩ (.int .u8 0)).setCell ⟨w.heap.size, 2, none⟩ (.int .u8 0) = W1 at *
    clear hbel hcx c0 c1 c2 z0 z1 z2 s0 s1 r0b hF hG hB
    go_loopw [7] (fun i wr2 => ∃ j : Nat, j ≤ 5 ∧ i = .int .i64 j ∧ Whole wr2 w.heap.size 38 [.int .u8 (flagK r F1 j : Int), .int .u8 G1, .int .u8 B1] ∧ Whole wr2 (w.heap.size + 1) 38 [.int .u8 0, .int .u8 0, .int .u8 0] ∧ Below w.heap.size w wr2)
     (fun i _ => 5 - (intOf i).toNat)
    case atStart => exact ⟨0, Nat.zero_le _, rfl, HWa0.out, HWb0.out, hbel0⟩
    case round =>
     clear HWa0 HWb0 hbel0
     obtain ⟨j, hj, rfl, hwa, hwb, hbel⟩ := hrel
     obtain ⟨X, hXe⟩ := exq (flagK r F1 j)
     rw [hXe] at hwa
     have hX : X < 256 := by rw [← hXe]; exact flagK_lt r F1 hF1l j hj
     have HWa := hide hwa; have HWb := hide hwb
     have s1 := hwb.lt
     clear hwa hwb s1'
     by_cases hj5 : j < 5
     ·obtain ⟨O, hO⟩ := exq (onC j)
      obtain ⟨Of, hOf⟩ := exq (offC j)
      obtain ⟨bt, hbt⟩ := exq (bitC j)
      have hbb := bitC_bd j hj5
      rw [hbt] at hbb
      obtain ⟨hb0, hb1⟩ := hbb
      have HO := hide hO; have HOff := hide hOf
      have HBt : Hid ((bitC j : Int) = (bt : Int)) := by unfold Hid; rw [hbt]
      have HXe := hide hXe
      by_cases h1 : r = O
      ·have e1 : (r == O) = true := by simpa using h1
       have e2 : (r == Of) = false := by
        have := on_off j hj5
        rw [hO, hOf, ← h1] at this
        simpa using this
       cases hh : hasN X bt
       ·have HN := hide (flag_add r F1 j X hXe hj5 (by rw [hO]; exact h1) (by rw [hbt]; exact hh))
        rw [hbt] at HN
        obtain ⟨Y, hY⟩ := exq (X + bt)
        rw [hY] at HN
        have hYl : Y < 256 := by
         have := flagK_lt r F1 hF1l (j + 1) (by omega)
         rw [HN.out] at this; exact this
        have HYW := hide (wrap_u8_in ((X : Int) + (bt : Int)) Y (by omega) hYl)
        clear hY; have HH := hide hh; clear hh hO hOf hbt hXe h1; go_wp2
        refine rgH (fun w' => Below wr.heap.size wr w') [(true, 0), (false, 1), (false, 2), (false, 3), (false, 4), (true, 7), (true, 5), (true, 6), (false, 8), (false, 9), (false, 10), (false, 11)] bd1 ?_
        refine stH (h := ?_)
        refine alH fun K hK => ?_
        go_wp2
        refine hK.out _ _ bd1 ?_
        clear hK K
        refine alH fun K hK => ?_
        go_wp2_with fail
        refine (on_any j hj5 _).mono ?_
        rintro e w3 ⟨rfl, hb⟩
        rw [HO.out]
        have B3 : Below wr.heap.size wr w3 := bd1.trans hb
        clear hb; go_wp2
        refine hK.out _ _ B3 ?_
        clear hK K
        refine alH fun K hK => ?_
        go_wp2
        refine hK.out _ _ B3 ?_
        clear hK K
        refine alH fun K hK => ?_
        go_wp2
        refine hK.out _ _ B3 ?_
        clear hK K
        refine stH (h := ?_)
        refine stH (h := ?_)
        refine stH (hy := fun w hS => by have := (HWa.out.later hS).cell 0; simp only [List.getElem?_cons_zero] at this; go_simp <;> with_reducible rfl) (h := ?_)
        refine alH fun K hK => ?_
        go_wp2_with fail
        refine (bit_any j hj5 _).mono ?_
        rintro e w4 ⟨rfl, hb⟩
        rw [HBt.out]
        have B4 : Below wr.heap.size wr w4 := B3.trans (hb.mono B3.size)
        clear hb; go_wp2
        refine hK.out _ _ B4 ?_
        clear hK K
        refine alH fun K hK => ?_
        go_wp2_with fail
        refine (pn_has_any X bt hX hb0 hb1 _).mono ?_
        rintro e w' ⟨rfl, rfl⟩
        rw [HH.out]
        go_wp2
        refine hK.out _ _ B4 ?_
        clear hK K
        refine alH fun K hK => ?_
        go_wp2
        refine hK.out _ _ B4 ?_
        clear hK K
        refine alH fun K hK => ?_
        go_wp2
        refine hK.out _ _ B4 ?_
        clear hK K
        refine chainH_nil ?_
        go_wp2
        replace HWa := hide (HWa.out.later B4)
        replace HWb := hide (HWb.out.later B4)
        replace hbel := hbel.trans (B4.mono hbel.size)
        have hcx : w4.drew.cell? ⟨w.heap.size, 0, none⟩ = some (.int .u8 X) := HWa.out.cell 0
        have key : ∀ w1 : World, Below w4.drew.heap.size w4.drew w1 → w1.cell? ⟨w.heap.size, 0, none⟩ = some (.int .u8 X) ∧ w1.frozen? ⟨w.heap.size, 0, none⟩ = false ∧
          Hid (Whole (w1.setCell ⟨w.heap.size, 0, none⟩ (.int .u8 Y)) w.heap.size 38 [.int .u8 Y, .int .u8 G1, .int .u8 B1] ∧ Whole (w1.setCell ⟨w.heap.size, 0, none⟩ (.int .u8 Y)) (w.heap.size + 1) 38 [.int .u8 0, .int .u8 0, .int .u8 0] ∧ Below w.heap.size w (w1.setCell ⟨w.heap.size, 0, none⟩ (.int .u8 Y))) := by
         intro w1 hb
         have a1 := HWa.out.drew.later hb
         have a2 := HWb.out.drew.later hb
         have hb' : Below w4.heap.size w4 w1 := ⟨hb.os, hb.tape, hb.output, hb.size, hb.block⟩
         exact ⟨a1.cell 0, a1.frozen 0, a1.put 0 _, whole_put1 a2 (by omega) _, (hbel.trans (hb'.mono hbel.size)).setCell (Nat.le_refl _) _⟩
        have HK := hide key
        have hYW := HYW.out
        clear key
        go_region_with (go_at_call 112; refine (bit_any j hj5 _).mono ?_; rintro e w5 ⟨rfl, hb5⟩; rw [HBt.out]; obtain ⟨k1, k2, k3⟩ := HK.out w5 hb5)
        all_goals
         have HWa' := hide k3.out.1
         have HWb' := hide k3.out.2.1
         have hbel' := k3.out.2.2
         clear k1 k2 k3 hb5 HK HWa HWb hbel; go_wp2
         generalize w5.setCell ⟨w.heap.size, 0, none⟩ (.int .u8 Y) = w6 at *
         refine rgH (fun w' => Below w6.heap.size w6 w') [(true, 0), (false, 1), (false, 2), (false, 3), (false, 4), (true, 7), (true, 5), (true, 6), (false, 8), (false, 9), (false, 10)] bd1 ?_
         refine stH (h := ?_)
         refine alH fun K hK => ?_
         go_wp2
         refine hK.out _ _ bd1 ?_
         clear hK K
         refine alH fun K hK => ?_
         go_wp2_with fail
         refine (off_any j hj5 _).mono ?_
         rintro e w7 ⟨rfl, hb⟩
         rw [HOff.out]
         have Bw7 : Below w6.heap.size w6 w7 := bd1.trans hb
         clear hb; go_wp2
         refine hK.out _ _ Bw7 ?_
         clear hK K
         refine alH fun K hK => ?_
         go_wp2
         refine hK.out _ _ Bw7 ?_
         clear hK K
         refine alH fun K hK => ?_
         go_wp2
         refine hK.out _ _ Bw7 ?_
         clear hK K
         iterate 3 refine skH (h := ?_)
         refine paH Bw7 (h := ?_)
         refine paH Bw7 (h := ?_)
         refine alH fun K hK => ?_
         go_wp2
         refine hK.out _ _ Bw7 ?_
         clear hK K
         refine chainH_nil ?_
         go_wp2
         go_roundw
         case rel => exact ⟨j + 1, by omega, by go_num, by rw [HN.out]; exact HWa'.out.later Bw7, HWb'.out.later Bw7, hbel'.trans (Bw7.mono hbel'.size)⟩
         case measure => simp [intOf]; omega
       ·have HN := hide (flag_same1 r F1 j X hXe hj5 (by rw [hO]; exact h1) (by rw [hbt]; exact hh))
        have HH := hide hh; clear hh hO hOf hbt hXe h1; go_wp2
        refine rgH (fun w' => Below wr.heap.size wr w') [(true, 0), (false, 1), (false, 2), (false, 3), (false, 4), (true, 7), (true, 5), (true, 6), (false, 8), (false, 9), (false, 10), (false, 11)] bd1 ?_
        refine stH (h := ?_)
        refine alH fun K hK => ?_
        go_wp2
        refine hK.out _ _ bd1 ?_
        clear hK K
        refine alH fun K hK => ?_
        go_wp2_with fail
        refine (on_any j hj5 _).mono ?_
        rintro e w3 ⟨rfl, hb⟩
        rw [HO.out]
        have B3 : Below wr.heap.size wr w3 := bd1.trans hb
        clear hb; go_wp2
        refine hK.out _ _ B3 ?_
        clear hK K
        refine alH fun K hK => ?_
        go_wp2
        refine hK.out _ _ B3 ?_
        clear hK K
        refine alH fun K hK => ?_
        go_wp2
        refine hK.out _ _ B3 ?_
        clear hK K
        refine stH (h := ?_)
        refine stH (h := ?_)
        refine stH (hy := fun w hS => by have := (HWa.out.later hS).cell 0; simp only [List.getElem?_cons_zero] at this; go_simp <;> with_reducible rfl) (h := ?_)
        refine alH fun K hK => ?_
        go_wp2_with fail
        refine (bit_any j hj5 _).mono ?_
        rintro e w4 ⟨rfl, hb⟩
        rw [HBt.out]
        have B4 : Below wr.heap.size wr w4 := B3.trans (hb.mono B3.size)
        clear hb; go_wp2
        refine hK.out _ _ B4 ?_
        clear hK K
        refine alH fun K hK => ?_
        go_wp2_with fail
        refine (pn_has_any X bt hX hb0 hb1 _).mono ?_
        rintro e w' ⟨rfl, rfl⟩
        rw [HH.out]
        go_wp2
        refine hK.out _ _ B4 ?_
        clear hK K
        refine alH fun K hK => ?_
        go_wp2
        refine hK.out _ _ B4 ?_
        clear hK K
        refine alH fun K hK => ?_
        go_wp2
        refine hK.out _ _ B4 ?_
        clear hK K
        refine chainH_nil ?_
        go_wp2
        replace HWa := hide (HWa.out.later B4)
        replace HWb := hide (HWb.out.later B4)
        replace hbel := hbel.trans (B4.mono hbel.size)
        refine rgH (fun w' => Below w4.heap.size w4 w') [(true, 0), (false, 1), (false, 2), (false, 3), (false, 4), (true, 7), (true, 5), (true, 6), (false, 8), (false, 9), (false, 10)] bd1 ?_
        refine stH (h := ?_)
        refine alH fun K hK => ?_
        go_wp2
        refine hK.out _ _ bd1 ?_
        clear hK K
        refine alH fun K hK => ?_
        go_wp2_with fail
        refine (off_any j hj5 _).mono ?_
        rintro e w7 ⟨rfl, hb⟩
        rw [HOff.out]
        have Bw7 : Below w4.heap.size w4 w7 := bd1.trans hb
        clear hb; go_wp2
        refine hK.out _ _ Bw7 ?_
        clear hK K
        refine alH fun K hK => ?_
        go_wp2
        refine hK.out _ _ Bw7 ?_
        clear hK K
        refine alH fun K hK => ?_
        go_wp2
        refine hK.out _ _ Bw7 ?_
        clear hK K
        iterate 3 refine skH (h := ?_)
        refine paH Bw7 (h := ?_)
        refine paH Bw7 (h := ?_)
        refine alH fun K hK => ?_
        go_wp2
        refine hK.out _ _ Bw7 ?_
        clear hK K
        refine chainH_nil ?_
        replace HWa := hide (HWa.out.later Bw7)
        replace HWb := hide (HWb.out.later Bw7)
        replace hbel := hbel.trans (Bw7.mono hbel.size)
        go_wp2
        go_roundw
        case rel => exact ⟨j + 1, by omega, by go_num, by rw [HN.out]; exact HWa.out, HWb.out, hbel⟩
        case measure => simp [intOf]; omega
      ·have e1 : (r == O) = false := by simpa using h1
       have h1' : r ≠ onC j := by rw [hO]; exact h1
       by_cases h2 : r = Of
       ·have e2 : (r == Of) = true := by simpa using h2
        cases hh : hasN X bt
        ·have HN := hide (flag_same2 r F1 j X hXe h1' (.inr (by rw [hbt]; exact hh)))
         have HH := hide hh; clear hh hO hOf hbt hXe h1 h1' h2; go_wp2
         refine rgH (fun w' => Below wr.heap.size wr w') [(true, 0), (false, 1), (false, 2), (false, 3), (false, 4), (true, 7), (true, 5), (true, 6), (false, 8), (false, 9), (false, 10), (false, 11)] bd1 ?_
         refine stH (h := ?_)
         refine alH fun K hK => ?_
         go_wp2
         refine hK.out _ _ bd1 ?_
         clear hK K
         refine alH fun K hK => ?_
         go_wp2_with fail
         refine (on_any j hj5 _).mono ?_
         rintro e w3 ⟨rfl, hb⟩
         rw [HO.out]
         have B3 : Below wr.heap.size wr w3 := bd1.trans hb
         clear hb; go_wp2
         refine hK.out _ _ B3 ?_
         clear hK K
         refine alH fun K hK => ?_
         go_wp2
         refine hK.out _ _ B3 ?_
         clear hK K
         refine alH fun K hK => ?_
         go_wp2
         refine hK.out _ _ B3 ?_
         clear hK K
         iterate 3 refine skH (h := ?_)
         refine paH B3 (h := ?_)
         refine paH B3 (h := ?_)
         refine paH B3 (h := ?_)
         refine alH fun K hK => ?_
         go_wp2
         refine hK.out _ _ B3 ?_
         clear hK K
         refine chainH_nil ?_
         go_wp2
         replace HWa := hide (HWa.out.later B3)
         replace HWb := hide (HWb.out.later B3)
         replace hbel := hbel.trans (B3.mono hbel.size)
         refine rgH (fun w' => Below w3.heap.size w3 w') [(true, 0), (false, 1), (false, 2), (false, 3), (false, 4), (true, 7), (true, 5), (true, 6), (false, 8), (false, 9), (false, 10)] bd1 ?_
         refine stH (h := ?_)
         refine alH fun K hK => ?_
         go_wp2
         refine hK.out _ _ bd1 ?_
         clear hK K
         refine alH fun K hK => ?_
         go_wp2_with fail
         refine (off_any j hj5 _).mono ?_
         rintro e w7 ⟨rfl, hb⟩
         rw [HOff.out]
         have Bw7 : Below w3.heap.size w3 w7 := bd1.trans hb
         clear hb; go_wp2
         refine hK.out _ _ Bw7 ?_
         clear hK K
         refine alH fun K hK => ?_
         go_wp2
         refine hK.out _ _ Bw7 ?_
         clear hK K
         refine alH fun K hK => ?_
         go_wp2
         refine hK.out _ _ Bw7 ?_
         clear hK K
         refine stH (h := ?_)
         refine stH (h := ?_)
         refine stH (hy := fun w hS => by have := (HWa.out.later hS).cell 0; simp only [List.getElem?_cons_zero] at this; go_simp <;> with_reducible rfl) (h := ?_)
         refine alH fun K hK => ?_
         go_wp2_with fail
         refine (bit_any j hj5 _).mono ?_
         rintro e w8 ⟨rfl, hb⟩
         rw [HBt.out]
         have Bw8 : Below w3.heap.size w3 w8 := Bw7.trans (hb.mono Bw7.size)
         clear hb; go_wp2
         refine hK.out _ _ Bw8 ?_
         clear hK K
         refine alH fun K hK => ?_
         go_wp2_with fail
         refine (pn_has_any X bt hX hb0 hb1 _).mono ?_
         rintro e w' ⟨rfl, rfl⟩
         rw [HH.out]
         go_wp2
         refine hK.out _ _ Bw8 ?_
         clear hK K
         refine alH fun K hK => ?_
         go_wp2
         refine hK.out _ _ Bw8 ?_
         clear hK K
         refine chainH_nil ?_
         replace HWa := hide (HWa.out.later Bw8)
         replace HWb := hide (HWb.out.later Bw8)
         replace hbel := hbel.trans (Bw8.mono hbel.size)
         go_wp2
         go_roundw
         case rel => exact ⟨j + 1, by omega, by go_num, by rw [HN.out]; exact HWa.out, HWb.out, hbel⟩
         case measure => simp [intOf]; omega
        ·have HN := hide (flag_sub r F1 j X hXe h1' (by rw [hOf]; exact h2) (by rw [hbt]; exact hh))
         rw [hbt] at HN
         have hle := hasN_le X bt hb0 hh
         obtain ⟨Y, hY⟩ := exq (X - bt)
         rw [hY] at HN
         have HYW := hide (wrap_u8_in ((X : Int) - (bt : Int)) Y (by omega) (by omega))
         clear hY; have HH := hide hh; clear hh hO hOf hbt hXe h1 h1' h2; go_wp2
         refine rgH (fun w' => Below wr.heap.size wr w') [(true, 0), (false, 1), (false, 2), (false, 3), (false, 4), (true, 7), (true, 5), (true, 6), (false, 8), (false, 9), (false, 10), (false, 11)] bd1 ?_
         refine stH (h := ?_)
         refine alH fun K hK => ?_
         go_wp2
         refine hK.out _ _ bd1 ?_
         clear hK K
         refine alH fun K hK => ?_
         go_wp2_with fail
         refine (on_any j hj5 _).mono ?_
         rintro e w3 ⟨rfl, hb⟩
         rw [HO.out]
         have B3 : Below wr.heap.size wr w3 := bd1.trans hb
         clear hb; go_wp2
         refine hK.out _ _ B3 ?_
         clear hK K
         refine alH fun K hK => ?_
         go_wp2
         refine hK.out _ _ B3 ?_
         clear hK K
         refine alH fun K hK => ?_
         go_wp2
         refine hK.out _ _ B3 ?_
         clear hK K
         iterate 3 refine skH (h := ?_)
         refine paH B3 (h := ?_)
         refine paH B3 (h := ?_)
         refine paH B3 (h := ?_)
         refine alH fun K hK => ?_
         go_wp2
         refine hK.out _ _ B3 ?_
         clear hK K
         refine chainH_nil ?_
         go_wp2
         replace HWa := hide (HWa.out.later B3)
         replace HWb := hide (HWb.out.later B3)
         replace hbel := hbel.trans (B3.mono hbel.size)
         refine rgH (fun w' => Below w3.heap.size w3 w') [(true, 0), (false, 1), (false, 2), (false, 3), (false, 4), (true, 7), (true, 5), (true, 6), (false, 8), (false, 9), (false, 10)] bd1 ?_
         refine stH (h := ?_)
         refine alH fun K hK => ?_
         go_wp2
         refine hK.out _ _ bd1 ?_
         clear hK K
         refine alH fun K hK => ?_
         go_wp2_with fail
         refine (off_any j hj5 _).mono ?_
         rintro e w7 ⟨rfl, hb⟩
         rw [HOff.out]
         have Bw7 : Below w3.heap.size w3 w7 := bd1.trans hb
         clear hb; go_wp2
         refine hK.out _ _ Bw7 ?_
         clear hK K
         refine alH fun K hK => ?_
         go_wp2
         refine hK.out _ _ Bw7 ?_
         clear hK K
         refine alH fun K hK => ?_
         go_wp2
         refine hK.out _ _ Bw7 ?_
         clear hK K
         refine stH (h := ?_)
         refine stH (h := ?_)
         refine stH (hy := fun w hS => by have := (HWa.out.later hS).cell 0; simp only [List.getElem?_cons_zero] at this; go_simp <;> with_reducible rfl) (h := ?_)
         refine alH fun K hK => ?_
         go_wp2_with fail
         refine (bit_any j hj5 _).mono ?_
         rintro e w8 ⟨rfl, hb⟩
         rw [HBt.out]
         have Bw8 : Below w3.heap.size w3 w8 := Bw7.trans (hb.mono Bw7.size)
         clear hb; go_wp2
         refine hK.out _ _ Bw8 ?_
         clear hK K
         refine alH fun K hK => ?_
         go_wp2_with fail
         refine (pn_has_any X bt hX hb0 hb1 _).mono ?_
         rintro e w' ⟨rfl, rfl⟩
         rw [HH.out]
         go_wp2
         refine hK.out _ _ Bw8 ?_
         clear hK K
         refine alH fun K hK => ?_
         go_wp2
         refine hK.out _ _ Bw8 ?_
         clear hK K
         refine chainH_nil ?_
         go_wp2
         replace HWa := hide (HWa.out.later Bw8)
         replace HWb := hide (HWb.out.later Bw8)
         replace hbel := hbel.trans (Bw8.mono hbel.size)
         have hcx : w8.drew.cell? ⟨w.heap.size, 0, none⟩ = some (.int .u8 X) := HWa.out.cell 0
         have key : ∀ w1 : World, Below w8.drew.heap.size w8.drew w1 → w1.cell? ⟨w.heap.size, 0, none⟩ = some (.int .u8 X) ∧ w1.frozen? ⟨w.heap.size, 0, none⟩ = false ∧
           Hid (Whole (w1.setCell ⟨w.heap.size, 0, none⟩ (.int .u8 Y)) w.heap.size 38 [.int .u8 Y, .int .u8 G1, .int .u8 B1] ∧ Whole (w1.setCell ⟨w.heap.size, 0, none⟩ (.int .u8 Y)) (w.heap.size + 1) 38 [.int .u8 0, .int .u8 0, .int .u8 0] ∧ Below w.heap.size w (w1.setCell ⟨w.heap.size, 0, none⟩ (.int .u8 Y))) := by
          intro w1 hb
          have a1 := HWa.out.drew.later hb
          have a2 := HWb.out.drew.later hb
          have hb' : Below w8.heap.size w8 w1 := ⟨hb.os, hb.tape, hb.output, hb.size, hb.block⟩
          exact ⟨a1.cell 0, a1.frozen 0, a1.put 0 _, whole_put1 a2 (by omega) _, (hbel.trans (hb'.mono hbel.size)).setCell (Nat.le_refl _) _⟩
         have HK := hide key
         have hYW := HYW.out
         clear key
         go_region_with (go_at_call 112; refine (bit_any j hj5 _).mono ?_; rintro e w5 ⟨rfl, hb5⟩; rw [HBt.out]; obtain ⟨k1, k2, k3⟩ := HK.out w5 hb5)
         all_goals
          have HWa' := hide k3.out.1
          have HWb' := hide k3.out.2.1
          have hbel' := k3.out.2.2
          clear k1 k2 k3 hb5 HK HWa HWb hbel; go_wp2
          go_roundw
          case rel => exact ⟨j + 1, by omega, by go_num, by rw [HN.out]; exact HWa'.out, HWb'.out, hbel'⟩
          case measure => simp [intOf]; omega
       ·have e2 : (r == Of) = false := by simpa using h2
        have HN := hide (flag_same2 r F1 j X hXe h1' (.inl (by rw [hOf]; exact h2)))
        clear hO hOf hbt hXe h1 h1' h2; go_wp2
        refine rgH (fun w' => Below wr.heap.size wr w') [(true, 0), (false, 1), (false, 2), (false, 3), (false, 4), (true, 7), (true, 5), (true, 6), (false, 8), (false, 9), (false, 10), (false, 11)] bd1 ?_
        refine stH (h := ?_)
        refine alH fun K hK => ?_
        go_wp2
        refine hK.out _ _ bd1 ?_
        clear hK K
        refine alH fun K hK => ?_
        go_wp2_with fail
        refine (on_any j hj5 _).mono ?_
        rintro e w3 ⟨rfl, hb⟩
        rw [HO.out]
        have B3 : Below wr.heap.size wr w3 := bd1.trans hb
        clear hb; go_wp2
        refine hK.out _ _ B3 ?_
        clear hK K
        refine alH fun K hK => ?_
        go_wp2
        refine hK.out _ _ B3 ?_
        clear hK K
        refine alH fun K hK => ?_
        go_wp2
        refine hK.out _ _ B3 ?_
        clear hK K
        iterate 3 refine skH (h := ?_)
        refine paH B3 (h := ?_)
        refine paH B3 (h := ?_)
        refine paH B3 (h := ?_)
        refine alH fun K hK => ?_
        go_wp2
        refine hK.out _ _ B3 ?_
        clear hK K
        refine chainH_nil ?_
        go_wp2
        replace HWa := hide (HWa.out.later B3)
        replace HWb := hide (HWb.out.later B3)
        replace hbel := hbel.trans (B3.mono hbel.size)
        refine rgH (fun w' => Below w3.heap.size w3 w') [(true, 0), (false, 1), (false, 2), (false, 3), (false, 4), (true, 7), (true, 5), (true, 6), (false, 8), (false, 9), (false, 10)] bd1 ?_
        refine stH (h := ?_)
        refine alH fun K hK => ?_
        go_wp2
        refine hK.out _ _ bd1 ?_
        clear hK K
        refine alH fun K hK => ?_
        go_wp2_with fail
        refine (off_any j hj5 _).mono ?_
        rintro e w7 ⟨rfl, hb⟩
        rw [HOff.out]
        have Bw7 : Below w3.heap.size w3 w7 := bd1.trans hb
        clear hb; go_wp2
        refine hK.out _ _ Bw7 ?_
        clear hK K
        refine alH fun K hK => ?_
        go_wp2
        refine hK.out _ _ Bw7 ?_
        clear hK K
        refine alH fun K hK => ?_
        go_wp2
        refine hK.out _ _ Bw7 ?_
        clear hK K
        iterate 3 refine skH (h := ?_)
        refine paH Bw7 (h := ?_)
        refine paH Bw7 (h := ?_)
        refine alH fun K hK => ?_
        go_wp2
        refine hK.out _ _ Bw7 ?_
        clear hK K
        refine chainH_nil ?_
        replace HWa := hide (HWa.out.later Bw7)
        replace HWb := hide (HWb.out.later Bw7)
        replace hbel := hbel.trans (Bw7.mono hbel.size)
        go_wp2
        go_roundw
        case rel => exact ⟨j + 1, by omega, by go_num, by rw [HN.out]; exact HWa.out, HWb.out, hbel⟩
        case measure => simp [intOf]; omega
     ·obtain rfl : j = 5 := by omega
      have HXe := hide hXe; clear hXe hj5 hj; clear s1; go_wp2
      go_loopw [8] (fun i wr3 => ∃ j : Nat, j ≤ 8 ∧ i = .int .i64 j ∧ Whole wr3 w.heap.size 38 [.int .u8 X, .int .u8 (dyeK G1 r j : Int), .int .u8 (dyeK B1 (r - 10) j : Int)] ∧ Whole wr3 (w.heap.size + 1) 38 [.int .u8 0, .int .u8 0, .int .u8 0] ∧ Below w.heap.size w wr3)
       (fun i _ => 8 - (intOf i).toNat)
      case atStart => exact ⟨0, Nat.zero_le _, rfl, by rw [dyeK_zero, dyeK_zero]; exact HWa.out, HWb.out, hbel⟩
      case round =>
       clear HWa HWb hbel
       obtain ⟨j, hj, rfl, hwa, hwb, hbel⟩ := hrel
       have s1 := hwb.lt
       by_cases hj8 : j < 8
       ·obtain ⟨G2, hG2⟩ := exq (dyeK G1 r j)
        obtain ⟨B2, hB2⟩ := exq (dyeK B1 (r - 10) j)
        rw [hG2, hB2] at hwa
        obtain ⟨c0, c1, c2, z0, z1, z2⟩ := whole3 hwa
        have HWa := hide hwa; have HWb := hide hwb; clear hwa hwb
        by_cases t1 : r = 30 + (j : Int)
        ·have e30 : (r == 30 + (j : Int)) = true := by simp; omega
         have e90 : (r == 90 + (j : Int)) = false := by simp; omega
         have e40 : (r == 40 + (j : Int)) = false := by simp; omega
         have e100 : (r == 100 + (j : Int)) = false := by simp; omega
         have HG : Hid ((dyeK G1 r (j + 1) : Int) = 1 + (j : Int)) := by unfold Hid; rw [dyeK_lo G1 r j hj8 (by omega)]; omega
         have HB : Hid ((dyeK B1 (r - 10) (j + 1) : Int) = (B2 : Int)) := by unfold Hid; rw [dyeK_no B1 (r - 10) j (by omega) (by omega), hB2]
         clear hG2 hB2 t1; go_wp2
         go_roundw
         case rel => exact ⟨j + 1, by omega, by go_num, by rw [HG.out, HB.out]; exact HWa.out.put 1 _, whole_put1 HWb.out (by omega) _, hbel.setCell (Nat.le_refl _) _⟩
         case measure => simp [intOf]; omega
        by_cases t2 : r = 90 + (j : Int)
        ·have e30 : (r == 30 + (j : Int)) = false := by simp; omega
         have e90 : (r == 90 + (j : Int)) = true := by simp; omega
         have e40 : (r == 40 + (j : Int)) = false := by simp; omega
         have e100 : (r == 100 + (j : Int)) = false := by simp; omega
         have HG : Hid ((dyeK G1 r (j + 1) : Int) = 9 + (j : Int)) := by unfold Hid; rw [dyeK_hi G1 r j hj8 (by omega)]; omega
         have HB : Hid ((dyeK B1 (r - 10) (j + 1) : Int) = (B2 : Int)) := by unfold Hid; rw [dyeK_no B1 (r - 10) j (by omega) (by omega), hB2]
         clear hG2 hB2 t1 t2; go_wp2
         go_roundw
         case rel => exact ⟨j + 1, by omega, by go_num, by rw [HG.out, HB.out]; exact HWa.out.put 1 _, whole_put1 HWb.out (by omega) _, hbel.setCell (Nat.le_refl _) _⟩
         case measure => simp [intOf]; omega
        by_cases t3 : r = 40 + (j : Int)
        ·have e30 : (r == 30 + (j : Int)) = false := by simp; omega
         have e90 : (r == 90 + (j : Int)) = false := by simp; omega
         have e40 : (r == 40 + (j : Int)) = true := by simp; omega
         have e100 : (r == 100 + (j : Int)) = false := by simp; omega
         have HG : Hid ((dyeK G1 r (j + 1) : Int) = (G2 : Int)) := by unfold Hid; rw [dyeK_no G1 r j (by omega) (by omega), hG2]
         have HB : Hid ((dyeK B1 (r - 10) (j + 1) : Int) = 1 + (j : Int)) := by unfold Hid; rw [dyeK_lo B1 (r - 10) j hj8 (by omega)]; omega
         clear hG2 hB2 t1 t2 t3; go_wp2
         go_roundw
         case rel => exact ⟨j + 1, by omega, by go_num, by rw [HG.out, HB.out]; exact HWa.out.put 2 _, whole_put1 HWb.out (by omega) _, hbel.setCell (Nat.le_refl _) _⟩
         case measure => simp [intOf]; omega
        by_cases t4 : r = 100 + (j : Int)
        ·have e30 : (r == 30 + (j : Int)) = false := by simp; omega
         have e90 : (r == 90 + (j : Int)) = false := by simp; omega
         have e40 : (r == 40 + (j : Int)) = false := by simp; omega
         have e100 : (r == 100 + (j : Int)) = true := by simp; omega
         have HG : Hid ((dyeK G1 r (j + 1) : Int) = (G2 : Int)) := by unfold Hid; rw [dyeK_no G1 r j (by omega) (by omega), hG2]
         have HB : Hid ((dyeK B1 (r - 10) (j + 1) : Int) = 9 + (j : Int)) := by unfold Hid; rw [dyeK_hi B1 (r - 10) j hj8 (by omega)]; omega
         clear hG2 hB2 t1 t2 t3 t4; go_wp2
         go_roundw
         case rel => exact ⟨j + 1, by omega, by go_num, by rw [HG.out, HB.out]; exact HWa.out.put 2 _, whole_put1 HWb.out (by omega) _, hbel.setCell (Nat.le_refl _) _⟩
         case measure => simp [intOf]; omega
        have e30 : (r == 30 + (j : Int)) = false := by simp; omega
        have e90 : (r == 90 + (j : Int)) = false := by simp; omega
        have e40 : (r == 40 + (j : Int)) = false := by simp; omega
        have e100 : (r == 100 + (j : Int)) = false := by simp; omega
        have HG : Hid ((dyeK G1 r (j + 1) : Int) = (G2 : Int)) := by unfold Hid; rw [dyeK_no G1 r j (by omega) (by omega), hG2]
        have HB : Hid ((dyeK B1 (r - 10) (j + 1) : Int) = (B2 : Int)) := by unfold Hid; rw [dyeK_no B1 (r - 10) j (by omega) (by omega), hB2]
        clear hG2 hB2 t1 t2 t3 t4; go_wp2
        go_roundw
        case rel => exact ⟨j + 1, by omega, by go_num, by rw [HG.out, HB.out]; exact HWa.out, HWb.out, hbel⟩
        case measure => simp [intOf]; omega
       ·obtain rfl : j = 8 := by omega
        obtain ⟨G2, hG2⟩ := exq (dyeK G1 r 8)
        obtain ⟨B2, hB2⟩ := exq (dyeK B1 (r - 10) 8)
        rw [hG2, hB2] at hwa
        rw [hG2, hB2] at HD
        obtain ⟨c0, c1, c2, z0, z1, z2⟩ := whole3 hwa
        have HWa := hide hwa; have HWb := hide hwb; clear hwa hwb hG2 hB2 hj hj8
        by_cases u1 : r = 39
        ·have e39 : (r == 39) = true := by simp; omega
         have e49 : (r == 49) = false := by simp; omega
         have HE : Hid (penL ((zs.take (k + 1)).foldl onceN ⟨f, g, b⟩) = [.int .u8 X, .int .u8 0, .int .u8 B2]) := by unfold Hid; rw [HT.out, HD.out, HXe.out, if_pos u1, if_neg (by omega)]; rfl
         clear u1; go_wp2
         go_roundw
         case rel => exact ⟨k + 1, by omega, by go_num, by rw [HE.out]; exact HWa.out.put 1 _, whole_put1 HWb.out (by omega) _, hbel.setCell (Nat.le_refl _) _⟩
         case measure => simp [intOf]; omega
        by_cases u2 : r = 49
        ·have e39 : (r == 39) = false := by simp; omega
         have e49 : (r == 49) = true := by simp; omega
         have HE : Hid (penL ((zs.take (k + 1)).foldl onceN ⟨f, g, b⟩) = [.int .u8 X, .int .u8 G2, .int .u8 0]) := by unfold Hid; rw [HT.out, HD.out, HXe.out, if_neg (by omega), if_pos u2]; rfl
         clear u1 u2; go_wp2
         go_roundw
         case rel => exact ⟨k + 1, by omega, by go_num, by rw [HE.out]; exact HWa.out.put 2 _, whole_put1 HWb.out (by omega) _, hbel.setCell (Nat.le_refl _) _⟩
         case measure => simp [intOf]; omega
        have e39 : (r == 39) = false := by simp; omega
        have e49 : (r == 49) = false := by simp; omega
        have HE : Hid (penL ((zs.take (k + 1)).foldl onceN ⟨f, g, b⟩) = [.int .u8 X, .int .u8 G2, .int .u8 B2]) := by unfold Hid; rw [HT.out, HD.out, HXe.out, if_neg (by omega), if_neg (by omega)]; rfl
        clear u1 u2; go_wp2
        go_roundw
        case rel => exact ⟨k + 1, by omega, by go_num, by rw [HE.out]; exact HWa.out, HWb.out, hbel⟩
        case measure => simp [intOf]; omega
   ·have r0b : (r == 0) = false := by simpa using hr0
    obtain ⟨F1, hF1⟩ : ∃ F1 : Nat, F1 = F := ⟨_, rfl⟩
    obtain ⟨G1, hG1⟩ : ∃ G1 : Nat, G1 = G := ⟨_, rfl⟩
    obtain ⟨B1, hB1⟩ : ∃ B1 : Nat, B1 = B := ⟨_, rfl⟩
    have HD := hide (once_doc F G B F1 G1 B1 r hF (.inr ⟨hr0, hF1, hG1, hB1⟩))
    have HWa0 : Hid (Whole wr w.heap.size 38 [.int .u8 F1, .int .u8 G1, .int .u8 B1]) := by rw [hF1, hG1, hB1]; exact hw0
    have HWb0 := hide hw1
    have hbel0 := hbel
    have hF1l : F1 < 256 := by omega
    have hG1l : G1 < 256 := by omega
    have hB1l : B1 < 256 := by omega
    have s1' := s1
    clear hF1 hG1 hB1 hr0 hw0 hw1; go_wp2
    generalize wr = W1 at *
    clear hbel hcx c0 c1 c2 z0 z1 z2 s0 s1 r0b hF hG hB
    go_loopw [7] (fun i wr2 => ∃ j : Nat, j ≤ 5 ∧ i = .int .i64 j ∧ Whole wr2 w.heap.size 38 [.int .u8 (flagK r F1 j : Int), .int .u8 G1, .int .u8 B1] ∧ Whole wr2 (w.heap.size + 1) 38 [.int .u8 0, .int .u8 0, .int .u8 0] ∧ Below w.heap.size w wr2)
     (fun i _ => 5 - (intOf i).toNat)
    case atStart => exact ⟨0, Nat.zero_le _, rfl, HWa0.out, HWb0.out, hbel0⟩
    case round =>
     clear HWa0 HWb0 hbel0
     obtain ⟨j, hj, rfl, hwa, hwb, hbel⟩ := hrel
     obtain ⟨X, hXe⟩ := exq (flagK r F1 j)
     rw [hXe] at hwa
     have hX : X < 256 := by rw [← hXe]; exact flagK_lt r F1 hF1l j hj
     have HWa := hide hwa; have HWb := hide hwb
     have s1 := hwb.lt
     clear hwa hwb s1'
     by_cases hj5 : j < 5
     ·obtain ⟨O, hO⟩ := exq (onC j)
      obtain ⟨Of, hOf⟩ := exq (offC j)
      obtain ⟨bt, hbt⟩ := exq (bitC j)
      have hbb := bitC_bd j hj5
      rw [hbt] at hbb
      obtain ⟨hb0, hb1⟩ := hbb
      have HO := hide hO; have HOff := hide hOf
      have HBt : Hid ((bitC j : Int) = (bt : Int)) := by unfold Hid; rw [hbt]
      have HXe := hide hXe
      by_cases h1 : r = O
      ·have e1 : (r == O) = true := by simpa using h1
       have e2 : (r == Of) = false := by
        have := on_off j hj5
        rw [hO, hOf, ← h1] at this
        simpa using this
       cases hh : hasN X bt
       ·have HN := hide (flag_add r F1 j X hXe hj5 (by rw [hO]; exact h1) (by rw [hbt]; exact hh))
        rw [hbt] at HN
        obtain ⟨Y, hY⟩ := exq (X + bt)
        rw [hY] at HN
        have hYl : Y < 256 := by
         have := flagK_lt r F1 hF1l (j + 1) (by omega)
         rw [HN.out] at this; exact this
        have HYW := hide (wrap_u8_in ((X : Int) + (bt : Int)) Y (by omega) hYl)
        clear hY; have HH := hide hh; clear hh hO hOf hbt hXe h1; go_wp2
        refine rgH (fun w' => Below wr.heap.size wr w') [(true, 0), (false, 1), (false, 2), (false, 3), (false, 4), (true, 7), (true, 5), (true, 6), (false, 8), (false, 9), (false, 10), (false, 11)] bd1 ?_
        refine stH (h := ?_)
        refine alH fun K hK => ?_
        go_wp2
        refine hK.out _ _ bd1 ?_
        clear hK K
        refine alH fun K hK => ?_
        go_wp2_with fail
        refine (on_any j hj5 _).mono ?_
        rintro e w3 ⟨rfl, hb⟩
        rw [HO.out]
        have B3 : Below wr.heap.size wr w3 := bd1.trans hb
        clear hb; go_wp2
        refine hK.out _ _ B3 ?_
        clear hK K
        refine alH fun K hK => ?_
        go_wp2
        refine hK.out _ _ B3 ?_
        clear hK K
        refine alH fun K hK => ?_
        go_wp2
        refine hK.out _ _ B3 ?_
        clear hK K
        refine stH (h := ?_)
        refine stH (h := ?_)
        refine stH (hy := fun w hS => by have := (HWa.out.later hS).cell 0; simp only [List.getElem?_cons_zero] at this; go_simp <;> with_reducible rfl) (h := ?_)
        refine alH fun K hK => ?_
        go_wp2_with fail
        refine (bit_any j hj5 _).mono ?_
        rintro e w4 ⟨rfl, hb⟩
        rw [HBt.out]
        have B4 : Below wr.heap.size wr w4 := B3.trans (hb.mono B3.size)
        clear hb; go_wp2
        refine hK.out _ _ B4 ?_
        clear hK K
        refine alH fun K hK => ?_
        go_wp2_with fail
        refine (pn_has_any X bt hX hb0 hb1 _).mono ?_
        rintro e w' ⟨rfl, rfl⟩
        rw [HH.out]
        go_wp2
        refine hK.out _ _ B4 ?_
        clear hK K
        refine alH fun K hK => ?_
        go_wp2
        refine hK.out _ _ B4 ?_
        clear hK K
        refine alH fun K hK => ?_
        go_wp2
        refine hK.out _ _ B4 ?_
        clear hK K
        refine chainH_nil ?_
        go_wp2
        replace HWa := hide (HWa.out.later B4)
        replace HWb := hide (HWb.out.later B4)
        replace hbel := hbel.trans (B4.mono hbel.size)
        have hcx : w4.drew.cell? ⟨w.heap.size, 0, none⟩ = some (.int .u8 X) := HWa.out.cell 0
        have key : ∀ w1 : World, Below w4.drew.heap.size w4.drew w1 → w1.cell? ⟨w.heap.size, 0, none⟩ = some (.int .u8 X) ∧ w1.frozen? ⟨w.heap.size, 0, none⟩ = false ∧
          Hid (Whole (w1.setCell ⟨w.heap.size, 0, none⟩ (.int .u8 Y)) w.heap.size 38 [.int .u8 Y, .int .u8 G1, .int .u8 B1] ∧ Whole (w1.setCell ⟨w.heap.size, 0, none⟩ (.int .u8 Y)) (w.heap.size + 1) 38 [.int .u8 0, .int .u8 0, .int .u8 0] ∧ Below w.heap.size w (w1.setCell ⟨w.heap.size, 0, none⟩ (.int .u8 Y))) := by
         intro w1 hb
         have a1 := HWa.out.drew.later hb
         have a2 := HWb.out.drew.later hb
         have hb' : Below w4.heap.size w4 w1 := ⟨hb.os, hb.tape, hb.output, hb.size, hb.block⟩
         exact ⟨a1.cell 0, a1.frozen 0, a1.put 0 _, whole_put1 a2 (by omega) _, (hbel.trans (hb'.mono hbel.size)).setCell (Nat.le_refl _) _⟩
        have HK := hide key
        have hYW := HYW.out
        clear key
        go_region_with (go_at_call 112; refine (bit_any j hj5 _).mono ?_; rintro e w5 ⟨rfl, hb5⟩; rw [HBt.out]; obtain ⟨k1, k2, k3⟩ := HK.out w5 hb5)
        all_goals
         have HWa' := hide k3.out.1
         have HWb' := hide k3.out.2.1
         have hbel' := k3.out.2.2
         clear k1 k2 k3 hb5 HK HWa HWb hbel; go_wp2
         generalize w5.setCell ⟨w.heap.size, 0, none⟩ (.int .u8 Y) = w6 at *
         refine rgH (fun w' => Below w6.heap.size w6 w') [(true, 0), (false, 1), (false, 2), (false, 3), (false, 4), (true, 7), (true, 5), (true, 6), (false, 8), (false, 9), (false, 10)] bd1 ?_
         refine stH (h := ?_)
         refine alH fun K hK => ?_
         go_wp2
         refine hK.out _ _ bd1 ?_
         clear hK K
         refine alH fun K hK => ?_
         go_wp2_with fail
         refine (off_any j hj5 _).mono ?_
         rintro e w7 ⟨rfl, hb⟩
         rw [HOff.out]
         have Bw7 : Below w6.heap.size w6 w7 := bd1.trans hb
         clear hb; go_wp2
         refine hK.out _ _ Bw7 ?_
         clear hK K
         refine alH fun K hK => ?_
         go_wp2
         refine hK.out _ _ Bw7 ?_
         clear hK K
         refine alH fun K hK => ?_
         go_wp2
         refine hK.out _ _ Bw7 ?_
         clear hK K
         iterate 3 refine skH (h := ?_)
         refine paH Bw7 (h := ?_)
         refine paH Bw7 (h := ?_)
         refine alH fun K hK => ?_
         go_wp2
         refine hK.out _ _ Bw7 ?_
         clear hK K
         refine chainH_nil ?_
         go_wp2
         go_roundw
         case rel => exact ⟨j + 1, by omega, by go_num, by rw [HN.out]; exact HWa'.out.later Bw7, HWb'.out.later Bw7, hbel'.trans (Bw7.mono hbel'.size)⟩
         case measure => simp [intOf]; omega
       ·have HN := hide (flag_same1 r F1 j X hXe hj5 (by rw [hO]; exact h1) (by rw [hbt]; exact hh))
        have HH := hide hh; clear hh hO hOf hbt hXe h1; go_wp2
        refine rgH (fun w' => Below wr.heap.size wr w') [(true, 0), (false, 1), (false, 2), (false, 3), (false, 4), (true, 7), (true, 5), (true, 6), (false, 8), (false, 9), (false, 10), (false, 11)] bd1 ?_
        refine stH (h := ?_)
        refine alH fun K hK => ?_
        go_wp2
        refine hK.out _ _ bd1 ?_
        clear hK K
        refine alH fun K hK => ?_
        go_wp2_with fail
        refine (on_any j hj5 _).mono ?_
        rintro e w3 ⟨rfl, hb⟩
        rw [HO.out]
        have B3 : Below wr.heap.size wr w3 := bd1.trans hb
        clear hb; go_wp2
        refine hK.out _ _ B3 ?_
        clear hK K
        refine alH fun K hK => ?_
        go_wp2
        refine hK.out _ _ B3 ?_
        clear hK K
        refine alH fun K hK => ?_
        go_wp2
        refine hK.out _ _ B3 ?_
        clear hK K
        refine stH (h := ?_)
        refine stH (h := ?_)
        refine stH (hy := fun w hS => by have := (HWa.out.later hS).cell 0; simp only [List.getElem?_cons_zero] at this; go_simp <;> with_reducible rfl) (h := ?_)
        refine alH fun K hK => ?_
        go_wp2_with fail
        refine (bit_any j hj5 _).mono ?_
        rintro e w4 ⟨rfl, hb⟩
        rw [HBt.out]
        have B4 : Below wr.heap.size wr w4 := B3.trans (hb.mono B3.size)
        clear hb; go_wp2
        refine hK.out _ _ B4 ?_
        clear hK K
        refine alH fun K hK => ?_
        go_wp2_with fail
        refine (pn_has_any X bt hX hb0 hb1 _).mono ?_
        rintro e w' ⟨rfl, rfl⟩
        rw [HH.out]
        go_wp2
        refine hK.out _ _ B4 ?_
        clear hK K
        refine alH fun K hK => ?_
        go_wp2
        refine hK.out _ _ B4 ?_
        clear hK K
        refine alH fun K hK => ?_
        go_wp2
        refine hK.out _ _ B4 ?_
        clear hK K
        refine chainH_nil ?_
        go_wp2
        replace HWa := hide (HWa.out.later B4)
        replace HWb := hide (HWb.out.later B4)
        replace hbel := hbel.trans (B4.mono hbel.size)
        refine rgH (fun w' => Below w4.heap.size w4 w') [(true, 0), (false, 1), (false, 2), (false, 3), (false, 4), (true, 7), (true, 5), (true, 6), (false, 8), (false, 9), (false, 10)] bd1 ?_
        refine stH (h := ?_)
        refine alH fun K hK => ?_
        go_wp2
        refine hK.out _ _ bd1 ?_
        clear hK K
        refine alH fun K hK => ?_
        go_wp2_with fail
        refine (off_any j hj5 _).mono ?_
        rintro e w7 ⟨rfl, hb⟩
        rw [HOff.out]
        have Bw7 : Below w4.heap.size w4 w7 := bd1.trans hb
        clear hb; go_wp2
        refine hK.out _ _ Bw7 ?_
        clear hK K
        refine alH fun K hK => ?_
        go_wp2
        refine hK.out _ _ Bw7 ?_
        clear hK K
        refine alH fun K hK => ?_
        go_wp2
        refine hK.out _ _ Bw7 ?_
        clear hK K
        iterate 3 refine skH (h := ?_)
        refine paH Bw7 (h := ?_)
        refine paH Bw7 (h := ?_)
        refine alH fun K hK => ?_
        go_wp2
        refine hK.out _ _ Bw7 ?_
        clear hK K
        refine chainH_nil ?_
        replace HWa := hide (HWa.out.later Bw7)
        replace HWb := hide (HWb.out.later Bw7)
        replace hbel := hbel.trans (Bw7.mono hbel.size)
        go_wp2
        go_roundw
        case rel => exact ⟨j + 1, by omega, by go_num, by rw [HN.out]; exact HWa.out, HWb.out, hbel⟩
        case measure => simp [intOf]; omega
      ·have e1 : (r == O) = false := by simpa using h1
       have h1' : r ≠ onC j := by rw [hO]; exact h1
       by_cases h2 : r = Of
       ·have e2 : (r == Of) = true := by simpa using h2
        cases hh : hasN X bt
        ·have HN := hide (flag_same2 r F1 j X hXe h1' (.inr (by rw [hbt]; exact hh)))
         have HH := hide hh; clear hh hO hOf hbt hXe h1 h1' h2; go_wp2
         refine rgH (fun w' => Below wr.heap.size wr w') [(true, 0), (false, 1), (false, 2), (false, 3), (false, 4), (true, 7), (true, 5), (true, 6), (false, 8), (false, 9), (false, 10), (false, 11)] bd1 ?_
         refine stH (h := ?_)
         refine alH fun K hK => ?_
         go_wp2
         refine hK.out _ _ bd1 ?_
         clear hK K
         refine alH fun K hK => ?_
         go_wp2_with fail
         refine (on_any j hj5 _).mono ?_
         rintro e w3 ⟨rfl, hb⟩
         rw [HO.out]
         have B3 : Below wr.heap.size wr w3 := bd1.trans hb
         clear hb; go_wp2
         refine hK.out _ _ B3 ?_
         clear hK K
         refine alH fun K hK => ?_
         go_wp2
         refine hK.out _ _ B3 ?_
         clear hK K
         refine alH fun K hK => ?_
         go_wp2
         refine hK.out _ _ B3 ?_
         clear hK K
         iterate 3 refine skH (h := ?_)
         refine paH B3 (h := ?_)
         refine paH B3 (h := ?_)
         refine paH B3 (h := ?_)
         refine alH fun K hK => ?_
         go_wp2
         refine hK.out _ _ B3 ?_
         clear hK K
         refine chainH_nil ?_
         go_wp2
         replace HWa := hide (HWa.out.later B3)
         replace HWb := hide (HWb.out.later B3)
         replace hbel := hbel.trans (B3.mono hbel.size)
         refine rgH (fun w' => Below w3.heap.size w3 w') [(true, 0), (false, 1), (false, 2), (false, 3), (false, 4), (true, 7), (true, 5), (true, 6), (false, 8), (false, 9), (false, 10)] bd1 ?_
         refine stH (h := ?_)
         refine alH fun K hK => ?_
         go_wp2
         refine hK.out _ _ bd1 ?_
         clear hK K
         refine alH fun K hK => ?_
         go_wp2_with fail
         refine (off_any j hj5 _).mono ?_
         rintro e w7 ⟨rfl, hb⟩
         rw [HOff.out]
         have Bw7 : Below w3.heap.size w3 w7 := bd1.trans hb
         clear hb; go_wp2
         refine hK.out _ _ Bw7 ?_
         clear hK K
         refine alH fun K hK => ?_
         go_wp2
         refine hK.out _ _ Bw7 ?_
         clear hK K
         refine alH fun K hK => ?_
         go_wp2
         refine hK.out _ _ Bw7 ?_
         clear hK K
         refine stH (h := ?_)
         refine stH (h := ?_)
         refine stH (hy := fun w hS => by have := (HWa.out.later hS).cell 0; simp only [List.getElem?_cons_zero] at this; go_simp <;> with_reducible rfl) (h := ?_)
         refine alH fun K hK => ?_
         go_wp2_with fail
         refine (bit_any j hj5 _).mono ?_
         rintro e w8 ⟨rfl, hb⟩
         rw [HBt.out]
         have Bw8 : Below w3.heap.size w3 w8 := Bw7.trans (hb.mono Bw7.size)
         clear hb; go_wp2
         refine hK.out _ _ Bw8 ?_
         clear hK K
         refine alH fun K hK => ?_
         go_wp2_with fail
         refine (pn_has_any X bt hX hb0 hb1 _).mono ?_
         rintro e w' ⟨rfl, rfl⟩
         rw [HH.out]
         go_wp2
         refine hK.out _ _ Bw8 ?_
         clear hK K
         refine alH fun K hK => ?_
         go_wp2
         refine hK.out _ _ Bw8 ?_
         clear hK K
         refine chainH_nil ?_
         replace HWa := hide (HWa.out.later Bw8)
         replace HWb := hide (HWb.out.later Bw8)
         replace hbel := hbel.trans (Bw8.mono hbel.size)
         go_wp2
         go_roundw
         case rel => exact ⟨j + 1, by omega, by go_num, by rw [HN.out]; exact HWa.out, HWb.out, hbel⟩
         case measure => simp [intOf]; omega
        ·have HN := hide (flag_sub r F1 j X hXe h1' (by rw [hOf]; exact h2) (by rw [hbt]; exact hh))
         rw [hbt] at HN
         have hle := hasN_le X bt hb0 hh
         obtain ⟨Y, hY⟩ := exq (X - bt)
         rw [hY] at HN
         have HYW := hide (wrap_u8_in ((X : Int) - (bt : Int)) Y (by omega) (by omega))
         clear hY; have HH := hide hh; clear hh hO hOf hbt hXe h1 h1' h2; go_wp2
         refine rgH (fun w' => Below wr.heap.size wr w') [(true, 0), (false, 1), (false, 2), (false, 3), (false, 4), (true, 7), (true, 5), (true, 6), (false, 8), (false, 9), (false, 10), (false, 11)] bd1 ?_
         refine stH (h := ?_)
         refine alH fun K hK => ?_
         go_wp2
         refine hK.out _ _ bd1 ?_
         clear hK K
         refine alH fun K hK => ?_
         go_wp2_with fail
         refine (on_any j hj5 _).mono ?_
         rintro e w3 ⟨rfl, hb⟩
         rw [HO.out]
         have B3 : Below wr.heap.size wr w3 := bd1.trans hb
         clear hb; go_wp2
         refine hK.out _ _ B3 ?_
         clear hK K
         refine alH fun K hK => ?_
         go_wp2
         refine hK.out _ _ B3 ?_
         clear hK K
         refine alH fun K hK => ?_
         go_wp2
         refine hK.out _ _ B3 ?_
         clear hK K
         iterate 3 refine skH (h := ?_)
         refine paH B3 (h := ?_)
         refine paH B3 (h := ?_)
         refine paH B3 (h := ?_)
         refine alH fun K hK => ?_
         go_wp2
         refine hK.out _ _ B3 ?_
         clear hK K
         refine chainH_nil ?_
         go_wp2
         replace HWa := hide (HWa.out.later B3)
         replace HWb := hide (HWb.out.later B3)
         replace hbel := hbel.trans (B3.mono hbel.size)
         refine rgH (fun w' => Below w3.heap.size w3 w') [(true, 0), (false, 1), (false, 2), (false, 3), (false, 4), (true, 7), (true, 5), (true, 6), (false, 8), (false, 9), (false, 10)] bd1 ?_
         refine stH (h := ?_)
         refine alH fun K hK => ?_
         go_wp2
         refine hK.out _ _ bd1 ?_
         clear hK K
         refine alH fun K hK => ?_
         go_wp2_with fail
         refine (off_any j hj5 _).mono ?_
         rintro e w7 ⟨rfl, hb⟩
         rw [HOff.out]
         have Bw7 : Below w3.heap.size w3 w7 := bd1.trans hb
         clear hb; go_wp2
         refine hK.out _ _ Bw7 ?_
         clear hK K
         refine alH fun K hK => ?_
         go_wp2
         refine hK.out _ _ Bw7 ?_
         clear hK K
         refine alH fun K hK => ?_
         go_wp2
         refine hK.out _ _ Bw7 ?_
         clear hK K
         refine stH (h := ?_)
         refine stH (h := ?_)
         refine stH (hy := fun w hS => by have := (HWa.out.later hS).cell 0; simp only [List.getElem?_cons_zero] at this; go_simp <;> with_reducible rfl) (h := ?_)
         refine alH fun K hK => ?_
         go_wp2_with fail
         refine (bit_any j hj5 _).mono ?_
         rintro e w8 ⟨rfl, hb⟩
         rw [HBt.out]
         have Bw8 : Below w3.heap.size w3 w8 := Bw7.trans (hb.mono Bw7.size)
         clear hb; go_wp2
         refine hK.out _ _ Bw8 ?_
         clear hK K
         refine alH fun K hK => ?_
         go_wp2_with fail
         refine (pn_has_any X bt hX hb0 hb1 _).mono ?_
         rintro e w' ⟨rfl, rfl⟩
         rw [HH.out]
         go_wp2
         refine hK.out _ _ Bw8 ?_
         clear hK K
         refine alH fun K hK => ?_
         go_wp2
         refine hK.out _ _ Bw8 ?_
         clear hK K
         refine chainH_nil ?_
         go_wp2
         replace HWa := hide (HWa.out.later Bw8)
         replace HWb := hide (HWb.out.later Bw8)
         replace hbel := hbel.trans (Bw8.mono hbel.size)
         have hcx : w8.drew.cell? ⟨w.heap.size, 0, none⟩ = some (.int .u8 X) := HWa.out.cell 0
         have key : ∀ w1 : World, Below w8.drew.heap.size w8.drew w1 → w1.cell? ⟨w.heap.size, 0, none⟩ = some (.int .u8 X) ∧ w1.frozen? ⟨w.heap.size, 0, none⟩ = false ∧
           Hid (Whole (w1.setCell ⟨w.heap.size, 0, none⟩ (.int .u8 Y)) w.heap.size 38 [.int .u8 Y, .int .u8 G1, .int .u8 B1] ∧ Whole (w1.setCell ⟨w.heap.size, 0, none⟩ (.int .u8 Y)) (w.heap.size + 1) 38 [.int .u8 0, .int .u8 0, .int .u8 0] ∧ Below w.heap.size w (w1.setCell ⟨w.heap.size, 0, none⟩ (.int .u8 Y))) := by
          intro w1 hb
          have a1 := HWa.out.drew.later hb
          have a2 := HWb.out.drew.later hb
          have hb' : Below w8.heap.size w8 w1 := ⟨hb.os, hb.tape, hb.output, hb.size, hb.block⟩
          exact ⟨a1.cell 0, a1.frozen 0, a1.put 0 _, whole_put1 a2 (by omega) _, (hbel.trans (hb'.mono hbel.size)).setCell (Nat.le_refl _) _⟩
         have HK := hide key
         have hYW := HYW.out
         clear key
         go_region_with (go_at_call 112; refine (bit_any j hj5 _).mono ?_; rintro e w5 ⟨rfl, hb5⟩; rw [HBt.out]; obtain ⟨k1, k2, k3⟩ := HK.out w5 hb5)
         all_goals
          have HWa' := hide k3.out.1
          have HWb' := hide k3.out.2.1
          have hbel' := k3.out.2.2
          clear k1 k2 k3 hb5 HK HWa HWb hbel; go_wp2
          go_roundw
          case rel => exact ⟨j + 1, by omega, by go_num, by rw [HN.out]; exact HWa'.out, HWb'.out, hbel'⟩
          case measure => simp [intOf]; omega
       ·have e2 : (r == Of) = false := by simpa using h2
        have HN := hide (flag_same2 r F1 j X hXe h1' (.inl (by rw [hOf]; exact h2)))
        clear hO hOf hbt hXe h1 h1' h2; go_wp2
        refine rgH (fun w' => Below wr.heap.size wr w') [(true, 0), (false, 1), (false, 2), (false, 3), (false, 4), (true, 7), (true, 5), (true, 6), (false, 8), (false, 9), (false, 10), (false, 11)] bd1 ?_
        refine stH (h := ?_)
        refine alH fun K hK => ?_
        go_wp2
        refine hK.out _ _ bd1 ?_
        clear hK K
        refine alH fun K hK => ?_
        go_wp2_with fail
        refine (on_any j hj5 _).mono ?_
        rintro e w3 ⟨rfl, hb⟩
        rw [HO.out]
        have B3 : Below wr.heap.size wr w3 := bd1.trans hb
        clear hb; go_wp2
        refine hK.out _ _ B3 ?_
        clear hK K
        refine alH fun K hK => ?_
        go_wp2
        refine hK.out _ _ B3 ?_
        clear hK K
        refine alH fun K hK => ?_
        go_wp2
        refine hK.out _ _ B3 ?_
        clear hK K
        iterate 3 refine skH (h := ?_)
        refine paH B3 (h := ?_)
        refine paH B3 (h := ?_)
        refine paH B3 (h := ?_)
        refine alH fun K hK => ?_
        go_wp2
        refine hK.out _ _ B3 ?_
        clear hK K
        refine chainH_nil ?_
        go_wp2
        replace HWa := hide (HWa.out.later B3)
        replace HWb := hide (HWb.out.later B3)
        replace hbel := hbel.trans (B3.mono hbel.size)
        refine rgH (fun w' => Below w3.heap.size w3 w') [(true, 0), (false, 1), (false, 2), (false, 3), (false, 4), (true, 7), (true, 5), (true, 6), (false, 8), (false, 9), (false, 10)] bd1 ?_
        refine stH (h := ?_)
        refine alH fun K hK => ?_
        go_wp2
        refine hK.out _ _ bd1 ?_
        clear hK K
        refine alH fun K hK => ?_
        go_wp2_with fail
        refine (off_any j hj5 _).mono ?_
        rintro e w7 ⟨rfl, hb⟩
        rw [HOff.out]
        have Bw7 : Below w3.heap.size w3 w7 := bd1.trans hb
        clear hb; go_wp2
        refine hK.out _ _ Bw7 ?_
        clear hK K
        refine alH fun K hK => ?_
        go_wp2
        refine hK.out _ _ Bw7 ?_
        clear hK K
        refine alH fun K hK => ?_
        go_wp2
        refine hK.out _ _ Bw7 ?_
        clear hK K
        iterate 3 refine skH (h := ?_)
        refine paH Bw7 (h := ?_)
        refine paH Bw7 (h := ?_)
        refine alH fun K hK => ?_
        go_wp2
        refine hK.out _ _ Bw7 ?_
        clear hK K
        refine chainH_nil ?_
        replace HWa := hide (HWa.out.later Bw7)
        replace HWb := hide (HWb.out.later Bw7)
        replace hbel := hbel.trans (Bw7.mono hbel.size)
        go_wp2
        go_roundw
        case rel => exact ⟨j + 1, by omega, by go_num, by rw [HN.out]; exact HWa.out, HWb.out, hbel⟩
        case measure => simp [intOf]; omega
     ·obtain rfl : j = 5 := by omega
      have HXe := hide hXe; clear hXe hj5 hj; clear s1; go_wp2
      go_loopw [8] (fun i wr3 => ∃ j : Nat, j ≤ 8 ∧ i = .int .i64 j ∧ Whole wr3 w.heap.size 38 [.int .u8 X, .int .u8 (dyeK G1 r j : Int), .int .u8 (dyeK B1 (r - 10) j : Int)] ∧ Whole wr3 (w.heap.size + 1) 38 [.int .u8 0, .int .u8 0, .int .u8 0] ∧ Below w.heap.size w wr3)
       (fun i _ => 8 - (intOf i).toNat)
      case atStart => exact ⟨0, Nat.zero_le _, rfl, by rw [dyeK_zero, dyeK_zero]; exact HWa.out, HWb.out, hbel⟩
      case round =>
       clear HWa HWb hbel
       obtain ⟨j, hj, rfl, hwa, hwb, hbel⟩ := hrel
       have s1 := hwb.lt
       by_cases hj8 : j < 8
       ·obtain ⟨G2, hG2⟩ := exq (dyeK G1 r j)
        obtain ⟨B2, hB2⟩ := exq (dyeK B1 (r - 10) j)
        rw [hG2, hB2] at hwa
        obtain ⟨c0, c1, c2, z0, z1, z2⟩ := whole3 hwa
        have HWa := hide hwa; have HWb := hide hwb; clear hwa hwb
        by_cases t1 : r = 30 + (j : Int)
        ·have e30 : (r == 30 + (j : Int)) = true := by simp; omega
         have e90 : (r == 90 + (j : Int)) = false := by simp; omega
         have e40 : (r == 40 + (j : Int)) = false := by simp; omega
         have e100 : (r == 100 + (j : Int)) = false := by simp; omega
         have HG : Hid ((dyeK G1 r (j + 1) : Int) = 1 + (j : Int)) := by unfold Hid; rw [dyeK_lo G1 r j hj8 (by omega)]; omega
         have HB : Hid ((dyeK B1 (r - 10) (j + 1) : Int) = (B2 : Int)) := by unfold Hid; rw [dyeK_no B1 (r - 10) j (by omega) (by omega), hB2]
         clear hG2 hB2 t1; go_wp2
         go_roundw
         case rel => exact ⟨j + 1, by omega, by go_num, by rw [HG.out, HB.out]; exact HWa.out.put 1 _, whole_put1 HWb.out (by omega) _, hbel.setCell (Nat.le_refl _) _⟩
         case measure => simp [intOf]; omega
        by_cases t2 : r = 90 + (j : Int)
        ·have e30 : (r == 30 + (j : Int)) = false := by simp; omega
         have e90 : (r == 90 + (j : Int)) = true := by simp; omega
         have e40 : (r == 40 + (j : Int)) = false := by simp; omega
         have e100 : (r == 100 + (j : Int)) = false := by simp; omega
         have HG : Hid ((dyeK G1 r (j + 1) : Int) = 9 + (j : Int)) := by unfold Hid; rw [dyeK_hi G1 r j hj8 (by omega)]; omega
         have HB : Hid ((dyeK B1 (r - 10) (j + 1) : Int) = (B2 : Int)) := by unfold Hid; rw [dyeK_no B1 (r - 10) j (by omega) (by omega), hB2]
         clear hG2 hB2 t1 t2; go_wp2
         go_roundw
         case rel => exact ⟨j + 1, by omega, by go_num, by rw [HG.out, HB.out]; exact HWa.out.put 1 _, whole_put1 HWb.out (by omega) _, hbel.setCell (Nat.le_refl _) _⟩
         case measure => simp [intOf]; omega
        by_cases t3 : r = 40 + (j : Int)
        ·have e30 : (r == 30 + (j : Int)) = false := by simp; omega
         have e90 : (r == 90 + (j : Int)) = false := by simp; omega
         have e40 : (r == 40 + (j : Int)) = true := by simp; omega
         have e100 : (r == 100 + (j : Int)) = false := by simp; omega
         have HG : Hid ((dyeK G1 r (j + 1) : Int) = (G2 : Int)) := by unfold Hid; rw [dyeK_no G1 r j (by omega) (by omega), hG2]
         have HB : Hid ((dyeK B1 (r - 10) (j + 1) : Int) = 1 + (j : Int)) := by unfold Hid; rw [dyeK_lo B1 (r - 10) j hj8 (by omega)]; omega
         clear hG2 hB2 t1 t2 t3; go_wp2
         go_roundw
         case rel => exact ⟨j + 1, by omega, by go_num, by rw [HG.out, HB.out]; exact HWa.out.put 2 _, whole_put1 HWb.out (by omega) _, hbel.setCell (Nat.le_refl _) _⟩
         case measure => simp [intOf]; omega
        by_cases t4 : r = 100 + (j : Int)
        ·have e30 : (r == 30 + (j : Int)) = false := by simp; omega
         have e90 : (r == 90 + (j : Int)) = false := by simp; omega
         have e40 : (r == 40 + (j : Int)) = false := by simp; omega
         have e100 : (r == 100 + (j : Int)) = true := by simp; omega
         have HG : Hid ((dyeK G1 r (j + 1) : Int) = (G2 : Int)) := by unfold Hid; rw [dyeK_no G1 r j (by omega) (by omega), hG2]
         have HB : Hid ((dyeK B1 (r - 10) (j + 1) : Int) = 9 + (j : Int)) := by unfold Hid; rw [dyeK_hi B1 (r - 10) j hj8 (by omega)]; omega
         clear hG2 hB2 t1 t2 t3 t4; go_wp2
         go_roundw
         case rel => exact ⟨j + 1, by omega, by go_num, by rw [HG.out, HB.out]; exact HWa.out.put 2 _, whole_put1 HWb.out (by omega) _, hbel.setCell (Nat.le_refl _) _⟩
         case measure => simp [intOf]; omega
        have e30 : (r == 30 + (j : Int)) = false := by simp; omega
        have e90 : (r == 90 + (j : Int)) = false := by simp; omega
        have e40 : (r == 40 + (j : Int)) = false := by simp; omega
        have e100 : (r == 100 + (j : Int)) = false := by simp; omega
        have HG : Hid ((dyeK G1 r (j + 1) : Int) = (G2 : Int)) := by unfold Hid; rw [dyeK_no G1 r j (by omega) (by omega), hG2]
        have HB : Hid ((dyeK B1 (r - 10) (j + 1) : Int) = (B2 : Int)) := by unfold Hid; rw [dyeK_no B1 (r - 10) j (by omega) (by omega), hB2]
        clear hG2 hB2 t1 t2 t3 t4; go_wp2
        go_roundw
        case rel => exact ⟨j + 1, by omega, by go_num, by rw [HG.out, HB.out]; exact HWa.out, HWb.out, hbel⟩
        case measure => simp [intOf]; omega
       ·obtain rfl : j = 8 := by omega
        obtain ⟨G2, hG2⟩ := exq (dyeK G1 r 8)
        obtain ⟨B2, hB2⟩ := exq (dyeK B1 (r - 10) 8)
        rw [hG2, hB2] at hwa
        rw [hG2, hB2] at HD
        obtain ⟨c0, c1, c2, z0, z1, z2⟩ := whole3 hwa
        have HWa := hide hwa; have HWb := hide hwb; clear hwa hwb hG2 hB2 hj hj8
        by_cases u1 : r = 39
        ·have e39 : (r == 39) = true := by simp; omega
         have e49 : (r == 49) = false := by simp; omega
         have HE : Hid (penL ((zs.take (k + 1)).foldl onceN ⟨f, g, b⟩) = [.int .u8 X, .int .u8 0, .int .u8 B2]) := by unfold Hid; rw [HT.out, HD.out, HXe.out, if_pos u1, if_neg (by omega)]; rfl
         clear u1; go_wp2
         go_roundw
         case rel => exact ⟨k + 1, by omega, by go_num, by rw [HE.out]; exact HWa.out.put 1 _, whole_put1 HWb.out (by omega) _, hbel.setCell (Nat.le_refl _) _⟩
         case measure => simp [intOf]; omega
        by_cases u2 : r = 49
        ·have e39 : (r == 39) = false := by simp; omega
         have e49 : (r == 49) = true := by simp; omega
         have HE : Hid (penL ((zs.take (k + 1)).foldl onceN ⟨f, g, b⟩) = [.int .u8 X, .int .u8 G2, .int .u8 0]) := by unfold Hid; rw [HT.out, HD.out, HXe.out, if_neg (by omega), if_pos u2]; rfl
         clear u1 u2; go_wp2
         go_roundw
         case rel => exact ⟨k + 1, by omega, by go_num, by rw [HE.out]; exact HWa.out.put 2 _, whole_put1 HWb.out (by omega) _, hbel.setCell (Nat.le_refl _) _⟩
         case measure => simp [intOf]; omega
        have e39 : (r == 39) = false := by simp; omega
        have e49 : (r == 49) = false := by simp; omega
        have HE : Hid (penL ((zs.take (k + 1)).foldl onceN ⟨f, g, b⟩) = [.int .u8 X, .int .u8 G2, .int .u8 B2]) := by unfold Hid; rw [HT.out, HD.out, HXe.out, if_neg (by omega), if_neg (by omega)]; rfl
        clear u1 u2; go_wp2
        go_roundw
        case rel => exact ⟨k + 1, by omega, by go_num, by rw [HE.out]; exact HWa.out, HWb.out, hbel⟩
        case measure => simp [intOf]; omega
  ·have E : Hid (turnN ⟨f, g, b⟩ zs = ⟨F, G, B⟩) := by
    unfold Hid; rw [ET.out, ← hP, List.take_of_length_le (by rw [HL.out]; omega)]
   obtain ⟨d0, d1, d2, y0, y1, y2⟩ := whole3 hw1
   have HW1 := hide hw1; clear hP hw0 hw1 hok; go_wp2
   exact ret3 Tryz.results59 (.inr rfl) rfl rfl (pn_put3 HW1.out) ⟨by rw [E.out], pn_below_put3 hbel (by omega) _ _ _⟩
end
end Go.Proofs.YtkijclgbpbhglaaGreatDoor
