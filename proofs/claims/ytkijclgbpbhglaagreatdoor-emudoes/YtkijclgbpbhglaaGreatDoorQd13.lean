/-
  Contracts and plain mathematics of GNew, GAsk, UBase, URef, UDec.
-/
import Derived.Test.YtkijclgbpbhglaaGreatDoorQd12
import Derived.Test.YtkijclgbpbhglaaGreatDoorQd2
import Derived.Test.YtkijclgbpbhglaaGreatDoorRows
import Derived.Test.YtkijclgbpbhglaaGreatDoorQd1
import Derived.Test.YtkijclgbpbhglaaGreatDoorQd8
import Derived.WalkMore
import Derived.Laws.BitsAllLaws
namespace Go.Proofs.YtkijclgbpbhglaaGreatDoor
set_option maxRecDepth 100000
set_option linter.unusedVariables false
set_option maxHeartbeats 8000000
section
open Go.ChangeShapes Go.WideShapes Go.ChangeAt Go.RowKit
def GaveG (R C : Nat) (g : Gd) (w : World) (e : Ending) (w' : World) : Prop := ∃ G L M, e = .returned (.pointer (some ⟨G, 0, none⟩)) ∧ NewGrd R C g w G L M w'
def GaveG2 (R C : Nat) (g : Gd) (w : World) (e : Ending) (w' : World) : Prop := ∃ G L M, e = .returned (.tuple #[.pointer (some ⟨G, 0, none⟩), .int .i64 0]) ∧ NewGrd R C g w G L M w'
theorem new1_any (k q C : Nat) (A : Option Addr) (c : Nat) (z : List Cel) (w : World) (h1 : Whole w q 97 [.slice A C c]) (hc : Cels .i32 w A z) (hn : z.length = C) :
  Calls Tryz.prog 68 #[.int .i64 k, .pointer (some ⟨q, 0, none⟩)] w (Tells C z w) := by
 have c0 : w.cell? ⟨q, 0, none⟩ = some (.slice A C c) := h1.cell 0
 have lq := h1.lt
 have HC := hide hc; have HN := hide hn; clear h1 hc hn
 go_enter Tryz.func68, Tryz.ntmps68
 go_wp2; go_ret
 exact ⟨A, c, rfl, Below.refl _ _, HC.out, HN.out⟩
theorem sideB_yes {n : Nat} (h1 : 1 ≤ n) (h2 : n ≤ 512) : sideB (n : Int) = true := by unfold sideB; simp; omega
theorem NewGrd.from {R C : Nat} {g : Gd} {w w0 w' : World} {G L M : Nat} (h : NewGrd R C g w0 G L M w') (hb : Below w.heap.size w w0) : NewGrd R C g w G L M w' := by
 obtain ⟨h1, h2, h3, h4, h5⟩ := h
 exact ⟨h1, hb.trans (h2.mono hb.size), Nat.le_trans hb.size h3, Nat.le_trans hb.size h4, Nat.le_trans hb.size h5⟩
theorem gnew_yes (R C : Nat) (r1 : 1 ≤ R) (r2 : R ≤ 512) (c1 : 1 ≤ C) (c2 : C ≤ 512) (w : World) :
  Calls Tryz.prog 35 #[.int .i64 R, .int .i64 C] w (GaveG2 R C (newG R C) w) := by
 go_enter Tryz.func35, Tryz.ntmps35
 go_wp2_with fail
 refine (side_any R w).mono ?_
 rintro e w1 ⟨rfl, rfl⟩
 rw [sideB_yes r1 r2]
 go_wp2_with fail
 refine (side_any C w).mono ?_
 rintro e w1 ⟨rfl, rfl⟩
 rw [sideB_yes c1 c2]
 go_wp2_with fail
 refine (new_v (C : Int) rfl (lenN_nat C c2) w).mono ?_
 rintro e w1 ⟨A, c, rfl, hc, hb⟩
 obtain ⟨W0, hW0⟩ := exq (w1.alloc (.cells #[.slice A C c] 97))
 have HX : Hid (Whole W0 w1.heap.size 97 [.slice A C c]) := by unfold Hid; rw [← hW0]; exact Whole.new _ _ _
 have HC : Hid (Cels .i32 W0 A (newC (C : Int))) := by unfold Hid; rw [← hW0]; exact hc.alloc _
 have HB : Hid (Below w.heap.size w W0) := by unfold Hid; rw [← hW0]; exact hb.alloc hb.size _
 have HW0 := hide hW0; clear hW0 hc hb; go_wp2_with fail
 rw [HW0.out]
 refine (made_any R C r2 c1 c2 68 _ (fun _ => newC (C : Int)) W0 (enter_of Tryz.func68 (by kernel_rfl) (by kernel_rfl)) ?_).mono ?_
 ·intro k wr hk hb args hargs
  have ha2 : args = #[.int .i64 k, .pointer (some ⟨w1.heap.size, 0, none⟩)] := by simpa using hargs
  subst ha2
  exact new1_any k _ C A c _ wr (HX.out.later hb) (HC.out.below hb) (newC_len C c2)
 rintro e w2 ⟨G, L, M, rfl, hg⟩
 have HG := hide (hg.from HB.out)
 clear hg; go_wp2; go_ret2
 exact ⟨G, L, M, rfl, HG.out⟩
theorem gnew_no (r c : Int) (h : ¬ sizeN r c) (w : World) : Calls Tryz.prog 35 #[.int .i64 r, .int .i64 c] w fun e w' => e = .returned (.tuple #[.pointer none, .int .i64 11]) ∧ w = w' := by
 by_cases h1 : sideB r = true
 ·have h2 : sideB c = false := by
   unfold sideB at *
   simp only [decide_eq_true_eq] at h1
   simp only [decide_eq_false_iff_not]
   intro q
   exact h ⟨h1, q⟩
  have H1 := hide h1; have H2 := hide h2; clear h1 h2 h
  go_enter Tryz.func35, Tryz.ntmps35
  go_wp2_with fail
  refine (side_any r w).mono ?_
  rintro e w1 ⟨rfl, rfl⟩
  rw [H1.out]
  go_wp2_with fail
  refine (side_any c w).mono ?_
  rintro e w1 ⟨rfl, rfl⟩
  rw [H2.out]
  go_wp2; go_ret2
  exact ⟨rfl, rfl⟩
 ·have H1 : Hid (sideB r = false) := by unfold Hid; simpa using h1
  clear h1 h
  go_enter Tryz.func35, Tryz.ntmps35
  go_wp2_with fail
  refine (side_any r w).mono ?_
  rintro e w1 ⟨rfl, rfl⟩
  rw [H1.out]
  go_wp2; go_ret2
  exact ⟨rfl, rfl⟩
section
variable {w : World} {G L M R C : Nat} {g : Gd}
theorem copy1_any (h : Grd w G L M R C g) (k : Nat) (hk : k < R) {q : Nat} (hq : Whole w q 51 [.pointer (some ⟨G, 0, none⟩)]) :
  Calls Tryz.prog 78 #[.int .i64 k, .pointer (some ⟨q, 0, none⟩)] w (Tells C (lAt g.ls k) w) := by
 obtain ⟨cap, ps, room, more, h⟩ := h
 obtain ⟨c0, c1, c2, lG, lL, lM⟩ := h.three
 have c3 := h.row hk
 have c4 : w.cell? ⟨q, 0, none⟩ = some (.pointer (some ⟨G, 0, none⟩)) := hq.cell 0
 have lq := hq.lt
 have HC := hide (h.cels hk)
 have HN := hide (h.lenAt hk)
 clear h hq
 go_enter Tryz.func78, Tryz.ntmps78
 go_wp2; go_ret
 exact ⟨_, C, rfl, Below.refl _ _, HC.out, HN.out⟩
theorem copy_any (h : Grd w G L M R C g) (hR : 1 ≤ R) (hR2 : R ≤ 512) (hC : 1 ≤ C) (hC2 : C ≤ 512) :
  Calls Tryz.prog 41 #[.pointer (some ⟨G, 0, none⟩)] w (GaveG R C g w) := by
 obtain ⟨W0, hW0⟩ := exq (w.alloc (.cells #[.pointer (some ⟨G, 0, none⟩)] 51))
 have HX : Hid (Whole W0 w.heap.size 51 [.pointer (some ⟨G, 0, none⟩)]) := by unfold Hid; rw [← hW0]; exact Whole.new _ _ _
 have HB : Hid (Below w.heap.size w W0) := by unfold Hid; rw [← hW0]; exact (Below.refl _ _).alloc (Nat.le_refl _) _
 have HG := hide (h.later HB.out)
 have HLen := hide h.glen; have HW0 := hide hW0; clear hW0 h
 go_enter Tryz.func41, Tryz.ntmps41
 have f0 : W0.cell? ⟨w.heap.size, 0, none⟩ = some (.pointer (some ⟨G, 0, none⟩)) := HX.out.cell 0
 go_wp2; rw [HW0.out]; clear f0
 refine rgL (fun w' => Below W0.heap.size W0 w') 5 [(0, 0), (0, 2), (0, 4), (1, 1), (1, 3), (3, 5), (3, 6)] bd1 ?_
 refine stL (hy := fun w hS => by have f0 := (HX.out.later hS).cell 0; go_simp <;> with_reducible rfl) (h := ?_)
 refine stL (hy := fun w hS => by have f0 := (HX.out.later hS).cell 0; go_simp <;> with_reducible rfl) (h := ?_)
 refine stL (h := ?_)
 refine alL fun K hK => ?_
 go_wp2_with fail
 refine (rows_any (HG.out.later bd1)).mono ?_
 rintro e k1 ⟨rfl, rfl⟩
 go_wp2
 refine hK.out _ _ bd1 ?_
 clear hK K
 refine alL fun K hK => ?_
 go_wp2_with fail
 refine (cols_any (HG.out.later bd1) hR).mono ?_
 rintro e k1 ⟨rfl, rfl⟩
 go_wp2
 refine hK.out _ _ bd1 ?_
 clear hK K
 refine laL fun K hK => ?_
 go_wp2_with fail
 refine (made_any R C hR2 hC hC2 78 _ (lAt g.ls) W0.drew (enter_of Tryz.func78 (by kernel_rfl) (by kernel_rfl)) ?_).mono ?_
 ·intro k wr hk hb args hargs
  have ha2 : args = #[.int .i64 k, .pointer (some ⟨w.heap.size, 0, none⟩)] := by simpa using hargs
  subst ha2
  exact copy1_any (HG.out.later (bd1.trans hb)) k hk (HX.out.later (bd1.trans hb))
 rintro e k1 ⟨G1, L1, M1, rfl, hg, hb, n1, n2, n3⟩
 have HG1 := hide hg
 have HBk := hide (((Below.refl W0.heap.size W0).drewN 1).trans hb)
 have HN1 : Hid (W0.heap.size ≤ G1 ∧ W0.heap.size ≤ L1 ∧ W0.heap.size ≤ M1) := ⟨n1, n2, n3⟩
 clear hg hb n1 n2 n3; go_wp2
 refine hK.out _ _ ?_
 clear hK K
 refine laL fun K hK => ?_
 go_wp2
 refine hK.out _ _ ?_
 clear hK K
 refine chainL_nil ?_
 have f0 : k1.cell? ⟨w.heap.size, 0, none⟩ = some (.pointer (some ⟨G, 0, none⟩)) := (HX.out.later HBk.out).cell 0
 have l0 := (HX.out.later HBk.out).lt
 obtain ⟨c0, c1, lG⟩ := (HG.out.later HBk.out).cursor
 obtain ⟨cap, ps, room, more, ha⟩ := HG1.out
 obtain ⟨d0, d1, d2, lG1, -, -⟩ := ha.three
 have hz := ha.top.frozen
 have HA := hide ha; clear ha; go_wp2; go_ret
 have hcur := HA.out.cursor g.row g.col
 have e : ({ ls := gtab R (lAt g.ls), row := g.row, col := g.col } : Gd) = g := by
  have : gtab R (lAt g.ls) = g.ls := by rw [← HLen.out]; exact gtab_self _
  rw [this]
 refine ⟨G1, L1, M1, rfl, ?_, ?_, ?_, ?_, ?_⟩
 ·rw [← e]; exact .of hcur
 ·exact only2.below (HB.out.trans (HBk.out.mono HB.out.size)) (Nat.le_trans HB.out.size HBk.out.size) (Nat.le_trans HB.out.size HN1.out.1)
 ·exact Nat.le_trans HB.out.size HN1.out.1
 ·exact Nat.le_trans HB.out.size HN1.out.2.1
 ·exact Nat.le_trans HB.out.size HN1.out.2.2
theorem fit1_any (h : Grd w G L M R C g) (hC : C ≤ 512) (k C0 : Nat) (hC0 : C0 ≤ 512) {q q2 : Nat} (hq : Whole w q 51 [.pointer (some ⟨G, 0, none⟩)]) (hq2 : Whole w q2 3 [.int .i64 C0]) :
  Calls Tryz.prog 73 #[.int .i64 k, .pointer (some ⟨q, 0, none⟩), .pointer (some ⟨q2, 0, none⟩)] w (Tells C0 (fitC (lAt g.ls k) (C0 : Int)) w) := by
 have HG := hide h; have H1 := hide hq; have H2 := hide hq2
 have HN := hide (lenN_nat C0 hC0)
 have HLen := hide h.glen
 obtain ⟨X, hX⟩ := exq (fitC (lAt g.ls k) (C0 : Int))
 have HXL : Hid (X.length = C0) := by unfold Hid; rw [← hX, fit_len, lenN_nat C0 hC0]
 rw [hX]
 by_cases hk : k < R
 ·have HLn : Hid ((lAt g.ls k).length = C) := by unfold Hid; obtain ⟨_, _, _, _, ha⟩ := h; exact ha.lenAt hk
  have HF := hide hX; clear hX hq hq2 h
  go_enter Tryz.func73, Tryz.ntmps73
  go_wp2
  refine rgL (fun w' => Below w.heap.size w w') 4 [(0, 1), (0, 0), (0, 3), (1, 2), (3, 4), (3, 5)] bd1 ?_
  refine stL (h := ?_)
  refine stL (hy := fun w hS => by have f0 := (H1.out.later hS).cell 0; go_simp <;> with_reducible rfl) (h := ?_)
  refine stL (hy := fun w hS => by have f0 := (H2.out.later hS).cell 0; go_simp <;> with_reducible rfl) (h := ?_)
  refine alL fun K hK => ?_
  go_wp2_with fail
  refine (gline_any (HG.out.later bd1) k (by unfold hasG; omega) (by omega)).mono ?_
  rintro e k1 ⟨v, rfl, hown⟩
  rw [Int.toNat_natCast] at hown
  obtain ⟨A1, c1, rfl, hc1, -⟩ := hown.form
  have Bk1 : Below w.heap.size w k1 := bd1.trans hown.bel
  have HC1 := hide hc1; clear hc1 hown
  rw [HLn.out]
  go_wp2
  refine hK.out _ _ (Bk1) ?_
  clear hK K
  refine laL fun K hK => ?_
  go_wp2_with fail
  refine (fit_v C0 HF.out HN.out HC1.out HLn.out).mono ?_
  rintro e k2 ⟨A2, c2, rfl, hc2, hb2⟩
  have HB2 := hide (Bk1.trans (hb2.mono Bk1.size))
  have HC2 := hide hc2; clear hc2 hb2 Bk1; go_wp2
  refine hK.out _ _ ?_
  clear hK K
  refine laL fun K hK => ?_
  go_wp2
  refine hK.out _ _ ?_
  clear hK K
  refine chainL_nil ?_
  go_wp2; go_ret
  exact ⟨A2, c2, rfl, HB2.out, HC2.out, HXL.out⟩
 ·have HF : Hid (fitC [] (C0 : Int) = X) := by
   unfold Hid
   rw [← hX]
   congr 1
   unfold lAt
   rw [List.getD_eq_getElem?_getD, List.getElem?_eq_none (by rw [h.glen]; omega)]
   rfl
  clear hX hq hq2 h
  go_enter Tryz.func73, Tryz.ntmps73
  go_wp2
  refine rgL (fun w' => Below w.heap.size w w') 4 [(0, 1), (0, 0), (0, 3), (1, 2), (3, 4), (3, 5)] bd1 ?_
  refine stL (h := ?_)
  refine stL (hy := fun w hS => by have f0 := (H1.out.later hS).cell 0; go_simp <;> with_reducible rfl) (h := ?_)
  refine stL (hy := fun w hS => by have f0 := (H2.out.later hS).cell 0; go_simp <;> with_reducible rfl) (h := ?_)
  refine alL fun K hK => ?_
  go_wp2_with fail
  refine (gline_no (HG.out.later bd1) k (by unfold hasG; omega)).mono ?_
  rintro e k1 ⟨rfl, rfl⟩
  go_wp2
  refine hK.out _ _ bd1 ?_
  clear hK K
  refine laL fun K hK => ?_
  go_wp2_with fail
  refine (fit_v C0 HF.out HN.out (A := none) (c := 0) (n := 0) .nil rfl).mono ?_
  rintro e k2 ⟨A2, c2, rfl, hc2, hb2⟩
  have HB2 := hide (((Below.refl w.heap.size w).drewN 1).trans hb2)
  have HC2 := hide hc2; clear hc2 hb2; go_wp2
  refine hK.out _ _ ?_
  clear hK K
  refine laL fun K hK => ?_
  go_wp2
  refine hK.out _ _ ?_
  clear hK K
  refine chainL_nil ?_
  go_wp2; go_ret
  exact ⟨A2, c2, rfl, HB2.out, HC2.out, HXL.out⟩
theorem fit_yes (h : Grd w G L M R C g) (hC : C ≤ 512) (R0 C0 : Nat) (r1 : 1 ≤ R0) (r2 : R0 ≤ 512) (c1 : 1 ≤ C0) (c2 : C0 ≤ 512) :
  Calls Tryz.prog 39 #[.pointer (some ⟨G, 0, none⟩), .int .i64 R0, .int .i64 C0] w (GaveG2 R0 C0 (fitG g R0 C0) w) := by
 obtain ⟨W0, hW0⟩ := exq ((w.alloc (.cells #[.pointer (some ⟨G, 0, none⟩)] 51)).alloc (.cells #[.int .i64 C0] 3))
 have HX : Hid (Whole W0 w.heap.size 51 [.pointer (some ⟨G, 0, none⟩)]) := by unfold Hid; rw [← hW0]; exact (Whole.new _ _ _).alloc _
 have HY : Hid (Whole W0 (w.heap.size + 1) 3 [.int .i64 C0]) := by unfold Hid; rw [← hW0]; exact whole_snd _ _ _ _
 have HB : Hid (Below w.heap.size w W0) := by unfold Hid; rw [← hW0]; exact two_new _ _ _ _ _
 have HG := hide (h.later HB.out)
 have HW0 := hide hW0; clear hW0 h
 have f0 : W0.cell? ⟨w.heap.size, 0, none⟩ = some (.pointer (some ⟨G, 0, none⟩)) := HX.out.cell 0
 have f1 : W0.cell? ⟨w.heap.size + 1, 0, none⟩ = some (.int .i64 C0) := HY.out.cell 0
 go_enter Tryz.func39, Tryz.ntmps39
 go_wp2_with fail
 rw [HW0.out]
 refine (side_any R0 W0).mono ?_
 rintro e w1 ⟨rfl, rfl⟩
 rw [sideB_yes r1 r2]
 go_wp2_with fail
 refine (side_any C0 W0).mono ?_
 rintro e w1 ⟨rfl, rfl⟩
 rw [sideB_yes c1 c2]
 go_wp2_with fail
 refine (made_any R0 C0 r2 c1 c2 73 _ (fun k => fitC (lAt g.ls k) (C0 : Int)) W0 (enter_of Tryz.func73 (by kernel_rfl) (by kernel_rfl)) ?_).mono ?_
 ·intro k wr hk hb args hargs
  have ha2 : args = #[.int .i64 k, .pointer (some ⟨w.heap.size, 0, none⟩), .pointer (some ⟨w.heap.size + 1, 0, none⟩)] := by simpa using hargs
  subst ha2
  exact fit1_any (HG.out.later hb) hC k C0 c2 (HX.out.later hb) (HY.out.later hb)
 rintro e W3 ⟨G1, L1, M1, rfl, hg, hb, n1, n2, n3⟩
 have HX3 := hide (HX.out.later hb)
 have HG3 := hide (HG.out.later hb)
 have HN3 := hide hg
 have HB3 := hide (HB.out.trans (hb.mono HB.out.size))
 have H1 := hide (Nat.le_trans HB.out.size n1)
 have H2 := hide (Nat.le_trans HB.out.size n2)
 have H3 := hide (Nat.le_trans HB.out.size n3)
 clear hg hb n1 n2 n3 f0 f1
 have e1 : Hid (moveG ⟨gtab R0 (fun k => fitC (lAt g.ls k) (C0 : Int)), 0, 0⟩ g.row g.col C0 = fitG g R0 C0) := by
  unfold Hid moveG fitG
  simp only [gtab_len]
  congr 1
  exact gtab_eq fun i hi => (fitAtG_is _ _ _).symm
 have f0 : W3.cell? ⟨w.heap.size, 0, none⟩ = some (.pointer (some ⟨G, 0, none⟩)) := HX3.out.cell 0
 have l0 := HX3.out.lt
 obtain ⟨d0, d1, lG⟩ := HG3.out.cursor
 go_wp2
 refine rgL (fun w' => Below W3.heap.size W3 w') 11 [(0, 0), (0, 1), (0, 2), (0, 3), (0, 4), (0, 5), (1, 6), (1, 7), (1, 8), (1, 9), (1, 10), (3, 11)] bd1 ?_
 refine stL (h := ?_)
 refine stL (hy := fun w hS => by have f2 := (HX3.out.later hS).cell 0; go_simp <;> with_reducible rfl) (h := ?_)
 iterate 3 refine stL (h := ?_)
 refine stL (hy := fun w hS => by obtain ⟨b0, b1, -⟩ := (HG3.out.later hS).cursor; go_simp <;> with_reducible rfl) (h := ?_)
 refine alL fun K hK => ?_
 go_wp2
 refine hK.out _ _ bd1 ?_
 clear hK K
 refine alL fun K hK => ?_
 go_wp2
 refine hK.out _ _ bd1 ?_
 clear hK K
 refine alL fun K hK => ?_
 go_wp2
 refine hK.out _ _ bd1 ?_
 clear hK K
 refine alL fun K hK => ?_
 go_wp2
 refine hK.out _ _ bd1 ?_
 clear hK K
 refine alL fun K hK => ?_
 go_wp2
 refine hK.out _ _ bd1 ?_
 clear hK K
 refine laL fun K hK => ?_
 go_wp2_with fail
 refine (move_any (HN3.out.later bd1) r1 r2 c1 c2 g.row g.col).mono ?_
 rintro e k1 ⟨rfl, hg, ho⟩
 have HGk := hide hg; have HOk := hide ho; clear hg ho; go_wp2
 refine hK.out _ _ ?_
 clear hK K
 refine chainL_nil ?_
 go_wp2; go_ret2
 refine ⟨G1, L1, M1, rfl, by rw [← e1.out]; exact HGk.out, ?_, H1.out, H2.out, H3.out⟩
 exact HOk.out.below (HB3.out.drewN 1) HB3.out.size H1.out
theorem fit_no (h : Grd w G L M R C g) (r c : Int) (hs : ¬ sizeN r c) : Calls Tryz.prog 39 #[.pointer (some ⟨G, 0, none⟩), .int .i64 r, .int .i64 c] w fun e w' => e = .returned (.tuple #[.pointer none, .int .i64 11]) ∧ Below w.heap.size w w' := by
 obtain ⟨W0, hW0⟩ := exq ((w.alloc (.cells #[.pointer (some ⟨G, 0, none⟩)] 51)).alloc (.cells #[.int .i64 c] 3))
 have f0 : W0.cell? ⟨w.heap.size, 0, none⟩ = some (.pointer (some ⟨G, 0, none⟩)) := by rw [← hW0]; exact ((Whole.new w 51 [.pointer (some ⟨G, 0, none⟩)]).alloc _).cell 0
 have f1 : W0.cell? ⟨w.heap.size + 1, 0, none⟩ = some (.int .i64 c) := by rw [← hW0]; exact (whole_snd w _ 3 [.int .i64 c]).cell 0
 have HB : Hid (Below w.heap.size w W0) := by unfold Hid; rw [← hW0]; exact two_new _ _ _ _ _
 have HW0 := hide hW0; clear hW0 h
 by_cases h1 : sideB r = true
 ·have h2 : sideB c = false := by
   unfold sideB at *
   simp only [decide_eq_true_eq] at h1
   simp only [decide_eq_false_iff_not]
   intro q
   exact hs ⟨h1, q⟩
  have H1 := hide h1; have H2 := hide h2; clear h1 h2 hs
  go_enter Tryz.func39, Tryz.ntmps39
  go_wp2_with fail
  rw [HW0.out]
  refine (side_any r W0).mono ?_
  rintro e w1 ⟨rfl, rfl⟩
  rw [H1.out]
  go_wp2_with fail
  refine (side_any c W0).mono ?_
  rintro e w1 ⟨rfl, rfl⟩
  rw [H2.out]
  go_wp2; go_ret2
  exact ⟨rfl, HB.out⟩
 ·have H1 : Hid (sideB r = false) := by unfold Hid; simpa using h1
  clear h1 hs
  go_enter Tryz.func39, Tryz.ntmps39
  go_wp2_with fail
  rw [HW0.out]
  refine (side_any r W0).mono ?_
  rintro e w1 ⟨rfl, rfl⟩
  rw [H1.out]
  go_wp2; go_ret2
  exact ⟨rfl, HB.out⟩
end
section
variable {w : World} {G L M R C : Nat} {g : Gd}
theorem scroll_any (h : Grd w G L M R C g) (hR : 1 ≤ R) (hR2 : R ≤ 512) (hC : 1 ≤ C) (hC2 : C ≤ 512) (hS : Spans w) (n : Int) (f y b : Nat) :
  Calls Tryz.prog 148 #[.pointer (some ⟨G, 0, none⟩), .int .i64 n, .agg #[.int .u8 f, .int .u8 y, .int .u8 b]] w (Scrolled R C (scrollG g C n ⟨f, y, b⟩) w G L M) := by
 by_cases hp : rightN ⟨f, y, b⟩ = true
 ·obtain ⟨c, hc⟩ := exq (clampI n R)
  have h1 : -(R : Int) ≤ c ∧ c ≤ (R : Int) := by rw [← hc]; unfold clampI; omega
  by_cases h0 : 0 ≤ c
  ·exact scroll_up h hR hR2 hC hC2 hS n f y b hp c.toNat _ (by omega) rfl (by rw [hc]; omega)
  ·exact scroll_down h hR hR2 hC hC2 hS n f y b hp (-c).toNat _ (by omega) rfl (by omega) (by rw [hc]; omega)
 ·obtain ⟨W0, hW0⟩ := exq (w.alloc (.cells #[.int .u8 f, .int .u8 y, .int .u8 b] 65))
  have HB0 : Hid (Below w.heap.size w W0) := by unfold Hid; rw [← hW0]; exact (Below.refl _ _).alloc (Nat.le_refl _) _
  have HP0 : Hid (Whole W0 w.heap.size 65 [.int .u8 f, .int .u8 y, .int .u8 b]) := by unfold Hid; rw [← hW0]; exact Whole.new _ _ _
  have HE : Hid (scrollG g C n ⟨f, y, b⟩ = g) := by unfold Hid scrollG; rw [if_neg hp]
  have HPR : Hid (rightN ⟨f, y, b⟩ = false) := by unfold Hid; simpa using hp
  have HG := hide h; have HW0 := hide hW0
  obtain ⟨a0, a1, a2, lP⟩ := cells3 HP0.out
  clear hW0 h hp hS
  go_enter Tryz.func148, Tryz.ntmps148
  go_wp2_with fail
  rw [HW0.out]
  refine (right_any f y b W0).mono ?_
  rintro e W1 ⟨rfl, hb⟩
  rw [HPR.out]
  have HB := hide (HB0.out.trans (hb.mono HB0.out.size))
  clear a0 a1 a2 lP hb; go_wp2
  exact bodyPost_ret (v := .tuple #[]) (by simp [results, Tryz.results148]) rfl ⟨rfl, L, by rw [HE.out]; exact HG.out.later HB.out, Trn.of_below HB.out, .inl rfl⟩
end
section
variable {w : World} {G L M R C G' L' M' R' C' : Nat} {g g' : Gd} {cap cap' : Nat} {ps ps' : Nat → Nat} {room room' : List Cel} {more more' : List Value}
theorem ls_eq {a b : List (List Cel)} {n : Nat} (ha : a.length = n) (hb : b.length = n) : decide (a = b) = true ↔ ∀ i, i < n → lAt a i = lAt b i := by
 rw [decide_eq_true_iff]
 constructor
 ·rintro rfl i _; rfl
 ·intro h
  rw [← gtab_self a, ← gtab_self b, ha, hb]
  exact gtab_eq h
def sameG (a b : Gd) : Bool := decide (a.row = b.row ∧ a.col = b.col) && decide (a.ls = b.ls)
theorem sameG_iff (a b : Gd) : sameG a b = true ↔ a = b := by
 obtain ⟨l, r, c⟩ := a
 obtain ⟨l', r', c'⟩ := b
 simp only [sameG, Bool.and_eq_true, decide_eq_true_iff, Gd.mk.injEq]
 constructor
 ·rintro ⟨⟨rfl, rfl⟩, rfl⟩; exact ⟨rfl, rfl, rfl⟩
 ·rintro ⟨rfl, rfl, rfl⟩; exact ⟨⟨rfl, rfl⟩, rfl⟩
theorem sameG_self (a : Gd) : sameG a a = true := (sameG_iff a a).2 rfl
theorem gright1_yes (A : Option Addr) (n c : Nat) (z : List Cel) (w : World) (h : Cels .i32 w A z) (hn : z.length = n) (hl : n ≤ 1000000) (hlb : LB z) (hS : Spans w) (hr : rightL z = true) : Calls Tryz.prog 48 #[.slice A n c] w (Said false w) := by
 have H := hide h; have HN := hide hn; have HL := hide hlb; have HS := hide hS; have HR := hide hr; clear h hn hlb hS hr
 go_enter Tryz.func48, Tryz.ntmps48
 go_wp2_with fail
 refine (lright_any A n c z w H.out HN.out hl HL.out HS.out).mono ?_
 rintro e k1 ⟨rfl, hb⟩
 rw [HR.out]
 have HB := hide hb; clear hb; go_wp2; go_ret
 exact ⟨rfl, HB.out⟩
theorem gindexf_yes (h : GridAt w G L M R C g cap ps room more) (hok : GOk g R C) (hS : Spans w) : Calls Tryz.prog 90 #[.slice (some ⟨L, 0, none⟩) R cap, .func (.func 48) #[] #[]] w (Num .i64 (-1) w) := by
 have H := hide h; have HO := hide hok; have HS := hide hS
 have hR := hok.r2
 have hC := hok.c2
 clear h hok hS
 go_enter Tryz.func90, Tryz.ntmps90
 go_wp2
 go_loopw [5, 8] (fun _ i wr => ∃ k : Nat, k ≤ R ∧ i = .int .i64 k ∧ Below w.heap.size w wr) (fun _ i _ => R - (intOf i).toNat)
 case atStart => exact ⟨0, Nat.zero_le _, rfl, Below.refl _ _⟩
 case round =>
  obtain ⟨k, hk, rfl, hb⟩ := hrel
  have HB := hide hb; clear hb
  by_cases hlt : k < R
  ·have H1 := hide (H.out.later HB.out)
   have b0 := H1.out.row hlt
   have l0 := H1.out.lines.lt
   go_wp2_with fail
   refine (gright1_yes _ C C _ wr (H1.out.cels hlt) (H1.out.lenAt hlt) (by omega) (HO.out.each k hlt).2.2 (HS.out.below HB.out) (HO.out.each k hlt).2.1).mono ?_
   rintro e k1 ⟨rfl, hb⟩
   have HB1 := hide (HB.out.trans (hb.mono HB.out.size))
   clear hb b0 l0; go_wp2
   go_roundw
   case rel => exact ⟨k + 1, by omega, by go_num, HB1.out⟩
   case measure => simp [intOf]; omega
  ·go_wp2
   go_ret
   exact ⟨rfl, HB.out⟩
theorem gright_yes (h : Grd w G L M R C g) (hok : GOk g R C) (hS : Spans w) : Calls Tryz.prog 19 #[.pointer (some ⟨G, 0, none⟩)] w (Said true w) := by
 obtain ⟨cap, ps, room, more, h⟩ := h
 obtain ⟨c0, c1, c2, lG, -, -⟩ := h.three
 have HC : Hid (Calls Tryz.prog 47 #[.slice (some ⟨L, 0, none⟩) R cap, .func (.func 48) #[] #[]] w (Said false w)) := by
  unfold Hid
  have HX := hide (gindexf_yes h hok hS)
  clear h hok hS c0 c1 c2 lG
  go_enter Tryz.func47, Tryz.ntmps47
  go_wp2_with fail
  refine HX.out.mono ?_
  rintro e k1 ⟨rfl, hb⟩
  have HB := hide hb; clear hb; go_wp2; go_ret
  exact ⟨rfl, HB.out⟩
 clear h hok hS
 go_enter Tryz.func19, Tryz.ntmps19
 go_wp2_with fail
 refine HC.out.mono ?_
 rintro e k1 ⟨rfl, hb⟩
 have HB := hide hb; clear hb c0 c1 c2 lG; go_wp2; go_ret
 exact ⟨rfl, HB.out⟩
end
theorem info5 : (Tryz.prog.info? 5).map (fun i => (i.zero, i.size, i.bytes)) = some (some (.int .u8 0), 1, 1) := by kernel_rfl
theorem elemBytes : Elem Tryz.prog 34 5 .u8 1 := ⟨Tryz.underlying34, info5⟩
theorem elemRunes : Elem Tryz.prog 129 21 .i32 4 := ⟨Tryz.underlying129, info21⟩
theorem elemInts : Elem Tryz.prog 33 3 .i64 8 := ⟨Tryz.underlying33, info3⟩
theorem rbytes_sc (r : Int) (w : World) (h : isSc r = true) : Calls Tryz.prog 207 #[.int .i64 r] w (Made 5 .u8 w (encS r)) := by
 have hb := (isSc_iff r).1 h
 obtain ⟨h0, h9, _⟩ := hb
 have hsc : isSc r = true := h
 by_cases h1 : r < 128
 ·have E := hide (encS1 h1)
  go_enter Tryz.func207, Tryz.ntmps207
  go_wp2_with (go_at_call 158; refine (rscalar_any _ _).mono ?_; rintro e w' ⟨rfl, rfl⟩)
  go_ret
  exact ⟨_, rfl, by rw [E.out]; exact Own.lit w 5 .u8 [r] 1 rfl (by omega)⟩
 by_cases h2 : r < 2048
 ·have E := hide (encS2 h1 h2)
  go_enter Tryz.func207, Tryz.ntmps207
  go_wp2_with (go_at_call 158; refine (rscalar_any _ _).mono ?_; rintro e w' ⟨rfl, rfl⟩)
  go_ret
  exact ⟨_, rfl, by rw [E.out]; exact Own.lit w 5 .u8 [_, _] 2 rfl (by omega)⟩
 by_cases h3 : r < 65536
 ·have E := hide (encS3 h2 h3)
  go_enter Tryz.func207, Tryz.ntmps207
  go_wp2_with (go_at_call 158; refine (rscalar_any _ _).mono ?_; rintro e w' ⟨rfl, rfl⟩)
  go_ret
  exact ⟨_, rfl, by rw [E.out]; exact Own.lit w 5 .u8 [_, _, _] 3 rfl (by omega)⟩
 ·have E := hide (encS4 h3)
  go_enter Tryz.func207, Tryz.ntmps207
  go_wp2_with (go_at_call 158; refine (rscalar_any _ _).mono ?_; rintro e w' ⟨rfl, rfl⟩)
  go_ret
  exact ⟨_, rfl, by rw [E.out]; exact Own.lit w 5 .u8 [_, _, _, _] 4 rfl (by omega)⟩
theorem ahead_any (A C : Option Addr) (n m c d : Nat) (x p : List Int) (w : World) (hx : Ints .u8 w A x) (hp : Ints .u8 w C p) (hn : x.length = n) (hm : p.length = m) (hl : n ≤ 1000000) (hl2 : m ≤ 1000000) (bx : Byte x) (bp : Byte p) :
  Calls Tryz.prog 215 #[.slice A n c, .slice C m d] w (Said (lexB x p) w) := by
 have HN := hide hn; have HM := hide hm; clear hn hm
 go_enter Tryz.func215, Tryz.ntmps215
 go_wp2
 go_loopw [5] (fun i wr => ∃ k : Nat, k ≤ n ∧ k ≤ m ∧ i = .int .i64 k ∧ lexB (x.drop k) (p.drop k) = lexB x p ∧ Below w.heap.size w wr) (fun i _ => n - (intOf i).toNat)
 case atStart => exact ⟨0, Nat.zero_le _, Nat.zero_le _, rfl, by simp, Below.refl _ _⟩
 case round =>
  obtain ⟨k, hk, hk2, rfl, hlex, hbel⟩ := hrel
  have HL := hide hlex; clear hlex
  by_cases h1 : k < n
  ·by_cases h2 : k < m
   ·obtain ⟨b, off, rfl, hc, hb⟩ := hx.at (i := k) (by rw [HN.out]; exact h1)
    obtain ⟨b2, off2, rfl, hc2, hb2⟩ := hp.at (i := k) (by rw [HM.out]; exact h2)
    obtain ⟨u, hu, hu2⟩ := getD_byte x bx k (by rw [HN.out]; exact h1)
    obtain ⟨v, hv, hv2⟩ := getD_byte p bp k (by rw [HM.out]; exact h2)
    have HD := hide (drop_at x k u (by rw [HN.out]; exact h1) hu)
    have HD2 := hide (drop_at p k v (by rw [HM.out]; exact h2) hv)
    rw [hu, ← hbel.cell (p := ⟨b, off + k, none⟩) hb] at hc
    rw [hv, ← hbel.cell (p := ⟨b2, off2 + k, none⟩) hb2] at hc2
    clear hu hv
    by_cases e : u = v
    ·subst e
     have hq : ((u : Int) != (u : Int)) = false := by simp
     go_wp2
     go_quiet (fail)
     go_wp2
     go_roundw
     case rel => exact ⟨k + 1, by omega, by omega, by go_num, by rw [← HL.out, HD.out, HD2.out, lexB_eq], hbel.drewN _⟩
     case measure => simp [intOf]; omega
    ·have hq : ((u : Int) != (v : Int)) = true := by simp; omega
     have HE : Hid (lexB x p = decide ((u : Int) < (v : Int))) := by unfold Hid; rw [← HL.out, HD.out, HD2.out, lexB_ne (by omega)]
     go_wp2
     go_quiet (fail)
     go_wp2
     go_quiet (fail)
     go_wp2; go_ret
     exact ⟨ret_bool (by rw [HE.out]; first | rfl | simp), (hbel.drewN _).drewN _⟩
   ·have HE : Hid (lexB x p = false) := by
     unfold Hid
     rw [← HL.out, (List.drop_eq_nil_of_le (by rw [HM.out]; omega) : p.drop k = [])]
     cases x.drop k <;> rfl
    have hq : decide (n < m) = false := by simp; omega
    go_wp2; go_ret
    exact ⟨ret_bool (by rw [HE.out]), hbel⟩
  ·have HE : Hid (lexB x p = decide (n < m)) := by
    unfold Hid
    rw [← HL.out, (List.drop_eq_nil_of_le (by rw [HN.out]; omega) : x.drop k = [])]
    rcases Nat.lt_or_ge n m with h | h
    ·rw [List.drop_eq_getElem_cons (by rw [HM.out]; omega)]
     simp [lexB, h]
    ·rw [List.drop_eq_nil_of_le (by rw [HM.out]; omega)]
     simp [lexB]; omega
   go_wp2; go_ret
   exact ⟨ret_bool (by rw [HE.out]), hbel⟩
def Finds (p : List Int) (lo hi : Int) (w : World) (e : Ending) (w' : World) : Prop := ∃ b : Bool, e = .returned (.bool b) ∧ (b = true ↔ ∃ m, lo ≤ m ∧ m ≤ hi ∧ p <+: encS m) ∧ Below w.heap.size w w'
def Up (p : List Int) (lo L : Int) : Prop := ∀ x, lo ≤ x → x < L → lexB (encS x) p = true
def Stop (p : List Int) (hi H : Int) : Prop := H = hi ∨ lexB (encS H) p = false
theorem sc_mid (lo hi m : Int) (h0 : 0 ≤ lo) (hm : lo ≤ m ∧ m ≤ hi) (hh : hi ≤ 1114111) (hs : hi < 55296 ∨ 57343 < lo) : isSc m = true := by rw [isSc_iff]; omega
theorem uwithin_any (A : Option Addr) (n c : Nat) (p : List Int) (lo hi : Int) (w : World) (hp : Ints .u8 w A p) (hn : p.length = n) (hl : n ≤ 1000000) (bp : Byte p) (h0 : 0 ≤ lo) (hlh : lo ≤ hi) (hh : hi ≤ 1114111) (hs : hi < 55296 ∨ 57343 < lo) :
  Calls Tryz.prog 206 #[.slice A n c, .int .i64 lo, .int .i64 hi] w (Finds p lo hi w) := by
 have HN := hide hn; have HS := hide hs; clear hn hs
 go_enter Tryz.func206, Tryz.ntmps206
 go_wp2
 go_loopw [1, 2, 7] (fun l h _ wr => ∃ L H : Int, l = .int .i64 L ∧ h = .int .i64 H ∧ lo ≤ L ∧ L ≤ H ∧ H ≤ hi ∧ Up p lo L ∧ Stop p hi H ∧ Below w.heap.size w wr) (fun l h _ _ => (intOf h - intOf l).toNat)
 case atStart => exact ⟨lo, hi, rfl, rfl, Int.le_refl _, hlh, Int.le_refl _, fun x h1 h2 => by omega, .inl rfl, Below.refl _ _⟩
 case round =>
  obtain ⟨L, H, rfl, rfl, k1, k2, k3, hup, hstop, hbel⟩ := hrel
  by_cases hlt : L < H
  ·have hm := sc_mid lo hi ((L + H) / 2) h0 (by omega) hh HS.out
   go_wp2_with fail
   refine (rbytes_sc ((L + H) / 2) _ hm).mono ?_
   rintro e w1 ⟨v, rfl, hv⟩
   obtain ⟨A1, c1, rfl, hi1, hc1, hA1⟩ := hv.form
   have hl4 := encS_len ((L + H) / 2)
   have hb1 := hbel.trans (hv.bel.mono hbel.size)
   by_cases hx : lexB (encS ((L + H) / 2)) p = true
   ·go_wp2_with fail
    refine (ahead_any A1 A _ n c1 c _ p w1 hi1 (hp.below hb1) rfl HN.out (by omega) hl (encS_byte _ hm) bp).mono ?_
    rintro e w2 ⟨rfl, hb2⟩
    rw [hx]
    have hx2 := hide hx; clear hx; go_wp2
    go_roundw
    case rel => exact ⟨(L + H) / 2 + 1, H, rfl, rfl, by omega, by omega, by omega, search_up p lo L _ h0 (by omega) (by omega) hup hx2.out, hstop, hb1.trans (hb2.mono hb1.size)⟩
    case measure => simp [intOf]; omega
   ·have hx' : lexB (encS ((L + H) / 2)) p = false := by simpa using hx
    clear hx; go_wp2_with fail
    refine (ahead_any A1 A _ n c1 c _ p w1 hi1 (hp.below hb1) rfl HN.out (by omega) hl (encS_byte _ hm) bp).mono ?_
    rintro e w2 ⟨rfl, hb2⟩
    rw [hx']
    have hx2 := hide hx'; clear hx'; go_wp2
    go_roundw
    case rel => exact ⟨L, (L + H) / 2, rfl, rfl, by omega, by omega, by omega, hup, .inr hx2.out, hb1.trans (hb2.mono hb1.size)⟩
    case measure => simp [intOf]; omega
  ·obtain rfl : L = H := by omega
   have hm := sc_mid lo hi L h0 (by omega) hh HS.out
   have END := hide (search_end p lo hi L h0 hh k1 k3 hup hstop)
   go_wp2_with fail
   refine (rbytes_sc L _ hm).mono ?_
   rintro e w1 ⟨v, rfl, hv⟩
   obtain ⟨A1, c1, rfl, hi1, hc1, hA1⟩ := hv.form
   have hl4 := encS_len L
   have hb1 := hbel.trans (hv.bel.mono hbel.size)
   have hp1 := hp.below hb1
   have bx := encS_byte L hm
   clear hv hup hstop hm HS
   generalize encS L = x at *
   obtain ⟨q, hq⟩ : ∃ q : Nat, x.length = q := ⟨_, rfl⟩
   rw [hq] at hl4 hc1
   have HQ := hide hq
   rw [hq]
   clear hq
   by_cases hsh : q < n
   ·go_wp2
    go_ret
    refine ⟨false, rfl, ?_, hb1⟩
    rw [← END.out]
    constructor
    ·intro h; cases h
    ·intro h; have := h.length_le; rw [HQ.out, HN.out] at this; omega
   ·go_wp2
    go_loopw [9] (fun i wr => ∃ k : Nat, k ≤ n ∧ i = .int .i64 k ∧ p.take k = x.take k ∧ Below w1.heap.size w1 wr) (fun i _ => n - (intOf i).toNat)
    case atStart => exact ⟨0, Nat.zero_le _, rfl, by simp, Below.refl _ _⟩
    case round =>
     obtain ⟨k, hk, rfl, htk, hbel2⟩ := hrel
     have HT := hide htk; clear htk
     by_cases hlt : k < n
     ·obtain ⟨b, off, rfl, hc, hb⟩ := hi1.at (i := k) (by rw [HQ.out]; omega)
      obtain ⟨b2, off2, rfl, hc2, hb2⟩ := hp1.at (i := k) (by rw [HN.out]; exact hlt)
      obtain ⟨u, hu, hu2⟩ := getD_byte x bx k (by rw [HQ.out]; omega)
      obtain ⟨v, hv, hv2⟩ := getD_byte p bp k (by rw [HN.out]; exact hlt)
      have HD := hide (drop_at x k u (by rw [HQ.out]; omega) hu)
      have HD2 := hide (drop_at p k v (by rw [HN.out]; exact hlt) hv)
      rw [hu, ← hbel2.cell (p := ⟨b, off + k, none⟩) hb] at hc
      rw [hv, ← hbel2.cell (p := ⟨b2, off2 + k, none⟩) hb2] at hc2
      by_cases e : u = v
      ·subst e
       have HT2 := hide (take_next p x k u (by rw [HN.out]; exact hlt) (by rw [HQ.out]; omega) HT.out hv hu)
       clear hu hv
       have hq : ((u : Int) != (u : Int)) = false := by simp
       go_wp2
       go_quiet (fail)
       go_wp2
       go_roundw
       case rel => exact ⟨k + 1, by omega, by go_num, HT2.out, hbel2.drewN _⟩
       case measure => simp [intOf]; omega
      ·clear hu hv
       have hq : ((u : Int) != (v : Int)) = true := by simp; omega
       go_wp2
       go_quiet (fail)
       go_wp2; go_ret
       refine ⟨false, rfl, ?_, (hb1.trans (hbel2.mono hb1.size)).drewN _⟩
       rw [← END.out]
       constructor
       ·intro h; cases h
       ·intro h
        have := (drop_prefix p x k (by rw [HN.out]; omega) (by rw [HQ.out]; omega) HT.out).1 h
        rw [HD.out, HD2.out] at this
        obtain ⟨t, ht⟩ := this
        simp at ht; omega
     ·go_wp2
      go_ret
      refine ⟨true, rfl, ?_, hb1.trans (hbel2.mono hb1.size)⟩
      rw [← END.out]
      refine ⟨fun _ => ?_, fun _ => rfl⟩
      have := HT.out
      rw [(List.take_of_length_le (by rw [HN.out]; omega) : p.take k = p)] at this
      exact ⟨x.drop k, by rw [this, List.take_append_drop]⟩
theorem tail_any (r : Int) (w : World) (h0 : 0 ≤ r) (h1 : r ≤ 1114111) : Calls Tryz.prog 166 #[.int .i32 r] w fun e w' => e = .returned (.int .u8 (128 + r % 64)) ∧ w = w' := by
 go_enter Tryz.func166, Tryz.ntmps166
 go_wp2; go_ret
 exact ⟨rfl, rfl⟩
theorem size_any (c : Int) (w : World) (h0 : 0 ≤ c) (h1 : c ≤ 255) : Calls Tryz.prog 203 #[.int .u8 c] w fun e w' => e = .returned (.int .i64 (sz c)) ∧ w = w' := by
 rcases sz_inv c with ⟨g1, e⟩ | ⟨g1, g2, e⟩ | ⟨g1, g2, e⟩ | ⟨g1, g2, e⟩ | ⟨g1, g2, e⟩ | ⟨g1, e⟩
 all_goals
  have E := hide e; clear e
  go_enter Tryz.func203, Tryz.ntmps203
  go_wp2
  try (exfalso; omega)
  go_ret
  exact ⟨ret_int (by rw [E.out]; rfl), rfl⟩
theorem seconds_any (c : Int) (w : World) (h0 : 0 ≤ c) (h1 : c ≤ 255) : Calls Tryz.prog 212 #[.int .u8 c] w fun e w' => e = .returned (.tuple #[.int .u8 (lo2 c), .int .u8 (hi2 c)]) ∧ w = w' := by
 by_cases g1 : c = 224
 ·subst g1
  go_enter Tryz.func212, Tryz.ntmps212
  go_wp2_with (go_at_call 166; refine (tail_any _ _ (by omega) (by omega)).mono ?_; rintro e w' ⟨rfl, rfl⟩)
  go_ret2
  exact ⟨rfl, rfl⟩
 by_cases g2 : c = 237
 ·subst g2
  go_enter Tryz.func212, Tryz.ntmps212
  go_wp2_with (go_at_call 166; refine (tail_any _ _ (by omega) (by omega)).mono ?_; rintro e w' ⟨rfl, rfl⟩)
  go_ret2
  exact ⟨rfl, rfl⟩
 by_cases g3 : c = 240
 ·subst g3
  go_enter Tryz.func212, Tryz.ntmps212
  go_wp2_with (go_at_call 166; refine (tail_any _ _ (by omega) (by omega)).mono ?_; rintro e w' ⟨rfl, rfl⟩)
  go_ret2
  exact ⟨rfl, rfl⟩
 by_cases g4 : c = 244
 ·subst g4
  go_enter Tryz.func212, Tryz.ntmps212
  go_wp2_with (go_at_call 166; refine (tail_any _ _ (by omega) (by omega)).mono ?_; rintro e w' ⟨rfl, rfl⟩)
  go_ret2
  exact ⟨rfl, rfl⟩
 ·have q1 : (c == 224) = false := by simp [g1]
  have q2 : (c == 237) = false := by simp [g2]
  have q3 : (c == 240) = false := by simp [g3]
  have q4 : (c == 244) = false := by simp [g4]
  have E : Hid (lo2 c = 128 ∧ hi2 c = 191) := by unfold Hid lo2 hi2; rw [if_neg g1, if_neg g3, if_neg g2, if_neg g4]; exact ⟨rfl, rfl⟩
  clear g1 g2 g3 g4
  go_enter Tryz.func212, Tryz.ntmps212
  go_wp2; go_ret2
  exact ⟨by rw [E.out.1, E.out.2]; rfl, rfl⟩
def FitRel (a : Int) (r : List Int) (S t : Nat) (l h i : Value) : Prop := ∃ (lo hi : Int) (k : Nat), l = .int .u8 lo ∧ h = .int .u8 hi ∧ i = .int .i64 k ∧ k ≤ t ∧ run lo hi (S - k) ((a :: r).drop k) + k = fit (a :: r)
theorem fitting_any (A : Option Addr) (n c : Nat) (a : Int) (r : List Int) (w : World) (hb : Ints .u8 w A (a :: r)) (hn : (a :: r).length = n) (hl : n ≤ 1000000) (hy : Byte (a :: r)) :
  Calls Tryz.prog 204 #[.slice A n c, .int .i64 (sz a)] w fun e w' => e = .returned (.int .i64 (fit (a :: r))) ∧ w = w' := by
 obtain ⟨B, off, rfl, c0, hB⟩ := hb.at (i := 0) (by simp)
 simp only [List.getD_cons_zero, Nat.add_zero] at c0
 have ha := hy a (by simp)
 obtain ⟨a0, a1⟩ := ha
 have hn0 : 0 < n := by rw [← hn]; simp
 have hf := fit_sz a r
 have hs4 := sz_le a
 obtain ⟨S, hS⟩ := exq (sz a)
 rw [hS] at hf hs4 ⊢
 have HN := hide hn; clear hn
 by_cases hz : S = 0
 ·have HF : Hid (fit (a :: r) = 0) := fit_zero (by rw [hS]; exact hz)
  subst hz; clear hS hf hs4
  have hm : min (0 : Int) (n : Int) = 0 := by omega
  go_enter Tryz.func204, Tryz.ntmps204
  go_wp2_with fail
  refine (seconds_any a w a0 a1).mono ?_
  rintro e w' ⟨rfl, rfl⟩
  go_wp2
  go_loop [5, 6, 7] (fun l h i => i = .int .i64 0) (fun _ _ i => 0)
  case atStart => rfl
  case round =>
   subst hrel; go_wp2; go_ret
   exact ⟨ret_int (by rw [HF.out]; rfl), rfl⟩
 ·have HF : Hid (fit (a :: r) = 1 + run (lo2 a) (hi2 a) (S - 1) r) := by have := fit_pos (c := a) (r := r) (by rw [hS]; exact hz); rw [hS] at this; exact this
  clear hS
  have hlo := lo2_inv a
  have hhi := hi2_inv a
  have hlo' : 0 ≤ lo2 a ∧ lo2 a ≤ 255 := by omega
  have hhi' : 0 ≤ hi2 a ∧ hi2 a ≤ 255 := by omega
  clear hlo hhi
  obtain ⟨t, ht, htS, htn, hcase⟩ : ∃ t : Nat, min (S : Int) (n : Int) = (t : Int) ∧ t ≤ S ∧ t ≤ n ∧ (t = S ∨ t = n) := ⟨min S n, by omega, by omega, by omega, by omega⟩
  have HC := hide hcase
  have ht1 : 1 ≤ t := by omega
  clear hcase
  by_cases hS1 : S = 1
  ·subst hS1
   go_enter Tryz.func204, Tryz.ntmps204
   go_wp2_with fail
   refine (seconds_any a w a0 a1).mono ?_
   rintro e w' ⟨rfl, rfl⟩
   go_wp2
   go_loop [5, 6, 7] (fun l h i => FitRel a r 1 t l h i) (fun _ _ i => t - (intOf i).toNat)
   case atStart => exact ⟨lo2 a, hi2 a, 1, rfl, rfl, (by first | rfl | (congr 1; omega)), by omega, by rw [HF.out]; simp only [List.drop_succ_cons, List.drop_zero]; omega⟩
   case round =>
    obtain ⟨lo, hi, k, rfl, rfl, rfl, hk, hrun⟩ := hrel
    have HR := hide hrun; clear hrun
    by_cases hlt : k < t
    ·obtain ⟨B2, off2, q, hc, _⟩ := hb.at (i := k) (by rw [HN.out]; omega)
     cases q
     obtain ⟨u, hu, hu2⟩ := getD_byte (a :: r) hy k (by rw [HN.out]; omega)
     have HD := hide (drop_at (a :: r) k u (by rw [HN.out]; omega) hu)
     rw [hu] at hc
     clear hu
     have hkn : k < n := by omega
     by_cases h1 : lo ≤ (u : Int)
     ·by_cases h2 : (u : Int) ≤ hi
      ·have HE : Hid (run 128 191 (1 - (k + 1)) ((a :: r).drop (k + 1)) + (k + 1) = fit (a :: r)) := by
        unfold Hid
        rw [← HR.out, HD.out, show 1 - k = (1 - (k + 1)) + 1 by omega, run_yes ⟨h1, h2⟩]
        omega
       go_wp2
       all_goals
        go_round
        case rel => exact ⟨128, 191, k + 1, rfl, rfl, by go_num, by omega, HE.out⟩
        case measure => simp [intOf]; omega
      ·have h2' : decide ((u : Int) ≤ hi) = false := by simp; omega
       have HE : Hid (fit (a :: r) = k) := by
        unfold Hid
        rw [← HR.out, HD.out, show 1 - k = (1 - (k + 1)) + 1 by omega, run_no (by omega)]
        omega
       go_wp2
       all_goals (go_ret; exact ⟨ret_int (by rw [HE.out]), rfl⟩)
     ·have h1' : decide (lo ≤ (u : Int)) = false := by simp; omega
      have HE : Hid (fit (a :: r) = k) := by
       unfold Hid
       rw [← HR.out, HD.out, show 1 - k = (1 - (k + 1)) + 1 by omega, run_no (by omega)]
       omega
      go_wp2
      all_goals (go_ret; exact ⟨ret_int (by rw [HE.out]), rfl⟩)
    ·have HE : Hid (fit (a :: r) = k) := by
      unfold Hid
      rw [← HR.out]
      rcases HC.out with h | h
      ·rw [show 1 - k = 0 by omega, run_zero]; omega
      ·rw [List.drop_eq_nil_of_le (by rw [HN.out]; omega), run_nil]; omega
     have hge : decide (k < t) = false := by simp; omega
     go_wp2
     all_goals (go_ret; exact ⟨ret_int (by rw [HE.out]), rfl⟩)
  ·have hS2 : (1 : Int) < (S : Int) := by omega
   go_enter Tryz.func204, Tryz.ntmps204
   go_wp2_with fail
   refine (seconds_any a w a0 a1).mono ?_
   rintro e w' ⟨rfl, rfl⟩
   go_wp2
   go_loop [5, 6, 7] (fun l h i => FitRel a r S t l h i) (fun _ _ i => t - (intOf i).toNat)
   case atStart => exact ⟨lo2 a, hi2 a, 1, rfl, rfl, (by first | rfl | (congr 1; omega)), by omega, by rw [HF.out]; simp only [List.drop_succ_cons, List.drop_zero]; omega⟩
   case round =>
    obtain ⟨lo, hi, k, rfl, rfl, rfl, hk, hrun⟩ := hrel
    have HR := hide hrun; clear hrun
    by_cases hlt : k < t
    ·obtain ⟨B2, off2, q, hc, _⟩ := hb.at (i := k) (by rw [HN.out]; omega)
     cases q
     obtain ⟨u, hu, hu2⟩ := getD_byte (a :: r) hy k (by rw [HN.out]; omega)
     have HD := hide (drop_at (a :: r) k u (by rw [HN.out]; omega) hu)
     rw [hu] at hc
     clear hu
     have hkn : k < n := by omega
     by_cases h1 : lo ≤ (u : Int)
     ·by_cases h2 : (u : Int) ≤ hi
      ·have HE : Hid (run 128 191 (S - (k + 1)) ((a :: r).drop (k + 1)) + (k + 1) = fit (a :: r)) := by
        unfold Hid
        rw [← HR.out, HD.out, show S - k = (S - (k + 1)) + 1 by omega, run_yes ⟨h1, h2⟩]
        omega
       go_wp2
       all_goals
        go_round
        case rel => exact ⟨128, 191, k + 1, rfl, rfl, by go_num, by omega, HE.out⟩
        case measure => simp [intOf]; omega
      ·have h2' : decide ((u : Int) ≤ hi) = false := by simp; omega
       have HE : Hid (fit (a :: r) = k) := by
        unfold Hid
        rw [← HR.out, HD.out, show S - k = (S - (k + 1)) + 1 by omega, run_no (by omega)]
        omega
       go_wp2
       all_goals (go_ret; exact ⟨ret_int (by rw [HE.out]), rfl⟩)
     ·have h1' : decide (lo ≤ (u : Int)) = false := by simp; omega
      have HE : Hid (fit (a :: r) = k) := by
       unfold Hid
       rw [← HR.out, HD.out, show S - k = (S - (k + 1)) + 1 by omega, run_no (by omega)]
       omega
      go_wp2
      all_goals (go_ret; exact ⟨ret_int (by rw [HE.out]), rfl⟩)
    ·have HE : Hid (fit (a :: r) = k) := by
      unfold Hid
      rw [← HR.out]
      rcases HC.out with h | h
      ·rw [show S - k = 0 by omega, run_zero]; omega
      ·rw [List.drop_eq_nil_of_le (by rw [HN.out]; omega), run_nil]; omega
     have hge : decide (k < t) = false := by simp; omega
     go_wp2
     all_goals (go_ret; exact ⟨ret_int (by rw [HE.out]), rfl⟩)
end
end Go.Proofs.YtkijclgbpbhglaaGreatDoor
