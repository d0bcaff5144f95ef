/-
  Contracts and plain mathematics of GNew, GAsk, GRef6, GDo, GDo6, GOpen, Laid.
-/
import Derived.Test.YtoddfaoifnkhlaaDoorS6
import Derived.Test.YtoddfaoifnkhlaaDoorS2
import Derived.Test.YtoddfaoifnkhlaaDoorS3
import Derived.LaidMore
import Derived.Deep.Strs
import Derived.Stop.Joined
namespace Go.Proofs.YtoddfaoifnkhlaaDoor
set_option maxRecDepth 100000
set_option linter.unusedVariables false
set_option maxHeartbeats 8000000
section
open Go.ChangeShapes Go.WideShapes Go.ChangeAt Go.RowKit
def GaveG (R C : Nat) (g : Gd) (w : World) (e : Ending) (w' : World) : Prop := ∃ G L M, e = .returned (.pointer (some ⟨G, 0, none⟩)) ∧ NewGrd R C g w G L M w'
def GaveG2 (R C : Nat) (g : Gd) (w : World) (e : Ending) (w' : World) : Prop := ∃ G L M, e = .returned (.tuple #[.pointer (some ⟨G, 0, none⟩), .int .i64 0]) ∧ NewGrd R C g w G L M w'
theorem new1_any (k q C : Nat) (A : Option Addr) (c : Nat) (z : List Cel) (w : World) (h1 : Whole w q 34 [.slice A C c]) (hc : Cels .i32 w A z) (hn : z.length = C) :
  Calls Tryd.prog 24 #[.int .i64 k, .pointer (some ⟨q, 0, none⟩)] w (Tells C z w) := by
 have c0 : w.cell? ⟨q, 0, none⟩ = some (.slice A C c) := h1.cell 0
 have lq := h1.lt
 have HC := hide hc; have HN := hide hn; clear h1 hc hn
 go_enter Tryd.func24, Tryd.ntmps24
 go_wp2; go_ret
 exact ⟨A, c, rfl, Below.refl _ _, HC.out, HN.out⟩
theorem sideB_yes {n : Nat} (h1 : 1 ≤ n) (h2 : n ≤ 512) : sideB (n : Int) = true := by unfold sideB; simp; omega
theorem NewGrd.from {R C : Nat} {g : Gd} {w w0 w' : World} {G L M : Nat} (h : NewGrd R C g w0 G L M w') (hb : Below w.heap.size w w0) : NewGrd R C g w G L M w' := by
 obtain ⟨h1, h2, h3, h4, h5⟩ := h
 exact ⟨h1, hb.trans (h2.mono hb.size), Nat.le_trans hb.size h3, Nat.le_trans hb.size h4, Nat.le_trans hb.size h5⟩
theorem gnew_yes (R C : Nat) (r1 : 1 ≤ R) (r2 : R ≤ 512) (c1 : 1 ≤ C) (c2 : C ≤ 512) (w : World) :
  Calls Tryd.prog 11 #[.int .i64 R, .int .i64 C] w (GaveG2 R C (newG R C) w) := by
 go_enter Tryd.func11, Tryd.ntmps11
 go_wp2_with fail
 refine (side_any R w).mono ?_
 rintro e w1 ⟨rfl, rfl⟩
 rw [sideB_yes r1 r2]
 go_wp2_with fail
 refine (side_any C w).mono ?_
 rintro e w1 ⟨rfl, rfl⟩
 rw [sideB_yes c1 c2]
 go_wp2_with fail
 refine (new_v (C : Int) rfl (lenN_nat C c2) w).mono ?_
 rintro e w1 ⟨A, c, rfl, hc, hb⟩
 obtain ⟨W0, hW0⟩ := exq (w1.alloc (.cells #[.slice A C c] 34))
 have HX : Hid (Whole W0 w1.heap.size 34 [.slice A C c]) := by unfold Hid; rw [← hW0]; exact Whole.new _ _ _
 have HC : Hid (Cels .i32 W0 A (newC (C : Int))) := by unfold Hid; rw [← hW0]; exact hc.alloc _
 have HB : Hid (Below w.heap.size w W0) := by unfold Hid; rw [← hW0]; exact hb.alloc hb.size _
 have HW0 := hide hW0; clear hW0 hc hb; go_wp2_with fail
 rw [HW0.out]
 refine (made_any R C r2 c1 c2 24 _ (fun _ => newC (C : Int)) W0 (enter_of Tryd.func24 (by kernel_rfl) (by kernel_rfl)) ?_).mono ?_
 ·intro k wr hk hb args hargs
  have ha2 : args = #[.int .i64 k, .pointer (some ⟨w1.heap.size, 0, none⟩)] := by simpa using hargs
  subst ha2
  exact new1_any k _ C A c _ wr (HX.out.later hb) (HC.out.below hb) (newC_len C c2)
 rintro e w2 ⟨G, L, M, rfl, hg⟩
 have HG := hide (hg.from HB.out)
 clear hg; go_wp2; go_ret2
 exact ⟨G, L, M, rfl, HG.out⟩
theorem gnew_no (r c : Int) (h : ¬ sizeN r c) (w : World) : Calls Tryd.prog 11 #[.int .i64 r, .int .i64 c] w fun e w' => e = .returned (.tuple #[.pointer none, .int .i64 11]) ∧ w = w' := by
 by_cases h1 : sideB r = true
 ·have h2 : sideB c = false := by
   unfold sideB at *
   simp only [decide_eq_true_eq] at h1
   simp only [decide_eq_false_iff_not]
   intro q
   exact h ⟨h1, q⟩
  have H1 := hide h1; have H2 := hide h2; clear h1 h2 h
  go_enter Tryd.func11, Tryd.ntmps11
  go_wp2_with fail
  refine (side_any r w).mono ?_
  rintro e w1 ⟨rfl, rfl⟩
  rw [H1.out]
  go_wp2_with fail
  refine (side_any c w).mono ?_
  rintro e w1 ⟨rfl, rfl⟩
  rw [H2.out]
  go_wp2; go_ret2
  exact ⟨rfl, rfl⟩
 ·have H1 : Hid (sideB r = false) := by unfold Hid; simpa using h1
  clear h1 h
  go_enter Tryd.func11, Tryd.ntmps11
  go_wp2_with fail
  refine (side_any r w).mono ?_
  rintro e w1 ⟨rfl, rfl⟩
  rw [H1.out]
  go_wp2; go_ret2
  exact ⟨rfl, rfl⟩
section
variable {w : World} {G L M R C : Nat} {g : Gd}
theorem copy1_any (h : Grd w G L M R C g) (k : Nat) (hk : k < R) {q : Nat} (hq : Whole w q 38 [.pointer (some ⟨G, 0, none⟩)]) :
  Calls Tryd.prog 27 #[.int .i64 k, .pointer (some ⟨q, 0, none⟩)] w (Tells C (lAt g.ls k) w) := by
 obtain ⟨cap, ps, room, more, h⟩ := h
 obtain ⟨c0, c1, c2, lG, lL, lM⟩ := h.three
 have c3 := h.row hk
 have c4 : w.cell? ⟨q, 0, none⟩ = some (.pointer (some ⟨G, 0, none⟩)) := hq.cell 0
 have lq := hq.lt
 have HC := hide (h.cels hk)
 have HN := hide (h.lenAt hk)
 clear h hq
 go_enter Tryd.func27, Tryd.ntmps27
 go_wp2; go_ret
 exact ⟨_, C, rfl, Below.refl _ _, HC.out, HN.out⟩
theorem copy_any (h : Grd w G L M R C g) (hR : 1 ≤ R) (hR2 : R ≤ 512) (hC : 1 ≤ C) (hC2 : C ≤ 512) :
  Calls Tryd.prog 12 #[.pointer (some ⟨G, 0, none⟩)] w (GaveG R C g w) := by
 obtain ⟨W0, hW0⟩ := exq (w.alloc (.cells #[.pointer (some ⟨G, 0, none⟩)] 38))
 have HX : Hid (Whole W0 w.heap.size 38 [.pointer (some ⟨G, 0, none⟩)]) := by unfold Hid; rw [← hW0]; exact Whole.new _ _ _
 have HB : Hid (Below w.heap.size w W0) := by unfold Hid; rw [← hW0]; exact (Below.refl _ _).alloc (Nat.le_refl _) _
 have HG := hide (h.later HB.out)
 have HLen := hide h.glen; have HW0 := hide hW0; clear hW0 h
 go_enter Tryd.func12, Tryd.ntmps12
 have f0 : W0.cell? ⟨w.heap.size, 0, none⟩ = some (.pointer (some ⟨G, 0, none⟩)) := HX.out.cell 0
 go_wp2; rw [HW0.out]; clear f0
 refine rgL (fun w' => Below W0.heap.size W0 w') 5 [(0, 0), (0, 2), (0, 4), (1, 1), (1, 3), (3, 5), (3, 6)] bd1 ?_
 refine stL (hy := fun w hS => by have f0 := (HX.out.later hS).cell 0; go_simp <;> with_reducible rfl) (h := ?_)
 refine stL (hy := fun w hS => by have f0 := (HX.out.later hS).cell 0; go_simp <;> with_reducible rfl) (h := ?_)
 refine stL (h := ?_)
 refine alL fun K hK => ?_
 go_wp2_with fail
 refine (rows_any (HG.out.later bd1)).mono ?_
 rintro e k1 ⟨rfl, rfl⟩
 go_wp2
 refine hK.out _ _ bd1 ?_
 clear hK K
 refine alL fun K hK => ?_
 go_wp2_with fail
 refine (cols_any (HG.out.later bd1) hR).mono ?_
 rintro e k1 ⟨rfl, rfl⟩
 go_wp2
 refine hK.out _ _ bd1 ?_
 clear hK K
 refine laL fun K hK => ?_
 go_wp2_with fail
 refine (made_any R C hR2 hC hC2 27 _ (lAt g.ls) W0.drew (enter_of Tryd.func27 (by kernel_rfl) (by kernel_rfl)) ?_).mono ?_
 ·intro k wr hk hb args hargs
  have ha2 : args = #[.int .i64 k, .pointer (some ⟨w.heap.size, 0, none⟩)] := by simpa using hargs
  subst ha2
  exact copy1_any (HG.out.later (bd1.trans hb)) k hk (HX.out.later (bd1.trans hb))
 rintro e k1 ⟨G1, L1, M1, rfl, hg, hb, n1, n2, n3⟩
 have HG1 := hide hg
 have HBk := hide (((Below.refl W0.heap.size W0).drewN 1).trans hb)
 have HN1 : Hid (W0.heap.size ≤ G1 ∧ W0.heap.size ≤ L1 ∧ W0.heap.size ≤ M1) := ⟨n1, n2, n3⟩
 clear hg hb n1 n2 n3; go_wp2
 refine hK.out _ _ ?_
 clear hK K
 refine laL fun K hK => ?_
 go_wp2
 refine hK.out _ _ ?_
 clear hK K
 refine chainL_nil ?_
 have f0 : k1.cell? ⟨w.heap.size, 0, none⟩ = some (.pointer (some ⟨G, 0, none⟩)) := (HX.out.later HBk.out).cell 0
 have l0 := (HX.out.later HBk.out).lt
 obtain ⟨c0, c1, lG⟩ := (HG.out.later HBk.out).cursor
 obtain ⟨cap, ps, room, more, ha⟩ := HG1.out
 obtain ⟨d0, d1, d2, lG1, -, -⟩ := ha.three
 have hz := ha.top.frozen
 have HA := hide ha; clear ha; go_wp2; go_ret
 have hcur := HA.out.cursor g.row g.col
 have e : ({ ls := gtab R (lAt g.ls), row := g.row, col := g.col } : Gd) = g := by
  have : gtab R (lAt g.ls) = g.ls := by rw [← HLen.out]; exact gtab_self _
  rw [this]
 refine ⟨G1, L1, M1, rfl, ?_, ?_, ?_, ?_, ?_⟩
 ·rw [← e]; exact .of hcur
 ·exact only2.below (HB.out.trans (HBk.out.mono HB.out.size)) (Nat.le_trans HB.out.size HBk.out.size) (Nat.le_trans HB.out.size HN1.out.1)
 ·exact Nat.le_trans HB.out.size HN1.out.1
 ·exact Nat.le_trans HB.out.size HN1.out.2.1
 ·exact Nat.le_trans HB.out.size HN1.out.2.2
theorem fit1_any (h : Grd w G L M R C g) (hC : C ≤ 512) (k C0 : Nat) (hC0 : C0 ≤ 512) {q q2 : Nat} (hq : Whole w q 38 [.pointer (some ⟨G, 0, none⟩)]) (hq2 : Whole w q2 3 [.int .i64 C0]) :
  Calls Tryd.prog 48 #[.int .i64 k, .pointer (some ⟨q, 0, none⟩), .pointer (some ⟨q2, 0, none⟩)] w (Tells C0 (fitC (lAt g.ls k) (C0 : Int)) w) := by
 have HG := hide h; have H1 := hide hq; have H2 := hide hq2
 have HN := hide (lenN_nat C0 hC0)
 have HLen := hide h.glen
 obtain ⟨X, hX⟩ := exq (fitC (lAt g.ls k) (C0 : Int))
 have HXL : Hid (X.length = C0) := by unfold Hid; rw [← hX, fit_len, lenN_nat C0 hC0]
 rw [hX]
 by_cases hk : k < R
 ·have HLn : Hid ((lAt g.ls k).length = C) := by unfold Hid; obtain ⟨_, _, _, _, ha⟩ := h; exact ha.lenAt hk
  have HF := hide hX; clear hX hq hq2 h
  go_enter Tryd.func48, Tryd.ntmps48
  go_wp2
  refine rgL (fun w' => Below w.heap.size w w') 4 [(0, 1), (0, 0), (0, 3), (1, 2), (3, 4), (3, 5)] bd1 ?_
  refine stL (h := ?_)
  refine stL (hy := fun w hS => by have f0 := (H1.out.later hS).cell 0; go_simp <;> with_reducible rfl) (h := ?_)
  refine stL (hy := fun w hS => by have f0 := (H2.out.later hS).cell 0; go_simp <;> with_reducible rfl) (h := ?_)
  refine alL fun K hK => ?_
  go_wp2_with fail
  refine (gline_any (HG.out.later bd1) k (by unfold hasG; omega) (by omega)).mono ?_
  rintro e k1 ⟨v, rfl, hown⟩
  rw [Int.toNat_natCast] at hown
  obtain ⟨A1, c1, rfl, hc1, -⟩ := hown.form
  have Bk1 : Below w.heap.size w k1 := bd1.trans hown.bel
  have HC1 := hide hc1; clear hc1 hown
  rw [HLn.out]
  go_wp2
  refine hK.out _ _ (Bk1) ?_
  clear hK K
  refine laL fun K hK => ?_
  go_wp2_with fail
  refine (fit_v C0 HF.out HN.out HC1.out HLn.out).mono ?_
  rintro e k2 ⟨A2, c2, rfl, hc2, hb2⟩
  have HB2 := hide (Bk1.trans (hb2.mono Bk1.size))
  have HC2 := hide hc2; clear hc2 hb2 Bk1; go_wp2
  refine hK.out _ _ ?_
  clear hK K
  refine laL fun K hK => ?_
  go_wp2
  refine hK.out _ _ ?_
  clear hK K
  refine chainL_nil ?_
  go_wp2; go_ret
  exact ⟨A2, c2, rfl, HB2.out, HC2.out, HXL.out⟩
 ·have HF : Hid (fitC [] (C0 : Int) = X) := by
   unfold Hid
   rw [← hX]
   congr 1
   unfold lAt
   rw [List.getD_eq_getElem?_getD, List.getElem?_eq_none (by rw [h.glen]; omega)]
   rfl
  clear hX hq hq2 h
  go_enter Tryd.func48, Tryd.ntmps48
  go_wp2
  refine rgL (fun w' => Below w.heap.size w w') 4 [(0, 1), (0, 0), (0, 3), (1, 2), (3, 4), (3, 5)] bd1 ?_
  refine stL (h := ?_)
  refine stL (hy := fun w hS => by have f0 := (H1.out.later hS).cell 0; go_simp <;> with_reducible rfl) (h := ?_)
  refine stL (hy := fun w hS => by have f0 := (H2.out.later hS).cell 0; go_simp <;> with_reducible rfl) (h := ?_)
  refine alL fun K hK => ?_
  go_wp2_with fail
  refine (gline_no (HG.out.later bd1) k (by unfold hasG; omega)).mono ?_
  rintro e k1 ⟨rfl, rfl⟩
  go_wp2
  refine hK.out _ _ bd1 ?_
  clear hK K
  refine laL fun K hK => ?_
  go_wp2_with fail
  refine (fit_v C0 HF.out HN.out (A := none) (c := 0) (n := 0) .nil rfl).mono ?_
  rintro e k2 ⟨A2, c2, rfl, hc2, hb2⟩
  have HB2 := hide (((Below.refl w.heap.size w).drewN 1).trans hb2)
  have HC2 := hide hc2; clear hc2 hb2; go_wp2
  refine hK.out _ _ ?_
  clear hK K
  refine laL fun K hK => ?_
  go_wp2
  refine hK.out _ _ ?_
  clear hK K
  refine chainL_nil ?_
  go_wp2; go_ret
  exact ⟨A2, c2, rfl, HB2.out, HC2.out, HXL.out⟩
theorem fit_yes (h : Grd w G L M R C g) (hC : C ≤ 512) (R0 C0 : Nat) (r1 : 1 ≤ R0) (r2 : R0 ≤ 512) (c1 : 1 ≤ C0) (c2 : C0 ≤ 512) :
  Calls Tryd.prog 34 #[.pointer (some ⟨G, 0, none⟩), .int .i64 R0, .int .i64 C0] w (GaveG2 R0 C0 (fitG g R0 C0) w) := by
 obtain ⟨W0, hW0⟩ := exq ((w.alloc (.cells #[.pointer (some ⟨G, 0, none⟩)] 38)).alloc (.cells #[.int .i64 C0] 3))
 have HX : Hid (Whole W0 w.heap.size 38 [.pointer (some ⟨G, 0, none⟩)]) := by unfold Hid; rw [← hW0]; exact (Whole.new _ _ _).alloc _
 have HY : Hid (Whole W0 (w.heap.size + 1) 3 [.int .i64 C0]) := by unfold Hid; rw [← hW0]; exact whole_snd _ _ _ _
 have HB : Hid (Below w.heap.size w W0) := by unfold Hid; rw [← hW0]; exact two_new _ _ _ _ _
 have HG := hide (h.later HB.out)
 have HW0 := hide hW0; clear hW0 h
 have f0 : W0.cell? ⟨w.heap.size, 0, none⟩ = some (.pointer (some ⟨G, 0, none⟩)) := HX.out.cell 0
 have f1 : W0.cell? ⟨w.heap.size + 1, 0, none⟩ = some (.int .i64 C0) := HY.out.cell 0
 go_enter Tryd.func34, Tryd.ntmps34
 go_wp2_with fail
 rw [HW0.out]
 refine (side_any R0 W0).mono ?_
 rintro e w1 ⟨rfl, rfl⟩
 rw [sideB_yes r1 r2]
 go_wp2_with fail
 refine (side_any C0 W0).mono ?_
 rintro e w1 ⟨rfl, rfl⟩
 rw [sideB_yes c1 c2]
 go_wp2_with fail
 refine (made_any R0 C0 r2 c1 c2 48 _ (fun k => fitC (lAt g.ls k) (C0 : Int)) W0 (enter_of Tryd.func48 (by kernel_rfl) (by kernel_rfl)) ?_).mono ?_
 ·intro k wr hk hb args hargs
  have ha2 : args = #[.int .i64 k, .pointer (some ⟨w.heap.size, 0, none⟩), .pointer (some ⟨w.heap.size + 1, 0, none⟩)] := by simpa using hargs
  subst ha2
  exact fit1_any (HG.out.later hb) hC k C0 c2 (HX.out.later hb) (HY.out.later hb)
 rintro e W3 ⟨G1, L1, M1, rfl, hg, hb, n1, n2, n3⟩
 have HX3 := hide (HX.out.later hb)
 have HG3 := hide (HG.out.later hb)
 have HN3 := hide hg
 have HB3 := hide (HB.out.trans (hb.mono HB.out.size))
 have H1 := hide (Nat.le_trans HB.out.size n1)
 have H2 := hide (Nat.le_trans HB.out.size n2)
 have H3 := hide (Nat.le_trans HB.out.size n3)
 clear hg hb n1 n2 n3 f0 f1
 have e1 : Hid (moveG ⟨gtab R0 (fun k => fitC (lAt g.ls k) (C0 : Int)), 0, 0⟩ g.row g.col C0 = fitG g R0 C0) := by
  unfold Hid moveG fitG
  simp only [gtab_len]
  congr 1
  exact gtab_eq fun i hi => (fitAtG_is _ _ _).symm
 have f0 : W3.cell? ⟨w.heap.size, 0, none⟩ = some (.pointer (some ⟨G, 0, none⟩)) := HX3.out.cell 0
 have l0 := HX3.out.lt
 obtain ⟨d0, d1, lG⟩ := HG3.out.cursor
 go_wp2
 refine rgL (fun w' => Below W3.heap.size W3 w') 11 [(0, 0), (0, 1), (0, 2), (0, 3), (0, 4), (0, 5), (1, 6), (1, 7), (1, 8), (1, 9), (1, 10), (3, 11)] bd1 ?_
 refine stL (h := ?_)
 refine stL (hy := fun w hS => by have f2 := (HX3.out.later hS).cell 0; go_simp <;> with_reducible rfl) (h := ?_)
 iterate 3 refine stL (h := ?_)
 refine stL (hy := fun w hS => by obtain ⟨b0, b1, -⟩ := (HG3.out.later hS).cursor; go_simp <;> with_reducible rfl) (h := ?_)
 refine alL fun K hK => ?_
 go_wp2
 refine hK.out _ _ bd1 ?_
 clear hK K
 refine alL fun K hK => ?_
 go_wp2
 refine hK.out _ _ bd1 ?_
 clear hK K
 refine alL fun K hK => ?_
 go_wp2
 refine hK.out _ _ bd1 ?_
 clear hK K
 refine alL fun K hK => ?_
 go_wp2
 refine hK.out _ _ bd1 ?_
 clear hK K
 refine alL fun K hK => ?_
 go_wp2
 refine hK.out _ _ bd1 ?_
 clear hK K
 refine laL fun K hK => ?_
 go_wp2_with fail
 refine (move_any (HN3.out.later bd1) r1 r2 c1 c2 g.row g.col).mono ?_
 rintro e k1 ⟨rfl, hg, ho⟩
 have HGk := hide hg; have HOk := hide ho; clear hg ho; go_wp2
 refine hK.out _ _ ?_
 clear hK K
 refine chainL_nil ?_
 go_wp2; go_ret2
 refine ⟨G1, L1, M1, rfl, by rw [← e1.out]; exact HGk.out, ?_, H1.out, H2.out, H3.out⟩
 exact HOk.out.below (HB3.out.drewN 1) HB3.out.size H1.out
theorem fit_no (h : Grd w G L M R C g) (r c : Int) (hs : ¬ sizeN r c) : Calls Tryd.prog 34 #[.pointer (some ⟨G, 0, none⟩), .int .i64 r, .int .i64 c] w fun e w' => e = .returned (.tuple #[.pointer none, .int .i64 11]) ∧ Below w.heap.size w w' := by
 obtain ⟨W0, hW0⟩ := exq ((w.alloc (.cells #[.pointer (some ⟨G, 0, none⟩)] 38)).alloc (.cells #[.int .i64 c] 3))
 have f0 : W0.cell? ⟨w.heap.size, 0, none⟩ = some (.pointer (some ⟨G, 0, none⟩)) := by rw [← hW0]; exact ((Whole.new w 38 [.pointer (some ⟨G, 0, none⟩)]).alloc _).cell 0
 have f1 : W0.cell? ⟨w.heap.size + 1, 0, none⟩ = some (.int .i64 c) := by rw [← hW0]; exact (whole_snd w _ 3 [.int .i64 c]).cell 0
 have HB : Hid (Below w.heap.size w W0) := by unfold Hid; rw [← hW0]; exact two_new _ _ _ _ _
 have HW0 := hide hW0; clear hW0 h
 by_cases h1 : sideB r = true
 ·have h2 : sideB c = false := by
   unfold sideB at *
   simp only [decide_eq_true_eq] at h1
   simp only [decide_eq_false_iff_not]
   intro q
   exact hs ⟨h1, q⟩
  have H1 := hide h1; have H2 := hide h2; clear h1 h2 hs
  go_enter Tryd.func34, Tryd.ntmps34
  go_wp2_with fail
  rw [HW0.out]
  refine (side_any r W0).mono ?_
  rintro e w1 ⟨rfl, rfl⟩
  rw [H1.out]
  go_wp2_with fail
  refine (side_any c W0).mono ?_
  rintro e w1 ⟨rfl, rfl⟩
  rw [H2.out]
  go_wp2; go_ret2
  exact ⟨rfl, HB.out⟩
 ·have H1 : Hid (sideB r = false) := by unfold Hid; simpa using h1
  clear h1 hs
  go_enter Tryd.func34, Tryd.ntmps34
  go_wp2_with fail
  rw [HW0.out]
  refine (side_any r W0).mono ?_
  rintro e w1 ⟨rfl, rfl⟩
  rw [H1.out]
  go_wp2; go_ret2
  exact ⟨rfl, HB.out⟩
end
section
variable {w : World} {G L M R C : Nat} {g : Gd}
end
theorem fieldsCur : fieldsAre Tryd.prog 66 [(false, 3, 0), (false, 3, 1)] := by unfold fieldsAre; kernel_rfl
theorem eqlCur (m n m' n' : Int) (w : World) : (binOp .eql 66 (.agg #[.int .i64 m, .int .i64 n]) (.agg #[.int .i64 m', .int .i64 n'])).run Tryd.prog w = .ok (.bool (eqM m n m' n')) w := by
 rw [run_eql_struct, run_equalIn_agg w 9999 66 _ _ Tryd.underlying66 Tryd.stoodInHeld66]
 have h3 := fieldsCur
 unfold fieldsAre at h3
 generalize (Tryd.prog.fieldsOf 66).toList = fs at h3
 have hl : fs.length = 2 := by have := congrArg List.length h3; simpa using this
 match fs, hl with
 | [f0, f1], _ =>
  simp only [List.map_cons, List.map_nil, List.cons.injEq, Prod.mk.injEq, beq_eq_false_iff_ne, ne_eq, and_true] at h3
  obtain ⟨⟨n0, t0, o0⟩, n1, t1, o1⟩ := h3
  simp only [Op.eqFields, n0, n1, t0, t1, o0, o1, ne_eq, not_false_eq_true, if_true, Sem.run_bind, part3 #[Value.int .i64 m, .int .i64 n] 0 m rfl, part3 #[Value.int .i64 m, .int .i64 n] 1 n rfl,
   part3 #[Value.int .i64 m', .int .i64 n'] 0 m' rfl, part3 #[Value.int .i64 m', .int .i64 n'] 1 n' rfl, Result.andThen_ok, run_equalIn_int w _ 3 .i64 .i64 _ _ Tryd.underlying3, Sem.run_ite, Sem.run_pure]
  unfold eqM
  cases hf : m == m' <;> cases hg : n == n' <;> simp
section
variable {w : World} {G L M R C G' L' M' R' C' : Nat} {g g' : Gd} {cap cap' : Nat} {ps ps' : Nat → Nat} {room room' : List Cel} {more more' : List Value}
end
theorem Lns.whole {w : World} {b : Nat} {ls : List (List Cel)} (h : Lns w (some ⟨b, 0, none⟩) ls) (h1 : 1 ≤ ls.length) : ∃ l, Whole w b 56 l := by
 rcases h with rfl | ⟨b', cur, e, hh, _⟩
 ·simp at h1
 ·cases e
  exact ⟨cur.toList, by unfold Whole; simpa using hh⟩
theorem Lns.there {w : World} {b : Nat} {ls : List (List Cel)} (h : Lns w (some ⟨b, 0, none⟩) ls) {i : Nat} (hi : i < ls.length) : ∃ x, w.cell? ⟨b, i, none⟩ = some x := by
 obtain ⟨b', A', c', e, _, hc, _⟩ := h.at hi
 cases e
 exact ⟨_, hc⟩
theorem Lns.set {w : World} {b : Nat} {ls : List (List Cel)} (h : Lns w (some ⟨b, 0, none⟩) ls) {r : Nat} (hr : r < ls.length) {x : Value} {z : List Cel} (hx : RowOk w x z) : Lns (w.setCell ⟨b, r, none⟩ x) (some ⟨b, 0, none⟩) (ls.set r z) := by
 have hs : Stays 82 w (w.setCell ⟨b, r, none⟩ x) := by
  obtain ⟨l, hw⟩ := h.whole (by omega)
  exact Stays.put hw (by decide)
 rcases h with rfl | ⟨b', cur, e, hh, hc⟩
 ·simp at hr
 ·cases e
  have hw : Whole w b 56 cur.toList := by unfold Whole; simpa using hh
  have hlen : ∀ i, i < ls.length → i < cur.toList.length := by
   intro i hi
   obtain ⟨y, hy, _⟩ := hc i hi
   simpa using (Array.getElem?_eq_some_iff.1 hy).1
  refine .inr ⟨b, (cur.toList.set r x).toArray, rfl, hw.put r x, fun i hi => ?_⟩
  rw [List.length_set] at hi
  rw [set_lAt _ _ _ _ hi]
  by_cases q : i = r
  ·subst q
   refine ⟨x, ?_, ?_⟩
   ·have hl := hlen i hi
    rw [List.getElem?_toArray, List.getElem?_set, if_pos rfl, if_pos hl]
   ·rw [if_pos rfl]; exact hx.keep hs
  ·obtain ⟨y, hy, hyo⟩ := hc i hi
   refine ⟨y, ?_, ?_⟩
   ·rw [List.getElem?_toArray, List.getElem?_set, if_neg (Ne.symm q)]
    simpa using hy
   ·rw [if_neg q]; exact hyo.keep hs
def Did (w : World) (G L M : Nat) (e : Ending) (w' : World) : Prop := ∃ g' R' C' G' L' M' A' cap', e = .returned (.tuple #[.pointer (some ⟨G', 0, none⟩), .agg #[.slice A' R' cap', .int .i64 ((g' : Gd).row : Int), .int .i64 g'.col], .bool true]) ∧
 Grd w' G' L' M' R' C' g' ∧ Lns w' A' g'.ls ∧ GOk g' R' C' ∧ Trn G L M w w' ∧ (G' = G ∨ w.heap.size ≤ G') ∧ (L' = L ∨ w.heap.size ≤ L') ∧ (M' = M ∨ w.heap.size ≤ M')
section
variable {w W : World} {G L M R C G' L' M' R' C' : Nat} {g g' : Gd}
theorem heap_put3 (w : World) (q : Nat) (x0 x1 x2 : Value) (i : Nat) (h : i ≠ q) : (((w.setCell ⟨q, 0, none⟩ x0).setCell ⟨q, 1, none⟩ x1).setCell ⟨q, 2, none⟩ x2).heap[i]? = w.heap[i]? := by
 rw [Below.heap_setCell _ _ _ _ (by simpa using h), Below.heap_setCell _ _ _ _ (by simpa using h), Below.heap_setCell _ _ _ _ (by simpa using h)]
theorem Trn.put3 (h : Trn G L M w W) {q : Nat} (hq : w.heap.size ≤ q) (x0 x1 x2 : Value) : Trn G L M w (((W.setCell ⟨q, 0, none⟩ x0).setCell ⟨q, 1, none⟩ x1).setCell ⟨q, 2, none⟩ x2) :=
 ⟨h.os, h.tape, h.output, by simpa [World.setCell] using h.size, fun i hi h1 h2 h3 => (heap_put3 _ _ _ _ _ _ (by omega)).trans (h.block i hi h1 h2 h3)⟩
theorem Trn.thenB (h : Trn G L M w W) {W' : World} (hb : Below W.heap.size W W') : Trn G L M w W' := h.trans (L' := L) (Trn.of_below hb) (.inl rfl)
end
theorem Did.drew {w w' : World} {G L M : Nat} {e : Ending} (h : Did w G L M e w') : Did w G L M e w'.drew := by
 obtain ⟨g', R', C', G', L', M', A', cap', he, h1, h2, h3, h4, h5⟩ := h
 exact ⟨g', R', C', G', L', M', A', cap', he, h1.later bd1, h2.drewN 1, h3, h4.thenB bd1, h5⟩
theorem cells16 {w : World} {q : Nat} {t : TypeId} {x0 x1 x2 x3 x4 x5 x6 x7 x8 x9 y0 y1 y2 y3 y4 y5 : Value} (h : Whole w q t [x0, x1, x2, x3, x4, x5, x6, x7, x8, x9, y0, y1, y2, y3, y4, y5]) :
  w.cell? ⟨q, 0, none⟩ = some x0 ∧ w.cell? ⟨q, 1, none⟩ = some x1 ∧ w.cell? ⟨q, 2, none⟩ = some x2 ∧ w.cell? ⟨q, 3, none⟩ = some x3 ∧ w.cell? ⟨q, 4, none⟩ = some x4 ∧ w.cell? ⟨q, 5, none⟩ = some x5 ∧ w.cell? ⟨q, 6, none⟩ = some x6 ∧ w.cell? ⟨q, 7, none⟩ = some x7 ∧ w.cell? ⟨q, 8, none⟩ = some x8 ∧ w.cell? ⟨q, 9, none⟩ = some x9 ∧ w.cell? ⟨q, 10, none⟩ = some y0 ∧ w.cell? ⟨q, 11, none⟩ = some y1 ∧ w.cell? ⟨q, 12, none⟩ = some y2 ∧ w.cell? ⟨q, 13, none⟩ = some y3 ∧ w.cell? ⟨q, 14, none⟩ = some y4 ∧ w.cell? ⟨q, 15, none⟩ = some y5 ∧ q < w.heap.size :=
 ⟨h.cell 0, h.cell 1, h.cell 2, h.cell 3, h.cell 4, h.cell 5, h.cell 6, h.cell 7, h.cell 8, h.cell 9, h.cell 10, h.cell 11, h.cell 12, h.cell 13, h.cell 14, h.cell 15, h.lt⟩
theorem whole_fth (w : World) (o o2 o3 : Obj) (t : TypeId) (l : List Value) : Whole ((((w.alloc o).alloc o2).alloc o3).alloc (.cells l.toArray t)) (w.heap.size + 3) t l := by
 have := Whole.new (((w.alloc o).alloc o2).alloc o3) t l
 have e : (((w.alloc o).alloc o2).alloc o3).heap.size = w.heap.size + 3 := by simp
 rw [e] at this
 exact this
theorem four_new (w : World) (o o2 o3 o4 : Obj) : Below w.heap.size w ((((w.alloc o).alloc o2).alloc o3).alloc o4) := (three_new w o o2 o3).alloc (by simp; omega) _
def smallI (n : Int) : Int := if 30 < n ∧ n ≤ 512 then 30 else n
structure Ac where
 k : Int
 r : Int
 c : Int
 t : Int
 xr : Int
 xm : Int
 xn : Int
 xd : Nat
 xf : Nat
 xg : Nat
 xb : Nat
 m : Int
 pf : Nat
 pg : Nat
 pb : Nat
 Al : Option Addr
 nl : Nat
 cl : Nat
 cs : List Cel
def actL (a : Ac) : List Value := [.int .i64 a.k, .int .i64 a.r, .int .i64 a.c, .int .i64 a.t, .int .i32 a.xr, .int .i32 a.xm, .int .i32 a.xn, .int .u8 a.xd, .int .u8 a.xf, .int .u8 a.xg, .int .u8 a.xb, .int .i32 a.m, .int .u8 a.pf, .int .u8 a.pg, .int .u8 a.pb, .slice a.Al a.nl a.cl]
structure AcOk (w : World) (a : Ac) : Prop where
 c : -9223372036854775808 ≤ a.c ∧ a.c < 9223372036854775808
 x : CelOk a.xr a.xm a.xn a.xd a.xf a.xg a.xb
 m : R32 a.m
 p : PenOk a.pf a.pg a.pb
 l : LineIn w a.Al a.nl a.cl a.cs
theorem LineIn.below {w w' : World} {A : Option Addr} {n c : Nat} {cs : List Cel} (h : LineIn w A n c cs) (hb : Below w.heap.size w w') : LineIn w' A n c cs := ⟨h.1.below hb, h.2⟩
theorem AcOk.below {w w' : World} {a : Ac} (h : AcOk w a) (hb : Below w.heap.size w w') : AcOk w' a := ⟨h.c, h.x, h.m, h.p, h.l.below hb⟩
def Acts (w : World) (A : Option Addr) (n : Nat) : Prop := n = 0 ∨ ∃ (b off : Nat) (F : Nat → Ac), A = some ⟨b, off, none⟩ ∧ ∀ i, i < n → (∀ d v, (actL (F i))[d]? = some v → w.cell? ⟨b, off + i * 16 + d, none⟩ = some v) ∧ AcOk w (F i)
theorem Acts.below {w w' : World} {A : Option Addr} {n : Nat} (h : Acts w A n) (hb : Below w.heap.size w w') : Acts w' A n := by
 rcases h with h | ⟨b, off, F, ha, hc⟩
 ·exact .inl h
 ·refine .inr ⟨b, off, F, ha, fun i hi => ⟨fun d v hv => ?_, (hc i hi).2.below hb⟩⟩
  have := (hc i hi).1 d v hv
  rw [hb.cell (block_lt_of_cell this), this]
theorem Acts.at {w : World} {A : Option Addr} {n i : Nat} (h : Acts w A n) (hi : i < n) : ∃ (b off : Nat) (a : Ac), A = some ⟨b, off, none⟩ ∧ b < w.heap.size ∧ AcOk w a ∧
  (w.cell? ⟨b, off + i * 16, none⟩ = some (.int .i64 a.k) ∧ w.cell? ⟨b, off + i * 16 + 1, none⟩ = some (.int .i64 a.r) ∧ w.cell? ⟨b, off + i * 16 + 2, none⟩ = some (.int .i64 a.c) ∧ w.cell? ⟨b, off + i * 16 + 3, none⟩ = some (.int .i64 a.t) ∧
   w.cell? ⟨b, off + i * 16 + 4, none⟩ = some (.int .i32 a.xr) ∧ w.cell? ⟨b, off + i * 16 + 5, none⟩ = some (.int .i32 a.xm) ∧ w.cell? ⟨b, off + i * 16 + 6, none⟩ = some (.int .i32 a.xn) ∧ w.cell? ⟨b, off + i * 16 + 7, none⟩ = some (.int .u8 a.xd) ∧
   w.cell? ⟨b, off + i * 16 + 8, none⟩ = some (.int .u8 a.xf) ∧ w.cell? ⟨b, off + i * 16 + 9, none⟩ = some (.int .u8 a.xg) ∧ w.cell? ⟨b, off + i * 16 + 10, none⟩ = some (.int .u8 a.xb) ∧ w.cell? ⟨b, off + i * 16 + 11, none⟩ = some (.int .i32 a.m) ∧
   w.cell? ⟨b, off + i * 16 + 12, none⟩ = some (.int .u8 a.pf) ∧ w.cell? ⟨b, off + i * 16 + 13, none⟩ = some (.int .u8 a.pg) ∧ w.cell? ⟨b, off + i * 16 + 14, none⟩ = some (.int .u8 a.pb) ∧ w.cell? ⟨b, off + i * 16 + 15, none⟩ = some (.slice a.Al a.nl a.cl)) := by
 rcases h with h | ⟨b, off, F, ha, hc⟩
 ·omega
 ·obtain ⟨h1, h2⟩ := hc i hi
  exact ⟨b, off, F i, ha, block_lt_of_cell (h1 0 _ rfl), h2, h1 0 _ rfl, h1 1 _ rfl, h1 2 _ rfl, h1 3 _ rfl, h1 4 _ rfl, h1 5 _ rfl, h1 6 _ rfl, h1 7 _ rfl, h1 8 _ rfl, h1 9 _ rfl, h1 10 _ rfl, h1 11 _ rfl, h1 12 _ rfl, h1 13 _ rfl, h1 14 _ rfl, h1 15 _ rfl⟩
end
section
open Go.ChangeShapes Go.WideShapes Go.ChangeAt Go.RowKit Go.Joins
theorem sizeLine : Tryd.prog.cellsOf 34 = 1 := by kernel_rfl
section
variable {H : Type} {enc : TypeId × Value → H} {w : World} {base : Nat} {spare : Nat → Bool} {held : Bool}
theorem cells_line {fuel : Nat} {c : Value} {x : DataW H × List MemPlace} (h : DataW.trod enc Tryd.prog w base spare held fuel 34 [c] = some x) : ∃ a len cap cs, c = .slice a len cap ∧ LineIn w a len cap cs := by
 have h0 := h
 rcases Deep.open_slice Tryd.underlying34 h with ⟨hcs, _⟩ | ⟨ad, l, cp, m, n, D, Pl, hcs, _⟩
 ·obtain rfl : c = .slice none 0 0 := by simpa using hcs
  obtain ⟨cs, hI⟩ := open_line (x := x.1) (p := x.2) ⟨fuel, h0⟩
  exact ⟨none, 0, 0, cs, rfl, hI⟩
 ·obtain rfl : c = .slice (some ad) l cp := by simpa using hcs
  obtain ⟨cs, hI⟩ := open_line (x := x.1) (p := x.2) ⟨fuel, h0⟩
  exact ⟨some ad, l, cp, cs, rfl, hI⟩
end
end
section
open Go.ChangeShapes Go.WideShapes Go.ChangeAt Go.RowKit
def laid1 : List (String × DataW Unit) := [("prolepsis/width.spans", Rows.laid_prolepsis_width_spans)]
theorem gSpans : Tryd.prog.globalNamed "prolepsis/width.spans" = some 0 := by kernel_rfl
theorem tSpans : (Tryd.prog.globals[0]?).map (·.type) = some 97 := by kernel_rfl
theorem size96 : Tryd.prog.cellsOf 96 = 3 := by kernel_rfl
theorem sizeT21 : Tryd.prog.cellsOf 21 = 1 := by kernel_rfl
theorem sizeT3 : Tryd.prog.cellsOf 3 = 1 := by kernel_rfl
def spanData (s : Int × Int × Int) : DataW Unit := .agg [.lit (.int .i32 s.1), .lit (.int .i32 s.2.1), .lit (.int .i64 s.2.2)]
theorem laid_is : (Rows.laid_prolepsis_width_spans : DataW Unit) = .agg (spans.map spanData) := rfl
theorem flat3 (l : List (Int × Int × Int)) : ∀ (i d : Nat), d < 3 → (l.flatMap cellsOf3)[3 * i + d]? = (l[i]?).bind (fun s => (cellsOf3 s)[d]?) := by
 induction l with
 | nil => intro i d _; simp
 | cons s l ih =>
  intro i d hd
  have hl : (cellsOf3 s).length = 3 := rfl
  rw [List.flatMap_cons]
  cases i with
  | zero => rw [List.getElem?_append_left (by omega)]; simp
  | succ i =>
   rw [List.getElem?_append_right (by omega), hl, show 3 * (i + 1) + d - 3 = 3 * i + d by omega, ih i d hd]
   simp
theorem struct96 : ∃ f0 f1 f2 : Field, Tryd.prog.underlying 96 = some (.struct #[f0, f1, f2]) ∧ f0.type = 21 ∧ f1.type = 21 ∧ f2.type = 3 ∧ f0.offset = 0 ∧ f1.offset = 1 ∧ f2.offset = 2 := ⟨_, _, _, Tryd.underlying96, rfl, rfl, rfl, rfl, rfl, rfl⟩
theorem cells_of_span {W : World} {base : Nat} {sp : Nat → Bool} {held : Bool} {fuel : Nat} {cs : List Value} {enc : TypeId × Value → Unit} {s : Int × Int × Int} {q : List MemPlace}
  (h : DataW.trod enc Tryd.prog W base sp held fuel 96 cs = some (spanData s, q)) : cs = cellsOf3 s := by
 obtain ⟨f0, f1, f2, hu, e0, e1, e2, o0, o1, o2⟩ := struct96
 obtain ⟨y0, y1, y2, m, hx, hl, h0, h1, h2⟩ := Deep.trod_struct3 hu h
 rw [e0, o0, sizeT21] at h0
 rw [e1, o1, sizeT21] at h1
 rw [e2, o2, sizeT3] at h2
 rw [size96] at hl
 obtain ⟨n0, c0, r0, _⟩ := DataW.trod_int Tryd.underlying21 h0
 obtain ⟨n1, c1, r1, _⟩ := DataW.trod_int Tryd.underlying21 h1
 obtain ⟨n2, c2, r2, _⟩ := DataW.trod_int Tryd.underlying3 h2
 subst r0 r1 r2
 obtain ⟨s1, s2, s3⟩ := s
 simp [spanData] at hx
 obtain ⟨⟨rfl, rfl, rfl⟩, _⟩ := hx
 match cs, hl with
 | [a, b, c], _ =>
  simp at c0 c1 c2
  subst c0 c1 c2
  rfl
theorem of_laid {W : World} (h : laidMetH Tryd.prog laid1 W) : Spans W := by
 rw [MakeChecks.laidMetH_plain _ _ _ (by kernel_rfl)] at h
 obtain ⟨ps, ⟨g0, t0, cs0, f0, p0, q0, hg0, ht0, hv0, hd0, _, _⟩, _, _⟩ := h
 obtain rfl := Option.some.inj (gSpans.symm.trans hg0)
 obtain rfl := Option.some.inj (tSpans.symm.trans ht0)
 rw [laid_is] at hd0
 obtain ⟨xs, m, rfl, hx, hlen, hn, hel⟩ := DataW.trod_array Tryd.underlying97 hd0
 simp only [Prod.mk.injEq, DataW.agg.injEq] at hx
 intro j v hv
 have hj : j = 3 * (j / 3) + j % 3 := by omega
 have hd3 : j % 3 < 3 := by omega
 generalize j / 3 = i at hj
 generalize j % 3 = d at hj hd3
 subst hj
 unfold spanCells at hv
 rw [flat3 spans i d hd3] at hv
 cases hs : spans[i]? with
 | none => rw [hs] at hv; cases hv
 | some s =>
  rw [hs] at hv
  have hi : i < 18 := (List.getElem?_eq_some_iff.1 hs).1
  have he := hel i hi
  cases hxi : xs[i]? with
  | none => have := List.getElem?_eq_none_iff.1 hxi; omega
  | some x =>
   rw [hxi, size96] at he
   have h1 : (xs.map (·.1))[i]? = some x.1 := by rw [List.getElem?_map, hxi]; rfl
   rw [← hx.1, List.getElem?_map, hs] at h1
   have h2 : spanData s = x.1 := by simpa using h1
   obtain ⟨x1, x2⟩ := x
   simp only at h2
   subst h2
   have hc := cells_of_span he
   have hcd : (cellsOf3 s)[d]? = some v := hv
   rw [← hc, List.getElem?_take, if_pos hd3, List.getElem?_drop] at hcd
   have := World.var?_cell hg0 hv0 (i * 3 + d)
   rw [Nat.zero_add, show 3 * i + d = i * 3 + d by omega, this, ← Array.getElem?_toList]
   exact hcd
theorem door_met (os : Os) (args : Array Value) : laidMetH Tryd.prog laid1 ((World.doorLaid Tryd.prog 400 os).forCall (fun _ _ => 0) ⟨#[], args, []⟩).memory :=
 laidMetH_of_parts3 (fuel := 8) (laidMet_of_run' 8 (by kernel_rfl) (by kernel_rfl)) (by kernel_rfl) (by kernel_rfl)
end
end Go.Proofs.YtoddfaoifnkhlaaDoor
