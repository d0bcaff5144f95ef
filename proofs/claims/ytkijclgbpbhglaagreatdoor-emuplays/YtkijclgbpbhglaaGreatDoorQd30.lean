/-
  Contracts and plain mathematics of PStepA.
-/
import Derived.Test.YtkijclgbpbhglaaGreatDoorQd29
namespace Go.Proofs.YtkijclgbpbhglaaGreatDoor
set_option maxRecDepth 100000
set_option linter.unusedVariables false
set_option maxHeartbeats 8000000
section
open Go.ChangeShapes Go.WideShapes Go.ChangeAt Go.RowKit
theorem rpstep_0 (p : Ps) (hok : PsOk p) (A : Option Addr) (ln c : Nat) (A' : Option Addr) (lh c' : Nat) (es : List Ev) (Ao : Option Addr) (no co : Nat) (w : World) (hp : Dp w p A ln c A' lh c') (ho : Evo w es Ao no co) (hl : no ≤ 100000) (hln : ln ≤ 10000) (b : Int) (b0 : 0 ≤ b) (b1 : b ≤ 255) (hb : b = 24) :
  Calls Tryz.prog 89 #[.agg #[.int .i64 p.st, .slice A ln c, .slice A' lh c'], .slice Ao no co, .int .u8 b] w (DGave w (stepP p b).1 (es ++ (stepP p b).2)) := by
 obtain ⟨W0, hW0⟩ := exq ((w.alloc (.cells #[.int .i64 p.st, .slice A ln c, .slice A' lh c'] 36)).alloc (.cells #[.int .i64 0, .slice none 0 0, .slice none 0 0] 36))
 have HB0 : Hid (Below w.heap.size w W0) := by unfold Hid; rw [← hW0]; exact two_new _ _ _ _ _
 have HP0 : Hid (Whole W0 w.heap.size 36 [.int .i64 p.st, .slice A ln c, .slice A' lh c']) := by unfold Hid; rw [← hW0]; exact (Whole.new _ _ _).alloc _
 have HQ0 : Hid (Whole W0 (w.heap.size + 1) 36 [.int .i64 0, .slice none 0 0, .slice none 0 0]) := by unfold Hid; rw [← hW0]; exact whole_snd _ _ _ _
 have HSZ : Hid (w.heap.size + 1 + 1 = W0.heap.size) := by unfold Hid; rw [← hW0]; simp
 have HDw := hide hp; have HOw := hide ho
 have HD := hide (hp.below HB0.out)
 have HO := hide (ho.below HB0.out)
 have HW0 := hide hW0; clear hW0 hp ho
 have hne : ¬ w.heap.size = w.heap.size + 1 := by omega
 have hne' : ¬ w.heap.size + 1 = w.heap.size := by omega
 subst hb
 rw [step_cancel (p := p) (b := 24) (by omega)]
 go_enter Tryz.func89, Tryz.ntmps89
 go_wp2_with fail
 rw [HW0.out]
 refine (rpflush1_any p A ln c A' lh c' es Ao no co W0 HD.out HO.out hl).mono ?_
 rintro e w1 ⟨A1, l1, c1, A2, l2, c2, O1, o1, k1, rfl, hd, ho, hb⟩
 have HP1 := hide (HP0.out.later hb)
 have HQ1 := hide (HQ0.out.later hb)
 have HB1 := hide (HB0.out.trans (hb.mono HB0.out.size))
 have HD1 := hide hd; have HO1 := hide ho; clear hd ho hb
 have HPa : Hid (Whole (((w1.setCell ⟨w.heap.size, 0, none⟩ (.int .i64 p.st)).setCell ⟨w.heap.size, 1, none⟩ (.slice A1 l1 c1)).setCell ⟨w.heap.size, 2, none⟩ (.slice A2 l2 c2)) w.heap.size 36 [.int .i64 p.st, .slice A1 l1 c1, .slice A2 l2 c2]) := put3 HP1.out _ _ _
 have HQa : Hid (Whole (((w1.setCell ⟨w.heap.size, 0, none⟩ (.int .i64 p.st)).setCell ⟨w.heap.size, 1, none⟩ (.slice A1 l1 c1)).setCell ⟨w.heap.size, 2, none⟩ (.slice A2 l2 c2)) (w.heap.size + 1) 36 [.int .i64 0, .slice none 0 0, .slice none 0 0]) := ((HQ1.out.other hne').other hne').other hne'
 have HBa : Hid (Below w.heap.size w (((w1.setCell ⟨w.heap.size, 0, none⟩ (.int .i64 p.st)).setCell ⟨w.heap.size, 1, none⟩ (.slice A1 l1 c1)).setCell ⟨w.heap.size, 2, none⟩ (.slice A2 l2 c2))) := below_put3 HB1.out (Nat.le_refl _) _ _ _
 have HSa : Hid (∀ t, t ≠ 36 → Stays t w1 (((w1.setCell ⟨w.heap.size, 0, none⟩ (.int .i64 p.st)).setCell ⟨w.heap.size, 1, none⟩ (.slice A1 l1 c1)).setCell ⟨w.heap.size, 2, none⟩ (.slice A2 l2 c2))) := fun t ht => stays_put3 HP1.out ht _ _ _
 obtain ⟨a0, a1, a2, la⟩ := cells3 HP1.out
 have za := HP1.out.frozen
 have HPb : Hid (Whole ((((w1.setCell ⟨w.heap.size, 0, none⟩ (.int .i64 p.st)).setCell ⟨w.heap.size, 1, none⟩ (.slice A1 l1 c1)).setCell ⟨w.heap.size, 2, none⟩ (.slice A2 l2 c2)).setCell ⟨w.heap.size, 0, none⟩ (.int .i64 0)) w.heap.size 36 [.int .i64 0, .slice A1 l1 c1, .slice A2 l2 c2]) := HPa.out.put 0 _
 have HQb := hide (HQa.out.other (i := 0) (u := .int .i64 0) hne')
 have HBb : Hid (Below w.heap.size w ((((w1.setCell ⟨w.heap.size, 0, none⟩ (.int .i64 p.st)).setCell ⟨w.heap.size, 1, none⟩ (.slice A1 l1 c1)).setCell ⟨w.heap.size, 2, none⟩ (.slice A2 l2 c2)).setCell ⟨w.heap.size, 0, none⟩ (.int .i64 0))) := HBa.out.setCell (p := ⟨w.heap.size, 0, none⟩) (Nat.le_refl _) _
 have HSb : Hid (∀ t, t ≠ 36 → Stays t w1 ((((w1.setCell ⟨w.heap.size, 0, none⟩ (.int .i64 p.st)).setCell ⟨w.heap.size, 1, none⟩ (.slice A1 l1 c1)).setCell ⟨w.heap.size, 2, none⟩ (.slice A2 l2 c2)).setCell ⟨w.heap.size, 0, none⟩ (.int .i64 0))) := fun t ht => (HSa.out t ht).trans (Stays.put HPa.out ht)
 obtain ⟨b0_, b1_, b2_, lb⟩ := cells3 HPa.out
 have zb := HPa.out.frozen
 go_wp2
 obtain ⟨X, hX⟩ := exq (((((w1.setCell ⟨w.heap.size, 0, none⟩ (.int .i64 p.st)).setCell ⟨w.heap.size, 1, none⟩ (.slice A1 l1 c1)).setCell ⟨w.heap.size, 2, none⟩ (.slice A2 l2 c2)).setCell ⟨w.heap.size, 0, none⟩ (.int .i64 0)))
 rw [hX]
 rw [hX] at HPb HQb HBb HSb
 have HPX := hide HPb.out; have HQX := hide HQb.out; have HBX := hide HBb.out
 have HDX := hide (HD1.out.keep (HSb.out 3 (by decide)) (HSb.out 5 (by decide)))
 have HOX := hide (HO1.out.keep (HSb.out 3 (by decide)) (HSb.out 60 (by decide)))
 have hle : es.length ≤ 100000 := by have := HOw.out.nl; omega
 have hbl := brk_len p.h
 have hlx : o1 ≤ 100001 := by have := HOX.out.nl; rw [List.length_append] at this; omega
 clear HPa HQa HBa HSa HP1 HQ1 HB1 HD1 HO1 a0 a1 a2 la za HPb HQb HBb HSb b0_ b1_ b2_ lb zb
 refine rgT (fun w' => Fr X.heap.size (w.heap.size + 1) X w') (.take 2 (.take 4 (.take 5 (.take 6 (.take 0 (.two 1 (.two 3 (.alone 7 (.alone 8 (.alone 9 (.alone 10 .done)))) 7 (.alone 3 (.alone 8 (.alone 9 (.alone 10 .done))))) 7 (.alone 1 (.alone 3 (.alone 8 (.alone 9 (.alone 10 .done))))))))))) (Fr.refl.drewN 1) ?_
 iterate 4 refine stT (h := ?_)
 refine stT (hy := fun w9 hS => by obtain ⟨p0_, p1_, p2_, lp⟩ := cells3 (hS.wholeB HPX.out HPX.out.lt hne); go_simp <;> with_reducible rfl) (h := ?_)
 have Bx1 : Below X.heap.size X X.drew := (Below.refl _ _).drewN 1
 generalize X.drew = x1 at Bx1 ⊢
 refine tree_two (by simp only [List.getElem?_toArray, List.getElem?_cons_zero, List.getElem?_cons_succ]; rfl) (by simp only [List.getElem?_toArray, List.getElem?_cons_zero, List.getElem?_cons_succ]; rfl) ?_ ?_
 ·intro K hK
  go_wp2
  refine hK.out _ _ (Fr.of_below (Bx1.alloc Bx1.size _)) ?_
  clear hK K
  have HV := hide (OwnE.empty (C := 0) (te := 60) (k := .i64) x1 (Nat.zero_le _))
  have Bx2 := Bx1.alloc Bx1.size (.cells #[] 60)
  have hz : Hid (x1.heap.size < (x1.alloc (.cells #[] 60)).heap.size) := by unfold Hid; simp
  generalize x1.alloc (.cells #[] 60) = x2 at HV Bx2 hz ⊢
  refine tree_two (by simp only [List.getElem?_toArray, List.getElem?_cons_zero, List.getElem?_cons_succ]; rfl) (by simp only [List.getElem?_toArray, List.getElem?_cons_zero, List.getElem?_cons_succ]; rfl) ?_ ?_
  ·intro K hK
   refine wpList_catEg elemE (by rfl) (.tmp 43) (.tmp 44) rfl rfl rfl HV.out (HOX.out.below Bx2).e HOX.out.nl HOX.out.c0 (by simp; omega) (by omega) (by decide) ?_
   intro vx3 x3 ho hg
   rw [List.nil_append] at ho
   have Bx3 : Below X.heap.size X x3 := Bx1.trans (ho.bel.mono Bx1.size)
   obtain ⟨Ax3, nx3, cx3, rfl⟩ := ho.slice
   clear HV; have HV := hide ho; clear ho hg; go_wp2
   refine hK.out _ _ (Fr.of_below Bx3) ?_
   clear hK K
   refine alT fun K hK => ?_
   go_wp2
   refine hK.out _ _ (Fr.of_below (Bx3.alloc Bx3.size _)) ?_
   clear hK K
   have HE := hide (Whole.new x3 60 [.int .i64 2, .int .i64 24, .slice none 0 0])
   have Bx4 := Bx3.alloc Bx3.size (.cells #[.int .i64 2, .int .i64 24, .slice none 0 0] 60)
   replace HV := hide (HV.out.alloc (.cells #[.int .i64 2, .int .i64 24, .slice none 0 0] 60))
   generalize x3.alloc (.cells #[.int .i64 2, .int .i64 24, .slice none 0 0] 60) = x4 at HE Bx4 HV ⊢
   refine alT fun K hK => ?_
   refine wpList_catE elemE (by rfl) (.tmp 45) (.tmp 49) rfl rfl rfl HV.out (Evs.one (ns := []) HE.out rfl .nil) rfl (fun h => by cases h) (by rw [HOX.out.nl]; omega) (by omega) (by decide) ?_
   intro vx5 x5 ho _ _
   have Bx5 : Below X.heap.size X x5 := Bx1.trans (ho.bel.mono Bx1.size)
   obtain ⟨A9, n9, c9, rfl, hev⟩ := ho.evo
   have HEV := hide hev; clear ho hev HV HE; go_wp2
   refine hK.out _ _ (Fr.of_below Bx5) ?_
   clear hK K
   refine alT fun K hK => ?_
   obtain ⟨t0, t1, t2, lt3⟩ := cells3 (HQX.out.later Bx5)
   have zt := (HQX.out.later Bx5).frozen
   go_wp2
   refine hK.out _ _ ((Fr.of_below Bx5).trans (((Fr.put 0 _).trans (Fr.put 1 _)).trans (Fr.put 2 _))) ?_
   clear hK K
   refine alT fun K hK => ?_
   go_wp2
   refine hK.out _ _ ((Fr.of_below Bx5).trans (((Fr.put 0 _).trans (Fr.put 1 _)).trans (Fr.put 2 _))) ?_
   clear hK K
   refine tree_done ?_
   go_wp2
   refine retP2 Tryz.results89 rfl rfl rfl (put3 (HQX.out.later Bx5) _ _ _) ?_
   have hst : ∀ t, t ≠ 36 → Stays t x5 _ := fun t ht => stays_put3 (HQX.out.later Bx5) ht (.int .i64 0) (.slice A1 l1 c1) (.slice A2 l2 c2)
   have hd := (HDX.out.below Bx5).keep (hst 3 (by decide)) (hst 5 (by decide))
   refine ⟨A1, l1, c1, A2, l2, c2, A9, n9, c9, rfl, ⟨hd.n, hd.h, hd.nl, hd.hl, hd.c0, hd.c1, hd.c2, hd.d0⟩, ?_, below_put3 (HBX.out.trans (Bx5.mono HBX.out.size)) (by omega) _ _ _⟩
   rw [← List.append_assoc]
   exact HEV.out.keep (hst 3 (by decide)) (hst 60 (by decide))
  ·intro K hK
   go_wp2
   refine hK.out _ _ (Fr.of_below (Bx2.alloc Bx2.size _)) ?_
   clear hK K
   have HE := hide (Whole.new x2 60 [.int .i64 2, .int .i64 24, .slice none 0 0])
   have Bx6 := Bx2.alloc Bx2.size (.cells #[.int .i64 2, .int .i64 24, .slice none 0 0] 60)
   replace HV := hide (HV.out.alloc (.cells #[.int .i64 2, .int .i64 24, .slice none 0 0] 60))
   generalize x2.alloc (.cells #[.int .i64 2, .int .i64 24, .slice none 0 0] 60) = x6 at HE Bx6 HV ⊢
   refine alT fun K hK => ?_
   refine wpList_catEg elemE (by rfl) (.tmp 43) (.tmp 44) rfl rfl rfl HV.out (HOX.out.below Bx6).e HOX.out.nl HOX.out.c0 (by simp; omega) (by omega) (by decide) ?_
   intro vx7 x7 ho hg
   rw [List.nil_append] at ho
   have Bx7 : Below X.heap.size X x7 := Bx1.trans (ho.bel.mono Bx1.size)
   replace HE := hide (HE.out.far (g' := x1.heap.size) hg (by have := hz.out; omega))
   obtain ⟨Ax7, nx7, cx7, rfl⟩ := ho.slice
   clear HV; have HV := hide ho; clear ho hg; go_wp2
   refine hK.out _ _ (Fr.of_below Bx7) ?_
   clear hK K
   refine alT fun K hK => ?_
   refine wpList_catE elemE (by rfl) (.tmp 45) (.tmp 49) rfl rfl rfl HV.out (Evs.one (ns := []) HE.out rfl .nil) rfl (fun h => by cases h) (by rw [HOX.out.nl]; omega) (by omega) (by decide) ?_
   intro vx8 x8 ho _ _
   have Bx8 : Below X.heap.size X x8 := Bx1.trans (ho.bel.mono Bx1.size)
   obtain ⟨A9, n9, c9, rfl, hev⟩ := ho.evo
   have HEV := hide hev; clear ho hev HV HE; go_wp2
   refine hK.out _ _ (Fr.of_below Bx8) ?_
   clear hK K
   refine alT fun K hK => ?_
   obtain ⟨t0, t1, t2, lt3⟩ := cells3 (HQX.out.later Bx8)
   have zt := (HQX.out.later Bx8).frozen
   go_wp2
   refine hK.out _ _ ((Fr.of_below Bx8).trans (((Fr.put 0 _).trans (Fr.put 1 _)).trans (Fr.put 2 _))) ?_
   clear hK K
   refine alT fun K hK => ?_
   go_wp2
   refine hK.out _ _ ((Fr.of_below Bx8).trans (((Fr.put 0 _).trans (Fr.put 1 _)).trans (Fr.put 2 _))) ?_
   clear hK K
   refine tree_done ?_
   go_wp2
   refine retP2 Tryz.results89 rfl rfl rfl (put3 (HQX.out.later Bx8) _ _ _) ?_
   have hst : ∀ t, t ≠ 36 → Stays t x8 _ := fun t ht => stays_put3 (HQX.out.later Bx8) ht (.int .i64 0) (.slice A1 l1 c1) (.slice A2 l2 c2)
   have hd := (HDX.out.below Bx8).keep (hst 3 (by decide)) (hst 5 (by decide))
   refine ⟨A1, l1, c1, A2, l2, c2, A9, n9, c9, rfl, ⟨hd.n, hd.h, hd.nl, hd.hl, hd.c0, hd.c1, hd.c2, hd.d0⟩, ?_, below_put3 (HBX.out.trans (Bx8.mono HBX.out.size)) (by omega) _ _ _⟩
   rw [← List.append_assoc]
   exact HEV.out.keep (hst 3 (by decide)) (hst 60 (by decide))
 ·intro K hK
  go_wp2
  refine hK.out _ _ (Fr.of_below (Bx1.alloc Bx1.size _)) ?_
  clear hK K
  have HE := hide (Whole.new x1 60 [.int .i64 2, .int .i64 24, .slice none 0 0])
  have Bx9 := Bx1.alloc Bx1.size (.cells #[.int .i64 2, .int .i64 24, .slice none 0 0] 60)
  have hz : Hid (x1.heap.size < (x1.alloc (.cells #[.int .i64 2, .int .i64 24, .slice none 0 0] 60)).heap.size) := by unfold Hid; simp
  generalize x1.alloc (.cells #[.int .i64 2, .int .i64 24, .slice none 0 0] 60) = x9 at HE Bx9 hz ⊢
  refine alT fun K hK => ?_
  go_wp2
  refine hK.out _ _ (Fr.of_below (Bx9.alloc Bx9.size _)) ?_
  clear hK K
  have HV := hide (OwnE.empty (C := 0) (te := 60) (k := .i64) x9 (Nat.zero_le _))
  have Bx10 := Bx9.alloc Bx9.size (.cells #[] 60)
  replace HE := hide (HE.out.alloc (.cells #[] 60))
  generalize x9.alloc (.cells #[] 60) = x10 at HV Bx10 HE ⊢
  refine alT fun K hK => ?_
  refine wpList_catEg elemE (by rfl) (.tmp 43) (.tmp 44) rfl rfl rfl HV.out (HOX.out.below Bx10).e HOX.out.nl HOX.out.c0 (by simp; omega) (by omega) (by decide) ?_
  intro vx11 x11 ho hg
  rw [List.nil_append] at ho
  have Bx11 : Below X.heap.size X x11 := Bx9.trans (ho.bel.mono Bx9.size)
  replace HE := hide (HE.out.far (g' := x9.heap.size) hg (by have := hz.out; omega))
  obtain ⟨Ax11, nx11, cx11, rfl⟩ := ho.slice
  clear HV; have HV := hide ho; clear ho hg; go_wp2
  refine hK.out _ _ (Fr.of_below Bx11) ?_
  clear hK K
  refine alT fun K hK => ?_
  refine wpList_catE elemE (by rfl) (.tmp 45) (.tmp 49) rfl rfl rfl HV.out (Evs.one (ns := []) HE.out rfl .nil) rfl (fun h => by cases h) (by rw [HOX.out.nl]; omega) (by omega) (by decide) ?_
  intro vx12 x12 ho _ _
  have Bx12 : Below X.heap.size X x12 := Bx9.trans (ho.bel.mono Bx9.size)
  obtain ⟨A9, n9, c9, rfl, hev⟩ := ho.evo
  have HEV := hide hev; clear ho hev HV HE; go_wp2
  refine hK.out _ _ (Fr.of_below Bx12) ?_
  clear hK K
  refine alT fun K hK => ?_
  obtain ⟨t0, t1, t2, lt3⟩ := cells3 (HQX.out.later Bx12)
  have zt := (HQX.out.later Bx12).frozen
  go_wp2
  refine hK.out _ _ ((Fr.of_below Bx12).trans (((Fr.put 0 _).trans (Fr.put 1 _)).trans (Fr.put 2 _))) ?_
  clear hK K
  refine alT fun K hK => ?_
  go_wp2
  refine hK.out _ _ ((Fr.of_below Bx12).trans (((Fr.put 0 _).trans (Fr.put 1 _)).trans (Fr.put 2 _))) ?_
  clear hK K
  refine tree_done ?_
  go_wp2
  refine retP2 Tryz.results89 rfl rfl rfl (put3 (HQX.out.later Bx12) _ _ _) ?_
  have hst : ∀ t, t ≠ 36 → Stays t x12 _ := fun t ht => stays_put3 (HQX.out.later Bx12) ht (.int .i64 0) (.slice A1 l1 c1) (.slice A2 l2 c2)
  have hd := (HDX.out.below Bx12).keep (hst 3 (by decide)) (hst 5 (by decide))
  refine ⟨A1, l1, c1, A2, l2, c2, A9, n9, c9, rfl, ⟨hd.n, hd.h, hd.nl, hd.hl, hd.c0, hd.c1, hd.c2, hd.d0⟩, ?_, below_put3 (HBX.out.trans (Bx12.mono HBX.out.size)) (by omega) _ _ _⟩
  rw [← List.append_assoc]
  exact HEV.out.keep (hst 3 (by decide)) (hst 60 (by decide))
theorem rpstep_1 (p : Ps) (hok : PsOk p) (A : Option Addr) (ln c : Nat) (A' : Option Addr) (lh c' : Nat) (es : List Ev) (Ao : Option Addr) (no co : Nat) (w : World) (hp : Dp w p A ln c A' lh c') (ho : Evo w es Ao no co) (hl : no ≤ 100000) (hln : ln ≤ 10000) (b : Int) (b0 : 0 ≤ b) (b1 : b ≤ 255) (hb : b = 26) :
  Calls Tryz.prog 89 #[.agg #[.int .i64 p.st, .slice A ln c, .slice A' lh c'], .slice Ao no co, .int .u8 b] w (DGave w (stepP p b).1 (es ++ (stepP p b).2)) := by
 obtain ⟨W0, hW0⟩ := exq ((w.alloc (.cells #[.int .i64 p.st, .slice A ln c, .slice A' lh c'] 36)).alloc (.cells #[.int .i64 0, .slice none 0 0, .slice none 0 0] 36))
 have HB0 : Hid (Below w.heap.size w W0) := by unfold Hid; rw [← hW0]; exact two_new _ _ _ _ _
 have HP0 : Hid (Whole W0 w.heap.size 36 [.int .i64 p.st, .slice A ln c, .slice A' lh c']) := by unfold Hid; rw [← hW0]; exact (Whole.new _ _ _).alloc _
 have HQ0 : Hid (Whole W0 (w.heap.size + 1) 36 [.int .i64 0, .slice none 0 0, .slice none 0 0]) := by unfold Hid; rw [← hW0]; exact whole_snd _ _ _ _
 have HSZ : Hid (w.heap.size + 1 + 1 = W0.heap.size) := by unfold Hid; rw [← hW0]; simp
 have HDw := hide hp; have HOw := hide ho
 have HD := hide (hp.below HB0.out)
 have HO := hide (ho.below HB0.out)
 have HW0 := hide hW0; clear hW0 hp ho
 have hne : ¬ w.heap.size = w.heap.size + 1 := by omega
 have hne' : ¬ w.heap.size + 1 = w.heap.size := by omega
 subst hb
 rw [step_cancel (p := p) (b := 26) (by omega)]
 go_enter Tryz.func89, Tryz.ntmps89
 go_wp2_with fail
 rw [HW0.out]
 refine (rpflush1_any p A ln c A' lh c' es Ao no co W0 HD.out HO.out hl).mono ?_
 rintro e w1 ⟨A1, l1, c1, A2, l2, c2, O1, o1, k1, rfl, hd, ho, hb⟩
 have HP1 := hide (HP0.out.later hb)
 have HQ1 := hide (HQ0.out.later hb)
 have HB1 := hide (HB0.out.trans (hb.mono HB0.out.size))
 have HD1 := hide hd; have HO1 := hide ho; clear hd ho hb
 have HPa : Hid (Whole (((w1.setCell ⟨w.heap.size, 0, none⟩ (.int .i64 p.st)).setCell ⟨w.heap.size, 1, none⟩ (.slice A1 l1 c1)).setCell ⟨w.heap.size, 2, none⟩ (.slice A2 l2 c2)) w.heap.size 36 [.int .i64 p.st, .slice A1 l1 c1, .slice A2 l2 c2]) := put3 HP1.out _ _ _
 have HQa : Hid (Whole (((w1.setCell ⟨w.heap.size, 0, none⟩ (.int .i64 p.st)).setCell ⟨w.heap.size, 1, none⟩ (.slice A1 l1 c1)).setCell ⟨w.heap.size, 2, none⟩ (.slice A2 l2 c2)) (w.heap.size + 1) 36 [.int .i64 0, .slice none 0 0, .slice none 0 0]) := ((HQ1.out.other hne').other hne').other hne'
 have HBa : Hid (Below w.heap.size w (((w1.setCell ⟨w.heap.size, 0, none⟩ (.int .i64 p.st)).setCell ⟨w.heap.size, 1, none⟩ (.slice A1 l1 c1)).setCell ⟨w.heap.size, 2, none⟩ (.slice A2 l2 c2))) := below_put3 HB1.out (Nat.le_refl _) _ _ _
 have HSa : Hid (∀ t, t ≠ 36 → Stays t w1 (((w1.setCell ⟨w.heap.size, 0, none⟩ (.int .i64 p.st)).setCell ⟨w.heap.size, 1, none⟩ (.slice A1 l1 c1)).setCell ⟨w.heap.size, 2, none⟩ (.slice A2 l2 c2))) := fun t ht => stays_put3 HP1.out ht _ _ _
 obtain ⟨a0, a1, a2, la⟩ := cells3 HP1.out
 have za := HP1.out.frozen
 have HPb : Hid (Whole ((((w1.setCell ⟨w.heap.size, 0, none⟩ (.int .i64 p.st)).setCell ⟨w.heap.size, 1, none⟩ (.slice A1 l1 c1)).setCell ⟨w.heap.size, 2, none⟩ (.slice A2 l2 c2)).setCell ⟨w.heap.size, 0, none⟩ (.int .i64 0)) w.heap.size 36 [.int .i64 0, .slice A1 l1 c1, .slice A2 l2 c2]) := HPa.out.put 0 _
 have HQb := hide (HQa.out.other (i := 0) (u := .int .i64 0) hne')
 have HBb : Hid (Below w.heap.size w ((((w1.setCell ⟨w.heap.size, 0, none⟩ (.int .i64 p.st)).setCell ⟨w.heap.size, 1, none⟩ (.slice A1 l1 c1)).setCell ⟨w.heap.size, 2, none⟩ (.slice A2 l2 c2)).setCell ⟨w.heap.size, 0, none⟩ (.int .i64 0))) := HBa.out.setCell (p := ⟨w.heap.size, 0, none⟩) (Nat.le_refl _) _
 have HSb : Hid (∀ t, t ≠ 36 → Stays t w1 ((((w1.setCell ⟨w.heap.size, 0, none⟩ (.int .i64 p.st)).setCell ⟨w.heap.size, 1, none⟩ (.slice A1 l1 c1)).setCell ⟨w.heap.size, 2, none⟩ (.slice A2 l2 c2)).setCell ⟨w.heap.size, 0, none⟩ (.int .i64 0))) := fun t ht => (HSa.out t ht).trans (Stays.put HPa.out ht)
 obtain ⟨b0_, b1_, b2_, lb⟩ := cells3 HPa.out
 have zb := HPa.out.frozen
 go_wp2
 obtain ⟨X, hX⟩ := exq (((((w1.setCell ⟨w.heap.size, 0, none⟩ (.int .i64 p.st)).setCell ⟨w.heap.size, 1, none⟩ (.slice A1 l1 c1)).setCell ⟨w.heap.size, 2, none⟩ (.slice A2 l2 c2)).setCell ⟨w.heap.size, 0, none⟩ (.int .i64 0)))
 rw [hX]
 rw [hX] at HPb HQb HBb HSb
 have HPX := hide HPb.out; have HQX := hide HQb.out; have HBX := hide HBb.out
 have HDX := hide (HD1.out.keep (HSb.out 3 (by decide)) (HSb.out 5 (by decide)))
 have HOX := hide (HO1.out.keep (HSb.out 3 (by decide)) (HSb.out 60 (by decide)))
 have hle : es.length ≤ 100000 := by have := HOw.out.nl; omega
 have hbl := brk_len p.h
 have hlx : o1 ≤ 100001 := by have := HOX.out.nl; rw [List.length_append] at this; omega
 clear HPa HQa HBa HSa HP1 HQ1 HB1 HD1 HO1 a0 a1 a2 la za HPb HQb HBb HSb b0_ b1_ b2_ lb zb
 refine rgT (fun w' => Fr X.heap.size (w.heap.size + 1) X w') (.take 2 (.take 4 (.take 5 (.take 6 (.take 0 (.two 1 (.two 3 (.alone 7 (.alone 8 (.alone 9 (.alone 10 .done)))) 7 (.alone 3 (.alone 8 (.alone 9 (.alone 10 .done))))) 7 (.alone 1 (.alone 3 (.alone 8 (.alone 9 (.alone 10 .done))))))))))) (Fr.refl.drewN 1) ?_
 iterate 4 refine stT (h := ?_)
 refine stT (hy := fun w9 hS => by obtain ⟨p0_, p1_, p2_, lp⟩ := cells3 (hS.wholeB HPX.out HPX.out.lt hne); go_simp <;> with_reducible rfl) (h := ?_)
 have Bx13 : Below X.heap.size X X.drew := (Below.refl _ _).drewN 1
 generalize X.drew = x13 at Bx13 ⊢
 refine tree_two (by simp only [List.getElem?_toArray, List.getElem?_cons_zero, List.getElem?_cons_succ]; rfl) (by simp only [List.getElem?_toArray, List.getElem?_cons_zero, List.getElem?_cons_succ]; rfl) ?_ ?_
 ·intro K hK
  go_wp2
  refine hK.out _ _ (Fr.of_below (Bx13.alloc Bx13.size _)) ?_
  clear hK K
  have HV := hide (OwnE.empty (C := 0) (te := 60) (k := .i64) x13 (Nat.zero_le _))
  have Bx14 := Bx13.alloc Bx13.size (.cells #[] 60)
  have hz : Hid (x13.heap.size < (x13.alloc (.cells #[] 60)).heap.size) := by unfold Hid; simp
  generalize x13.alloc (.cells #[] 60) = x14 at HV Bx14 hz ⊢
  refine tree_two (by simp only [List.getElem?_toArray, List.getElem?_cons_zero, List.getElem?_cons_succ]; rfl) (by simp only [List.getElem?_toArray, List.getElem?_cons_zero, List.getElem?_cons_succ]; rfl) ?_ ?_
  ·intro K hK
   refine wpList_catEg elemE (by rfl) (.tmp 43) (.tmp 44) rfl rfl rfl HV.out (HOX.out.below Bx14).e HOX.out.nl HOX.out.c0 (by simp; omega) (by omega) (by decide) ?_
   intro vx15 x15 ho hg
   rw [List.nil_append] at ho
   have Bx15 : Below X.heap.size X x15 := Bx13.trans (ho.bel.mono Bx13.size)
   obtain ⟨Ax15, nx15, cx15, rfl⟩ := ho.slice
   clear HV; have HV := hide ho; clear ho hg; go_wp2
   refine hK.out _ _ (Fr.of_below Bx15) ?_
   clear hK K
   refine alT fun K hK => ?_
   go_wp2
   refine hK.out _ _ (Fr.of_below (Bx15.alloc Bx15.size _)) ?_
   clear hK K
   have HE := hide (Whole.new x15 60 [.int .i64 2, .int .i64 26, .slice none 0 0])
   have Bx16 := Bx15.alloc Bx15.size (.cells #[.int .i64 2, .int .i64 26, .slice none 0 0] 60)
   replace HV := hide (HV.out.alloc (.cells #[.int .i64 2, .int .i64 26, .slice none 0 0] 60))
   generalize x15.alloc (.cells #[.int .i64 2, .int .i64 26, .slice none 0 0] 60) = x16 at HE Bx16 HV ⊢
   refine alT fun K hK => ?_
   refine wpList_catE elemE (by rfl) (.tmp 45) (.tmp 49) rfl rfl rfl HV.out (Evs.one (ns := []) HE.out rfl .nil) rfl (fun h => by cases h) (by rw [HOX.out.nl]; omega) (by omega) (by decide) ?_
   intro vx17 x17 ho _ _
   have Bx17 : Below X.heap.size X x17 := Bx13.trans (ho.bel.mono Bx13.size)
   obtain ⟨A9, n9, c9, rfl, hev⟩ := ho.evo
   have HEV := hide hev; clear ho hev HV HE; go_wp2
   refine hK.out _ _ (Fr.of_below Bx17) ?_
   clear hK K
   refine alT fun K hK => ?_
   obtain ⟨t0, t1, t2, lt3⟩ := cells3 (HQX.out.later Bx17)
   have zt := (HQX.out.later Bx17).frozen
   go_wp2
   refine hK.out _ _ ((Fr.of_below Bx17).trans (((Fr.put 0 _).trans (Fr.put 1 _)).trans (Fr.put 2 _))) ?_
   clear hK K
   refine alT fun K hK => ?_
   go_wp2
   refine hK.out _ _ ((Fr.of_below Bx17).trans (((Fr.put 0 _).trans (Fr.put 1 _)).trans (Fr.put 2 _))) ?_
   clear hK K
   refine tree_done ?_
   go_wp2
   refine retP2 Tryz.results89 rfl rfl rfl (put3 (HQX.out.later Bx17) _ _ _) ?_
   have hst : ∀ t, t ≠ 36 → Stays t x17 _ := fun t ht => stays_put3 (HQX.out.later Bx17) ht (.int .i64 0) (.slice A1 l1 c1) (.slice A2 l2 c2)
   have hd := (HDX.out.below Bx17).keep (hst 3 (by decide)) (hst 5 (by decide))
   refine ⟨A1, l1, c1, A2, l2, c2, A9, n9, c9, rfl, ⟨hd.n, hd.h, hd.nl, hd.hl, hd.c0, hd.c1, hd.c2, hd.d0⟩, ?_, below_put3 (HBX.out.trans (Bx17.mono HBX.out.size)) (by omega) _ _ _⟩
   rw [← List.append_assoc]
   exact HEV.out.keep (hst 3 (by decide)) (hst 60 (by decide))
  ·intro K hK
   go_wp2
   refine hK.out _ _ (Fr.of_below (Bx14.alloc Bx14.size _)) ?_
   clear hK K
   have HE := hide (Whole.new x14 60 [.int .i64 2, .int .i64 26, .slice none 0 0])
   have Bx18 := Bx14.alloc Bx14.size (.cells #[.int .i64 2, .int .i64 26, .slice none 0 0] 60)
   replace HV := hide (HV.out.alloc (.cells #[.int .i64 2, .int .i64 26, .slice none 0 0] 60))
   generalize x14.alloc (.cells #[.int .i64 2, .int .i64 26, .slice none 0 0] 60) = x18 at HE Bx18 HV ⊢
   refine alT fun K hK => ?_
   refine wpList_catEg elemE (by rfl) (.tmp 43) (.tmp 44) rfl rfl rfl HV.out (HOX.out.below Bx18).e HOX.out.nl HOX.out.c0 (by simp; omega) (by omega) (by decide) ?_
   intro vx19 x19 ho hg
   rw [List.nil_append] at ho
   have Bx19 : Below X.heap.size X x19 := Bx13.trans (ho.bel.mono Bx13.size)
   replace HE := hide (HE.out.far (g' := x13.heap.size) hg (by have := hz.out; omega))
   obtain ⟨Ax19, nx19, cx19, rfl⟩ := ho.slice
   clear HV; have HV := hide ho; clear ho hg; go_wp2
   refine hK.out _ _ (Fr.of_below Bx19) ?_
   clear hK K
   refine alT fun K hK => ?_
   refine wpList_catE elemE (by rfl) (.tmp 45) (.tmp 49) rfl rfl rfl HV.out (Evs.one (ns := []) HE.out rfl .nil) rfl (fun h => by cases h) (by rw [HOX.out.nl]; omega) (by omega) (by decide) ?_
   intro vx20 x20 ho _ _
   have Bx20 : Below X.heap.size X x20 := Bx13.trans (ho.bel.mono Bx13.size)
   obtain ⟨A9, n9, c9, rfl, hev⟩ := ho.evo
   have HEV := hide hev; clear ho hev HV HE; go_wp2
   refine hK.out _ _ (Fr.of_below Bx20) ?_
   clear hK K
   refine alT fun K hK => ?_
   obtain ⟨t0, t1, t2, lt3⟩ := cells3 (HQX.out.later Bx20)
   have zt := (HQX.out.later Bx20).frozen
   go_wp2
   refine hK.out _ _ ((Fr.of_below Bx20).trans (((Fr.put 0 _).trans (Fr.put 1 _)).trans (Fr.put 2 _))) ?_
   clear hK K
   refine alT fun K hK => ?_
   go_wp2
   refine hK.out _ _ ((Fr.of_below Bx20).trans (((Fr.put 0 _).trans (Fr.put 1 _)).trans (Fr.put 2 _))) ?_
   clear hK K
   refine tree_done ?_
   go_wp2
   refine retP2 Tryz.results89 rfl rfl rfl (put3 (HQX.out.later Bx20) _ _ _) ?_
   have hst : ∀ t, t ≠ 36 → Stays t x20 _ := fun t ht => stays_put3 (HQX.out.later Bx20) ht (.int .i64 0) (.slice A1 l1 c1) (.slice A2 l2 c2)
   have hd := (HDX.out.below Bx20).keep (hst 3 (by decide)) (hst 5 (by decide))
   refine ⟨A1, l1, c1, A2, l2, c2, A9, n9, c9, rfl, ⟨hd.n, hd.h, hd.nl, hd.hl, hd.c0, hd.c1, hd.c2, hd.d0⟩, ?_, below_put3 (HBX.out.trans (Bx20.mono HBX.out.size)) (by omega) _ _ _⟩
   rw [← List.append_assoc]
   exact HEV.out.keep (hst 3 (by decide)) (hst 60 (by decide))
 ·intro K hK
  go_wp2
  refine hK.out _ _ (Fr.of_below (Bx13.alloc Bx13.size _)) ?_
  clear hK K
  have HE := hide (Whole.new x13 60 [.int .i64 2, .int .i64 26, .slice none 0 0])
  have Bx21 := Bx13.alloc Bx13.size (.cells #[.int .i64 2, .int .i64 26, .slice none 0 0] 60)
  have hz : Hid (x13.heap.size < (x13.alloc (.cells #[.int .i64 2, .int .i64 26, .slice none 0 0] 60)).heap.size) := by unfold Hid; simp
  generalize x13.alloc (.cells #[.int .i64 2, .int .i64 26, .slice none 0 0] 60) = x21 at HE Bx21 hz ⊢
  refine alT fun K hK => ?_
  go_wp2
  refine hK.out _ _ (Fr.of_below (Bx21.alloc Bx21.size _)) ?_
  clear hK K
  have HV := hide (OwnE.empty (C := 0) (te := 60) (k := .i64) x21 (Nat.zero_le _))
  have Bx22 := Bx21.alloc Bx21.size (.cells #[] 60)
  replace HE := hide (HE.out.alloc (.cells #[] 60))
  generalize x21.alloc (.cells #[] 60) = x22 at HV Bx22 HE ⊢
  refine alT fun K hK => ?_
  refine wpList_catEg elemE (by rfl) (.tmp 43) (.tmp 44) rfl rfl rfl HV.out (HOX.out.below Bx22).e HOX.out.nl HOX.out.c0 (by simp; omega) (by omega) (by decide) ?_
  intro vx23 x23 ho hg
  rw [List.nil_append] at ho
  have Bx23 : Below X.heap.size X x23 := Bx21.trans (ho.bel.mono Bx21.size)
  replace HE := hide (HE.out.far (g' := x21.heap.size) hg (by have := hz.out; omega))
  obtain ⟨Ax23, nx23, cx23, rfl⟩ := ho.slice
  clear HV; have HV := hide ho; clear ho hg; go_wp2
  refine hK.out _ _ (Fr.of_below Bx23) ?_
  clear hK K
  refine alT fun K hK => ?_
  refine wpList_catE elemE (by rfl) (.tmp 45) (.tmp 49) rfl rfl rfl HV.out (Evs.one (ns := []) HE.out rfl .nil) rfl (fun h => by cases h) (by rw [HOX.out.nl]; omega) (by omega) (by decide) ?_
  intro vx24 x24 ho _ _
  have Bx24 : Below X.heap.size X x24 := Bx21.trans (ho.bel.mono Bx21.size)
  obtain ⟨A9, n9, c9, rfl, hev⟩ := ho.evo
  have HEV := hide hev; clear ho hev HV HE; go_wp2
  refine hK.out _ _ (Fr.of_below Bx24) ?_
  clear hK K
  refine alT fun K hK => ?_
  obtain ⟨t0, t1, t2, lt3⟩ := cells3 (HQX.out.later Bx24)
  have zt := (HQX.out.later Bx24).frozen
  go_wp2
  refine hK.out _ _ ((Fr.of_below Bx24).trans (((Fr.put 0 _).trans (Fr.put 1 _)).trans (Fr.put 2 _))) ?_
  clear hK K
  refine alT fun K hK => ?_
  go_wp2
  refine hK.out _ _ ((Fr.of_below Bx24).trans (((Fr.put 0 _).trans (Fr.put 1 _)).trans (Fr.put 2 _))) ?_
  clear hK K
  refine tree_done ?_
  go_wp2
  refine retP2 Tryz.results89 rfl rfl rfl (put3 (HQX.out.later Bx24) _ _ _) ?_
  have hst : ∀ t, t ≠ 36 → Stays t x24 _ := fun t ht => stays_put3 (HQX.out.later Bx24) ht (.int .i64 0) (.slice A1 l1 c1) (.slice A2 l2 c2)
  have hd := (HDX.out.below Bx24).keep (hst 3 (by decide)) (hst 5 (by decide))
  refine ⟨A1, l1, c1, A2, l2, c2, A9, n9, c9, rfl, ⟨hd.n, hd.h, hd.nl, hd.hl, hd.c0, hd.c1, hd.c2, hd.d0⟩, ?_, below_put3 (HBX.out.trans (Bx24.mono HBX.out.size)) (by omega) _ _ _⟩
  rw [← List.append_assoc]
  exact HEV.out.keep (hst 3 (by decide)) (hst 60 (by decide))
theorem rpstep_2 (p : Ps) (hok : PsOk p) (A : Option Addr) (ln c : Nat) (A' : Option Addr) (lh c' : Nat) (es : List Ev) (Ao : Option Addr) (no co : Nat) (w : World) (hp : Dp w p A ln c A' lh c') (ho : Evo w es Ao no co) (hl : no ≤ 100000) (hln : ln ≤ 10000) (b : Int) (b0 : 0 ≤ b) (b1 : b ≤ 255) (hb : b = 127) :
  Calls Tryz.prog 89 #[.agg #[.int .i64 p.st, .slice A ln c, .slice A' lh c'], .slice Ao no co, .int .u8 b] w (DGave w (stepP p b).1 (es ++ (stepP p b).2)) := by
 obtain ⟨W0, hW0⟩ := exq ((w.alloc (.cells #[.int .i64 p.st, .slice A ln c, .slice A' lh c'] 36)).alloc (.cells #[.int .i64 0, .slice none 0 0, .slice none 0 0] 36))
 have HB0 : Hid (Below w.heap.size w W0) := by unfold Hid; rw [← hW0]; exact two_new _ _ _ _ _
 have HP0 : Hid (Whole W0 w.heap.size 36 [.int .i64 p.st, .slice A ln c, .slice A' lh c']) := by unfold Hid; rw [← hW0]; exact (Whole.new _ _ _).alloc _
 have HQ0 : Hid (Whole W0 (w.heap.size + 1) 36 [.int .i64 0, .slice none 0 0, .slice none 0 0]) := by unfold Hid; rw [← hW0]; exact whole_snd _ _ _ _
 have HSZ : Hid (w.heap.size + 1 + 1 = W0.heap.size) := by unfold Hid; rw [← hW0]; simp
 have HDw := hide hp; have HOw := hide ho
 have HD := hide (hp.below HB0.out)
 have HO := hide (ho.below HB0.out)
 have HW0 := hide hW0; clear hW0 hp ho
 have hne : ¬ w.heap.size = w.heap.size + 1 := by omega
 have hne' : ¬ w.heap.size + 1 = w.heap.size := by omega
 subst hb
 rw [step_ctl (p := p) (b := 127) (by omega) (by omega) (by omega) (by omega)]
 go_enter Tryz.func89, Tryz.ntmps89
 go_wp2_with fail
 rw [HW0.out]
 refine (rpflush1_any p A ln c A' lh c' es Ao no co W0 HD.out HO.out hl).mono ?_
 rintro e w1 ⟨A1, l1, c1, A2, l2, c2, O1, o1, k1, rfl, hd, ho, hb⟩
 have HP1 := hide (HP0.out.later hb)
 have HQ1 := hide (HQ0.out.later hb)
 have HB1 := hide (HB0.out.trans (hb.mono HB0.out.size))
 have HD1 := hide hd; have HO1 := hide ho; clear hd ho hb
 have HPa : Hid (Whole (((w1.setCell ⟨w.heap.size, 0, none⟩ (.int .i64 p.st)).setCell ⟨w.heap.size, 1, none⟩ (.slice A1 l1 c1)).setCell ⟨w.heap.size, 2, none⟩ (.slice A2 l2 c2)) w.heap.size 36 [.int .i64 p.st, .slice A1 l1 c1, .slice A2 l2 c2]) := put3 HP1.out _ _ _
 have HQa : Hid (Whole (((w1.setCell ⟨w.heap.size, 0, none⟩ (.int .i64 p.st)).setCell ⟨w.heap.size, 1, none⟩ (.slice A1 l1 c1)).setCell ⟨w.heap.size, 2, none⟩ (.slice A2 l2 c2)) (w.heap.size + 1) 36 [.int .i64 0, .slice none 0 0, .slice none 0 0]) := ((HQ1.out.other hne').other hne').other hne'
 have HBa : Hid (Below w.heap.size w (((w1.setCell ⟨w.heap.size, 0, none⟩ (.int .i64 p.st)).setCell ⟨w.heap.size, 1, none⟩ (.slice A1 l1 c1)).setCell ⟨w.heap.size, 2, none⟩ (.slice A2 l2 c2))) := below_put3 HB1.out (Nat.le_refl _) _ _ _
 have HSa : Hid (∀ t, t ≠ 36 → Stays t w1 (((w1.setCell ⟨w.heap.size, 0, none⟩ (.int .i64 p.st)).setCell ⟨w.heap.size, 1, none⟩ (.slice A1 l1 c1)).setCell ⟨w.heap.size, 2, none⟩ (.slice A2 l2 c2))) := fun t ht => stays_put3 HP1.out ht _ _ _
 obtain ⟨a0, a1, a2, la⟩ := cells3 HP1.out
 have za := HP1.out.frozen
 go_wp2
 obtain ⟨X, hX⟩ := exq ((((w1.setCell ⟨w.heap.size, 0, none⟩ (.int .i64 p.st)).setCell ⟨w.heap.size, 1, none⟩ (.slice A1 l1 c1)).setCell ⟨w.heap.size, 2, none⟩ (.slice A2 l2 c2)))
 rw [hX]
 rw [hX] at HPa HQa HBa HSa
 have HPX := hide HPa.out; have HQX := hide HQa.out; have HBX := hide HBa.out
 have HDX := hide (HD1.out.keep (HSa.out 3 (by decide)) (HSa.out 5 (by decide)))
 have HOX := hide (HO1.out.keep (HSa.out 3 (by decide)) (HSa.out 60 (by decide)))
 have hle : es.length ≤ 100000 := by have := HOw.out.nl; omega
 have hbl := brk_len p.h
 have hlx : o1 ≤ 100001 := by have := HOX.out.nl; rw [List.length_append] at this; omega
 clear HPa HQa HBa HSa HP1 HQ1 HB1 HD1 HO1 a0 a1 a2 la za
 refine rgT (fun w' => Fr X.heap.size (w.heap.size + 1) X w') (.take 2 (.take 4 (.take 5 (.take 6 (.take 0 (.two 1 (.two 3 (.alone 7 (.alone 8 (.alone 9 (.alone 10 .done)))) 7 (.alone 3 (.alone 8 (.alone 9 (.alone 10 .done))))) 7 (.alone 1 (.alone 3 (.alone 8 (.alone 9 (.alone 10 .done))))))))))) (Fr.refl.drewN 1) ?_
 iterate 4 refine stT (h := ?_)
 refine stT (hy := fun w9 hS => by obtain ⟨p0_, p1_, p2_, lp⟩ := cells3 (hS.wholeB HPX.out HPX.out.lt hne); go_simp <;> with_reducible rfl) (h := ?_)
 have Bx25 : Below X.heap.size X X.drew := (Below.refl _ _).drewN 1
 generalize X.drew = x25 at Bx25 ⊢
 refine tree_two (by simp only [List.getElem?_toArray, List.getElem?_cons_zero, List.getElem?_cons_succ]; rfl) (by simp only [List.getElem?_toArray, List.getElem?_cons_zero, List.getElem?_cons_succ]; rfl) ?_ ?_
 ·intro K hK
  go_wp2
  refine hK.out _ _ (Fr.of_below (Bx25.alloc Bx25.size _)) ?_
  clear hK K
  have HV := hide (OwnE.empty (C := 0) (te := 60) (k := .i64) x25 (Nat.zero_le _))
  have Bx26 := Bx25.alloc Bx25.size (.cells #[] 60)
  have hz : Hid (x25.heap.size < (x25.alloc (.cells #[] 60)).heap.size) := by unfold Hid; simp
  generalize x25.alloc (.cells #[] 60) = x26 at HV Bx26 hz ⊢
  refine tree_two (by simp only [List.getElem?_toArray, List.getElem?_cons_zero, List.getElem?_cons_succ]; rfl) (by simp only [List.getElem?_toArray, List.getElem?_cons_zero, List.getElem?_cons_succ]; rfl) ?_ ?_
  ·intro K hK
   refine wpList_catEg elemE (by rfl) (.tmp 43) (.tmp 44) rfl rfl rfl HV.out (HOX.out.below Bx26).e HOX.out.nl HOX.out.c0 (by simp; omega) (by omega) (by decide) ?_
   intro vx27 x27 ho hg
   rw [List.nil_append] at ho
   have Bx27 : Below X.heap.size X x27 := Bx25.trans (ho.bel.mono Bx25.size)
   obtain ⟨Ax27, nx27, cx27, rfl⟩ := ho.slice
   clear HV; have HV := hide ho; clear ho hg; go_wp2
   refine hK.out _ _ (Fr.of_below Bx27) ?_
   clear hK K
   refine alT fun K hK => ?_
   go_wp2
   refine hK.out _ _ (Fr.of_below (Bx27.alloc Bx27.size _)) ?_
   clear hK K
   have HE := hide (Whole.new x27 60 [.int .i64 2, .int .i64 127, .slice none 0 0])
   have Bx28 := Bx27.alloc Bx27.size (.cells #[.int .i64 2, .int .i64 127, .slice none 0 0] 60)
   replace HV := hide (HV.out.alloc (.cells #[.int .i64 2, .int .i64 127, .slice none 0 0] 60))
   generalize x27.alloc (.cells #[.int .i64 2, .int .i64 127, .slice none 0 0] 60) = x28 at HE Bx28 HV ⊢
   refine alT fun K hK => ?_
   refine wpList_catE elemE (by rfl) (.tmp 45) (.tmp 49) rfl rfl rfl HV.out (Evs.one (ns := []) HE.out rfl .nil) rfl (fun h => by cases h) (by rw [HOX.out.nl]; omega) (by omega) (by decide) ?_
   intro vx29 x29 ho _ _
   have Bx29 : Below X.heap.size X x29 := Bx25.trans (ho.bel.mono Bx25.size)
   obtain ⟨A9, n9, c9, rfl, hev⟩ := ho.evo
   have HEV := hide hev; clear ho hev HV HE; go_wp2
   refine hK.out _ _ (Fr.of_below Bx29) ?_
   clear hK K
   refine alT fun K hK => ?_
   obtain ⟨t0, t1, t2, lt3⟩ := cells3 (HQX.out.later Bx29)
   have zt := (HQX.out.later Bx29).frozen
   go_wp2
   refine hK.out _ _ ((Fr.of_below Bx29).trans (((Fr.put 0 _).trans (Fr.put 1 _)).trans (Fr.put 2 _))) ?_
   clear hK K
   refine alT fun K hK => ?_
   go_wp2
   refine hK.out _ _ ((Fr.of_below Bx29).trans (((Fr.put 0 _).trans (Fr.put 1 _)).trans (Fr.put 2 _))) ?_
   clear hK K
   refine tree_done ?_
   go_wp2
   refine retP2 Tryz.results89 rfl rfl rfl (put3 (HQX.out.later Bx29) _ _ _) ?_
   have hst : ∀ t, t ≠ 36 → Stays t x29 _ := fun t ht => stays_put3 (HQX.out.later Bx29) ht (.int .i64 p.st) (.slice A1 l1 c1) (.slice A2 l2 c2)
   have hd := (HDX.out.below Bx29).keep (hst 3 (by decide)) (hst 5 (by decide))
   refine ⟨A1, l1, c1, A2, l2, c2, A9, n9, c9, rfl, ⟨hd.n, hd.h, hd.nl, hd.hl, hd.c0, hd.c1, hd.c2, hd.d0⟩, ?_, below_put3 (HBX.out.trans (Bx29.mono HBX.out.size)) (by omega) _ _ _⟩
   rw [← List.append_assoc]
   exact HEV.out.keep (hst 3 (by decide)) (hst 60 (by decide))
  ·intro K hK
   go_wp2
   refine hK.out _ _ (Fr.of_below (Bx26.alloc Bx26.size _)) ?_
   clear hK K
   have HE := hide (Whole.new x26 60 [.int .i64 2, .int .i64 127, .slice none 0 0])
   have Bx30 := Bx26.alloc Bx26.size (.cells #[.int .i64 2, .int .i64 127, .slice none 0 0] 60)
   replace HV := hide (HV.out.alloc (.cells #[.int .i64 2, .int .i64 127, .slice none 0 0] 60))
   generalize x26.alloc (.cells #[.int .i64 2, .int .i64 127, .slice none 0 0] 60) = x30 at HE Bx30 HV ⊢
   refine alT fun K hK => ?_
   refine wpList_catEg elemE (by rfl) (.tmp 43) (.tmp 44) rfl rfl rfl HV.out (HOX.out.below Bx30).e HOX.out.nl HOX.out.c0 (by simp; omega) (by omega) (by decide) ?_
   intro vx31 x31 ho hg
   rw [List.nil_append] at ho
   have Bx31 : Below X.heap.size X x31 := Bx25.trans (ho.bel.mono Bx25.size)
   replace HE := hide (HE.out.far (g' := x25.heap.size) hg (by have := hz.out; omega))
   obtain ⟨Ax31, nx31, cx31, rfl⟩ := ho.slice
   clear HV; have HV := hide ho; clear ho hg; go_wp2
   refine hK.out _ _ (Fr.of_below Bx31) ?_
   clear hK K
   refine alT fun K hK => ?_
   refine wpList_catE elemE (by rfl) (.tmp 45) (.tmp 49) rfl rfl rfl HV.out (Evs.one (ns := []) HE.out rfl .nil) rfl (fun h => by cases h) (by rw [HOX.out.nl]; omega) (by omega) (by decide) ?_
   intro vx32 x32 ho _ _
   have Bx32 : Below X.heap.size X x32 := Bx25.trans (ho.bel.mono Bx25.size)
   obtain ⟨A9, n9, c9, rfl, hev⟩ := ho.evo
   have HEV := hide hev; clear ho hev HV HE; go_wp2
   refine hK.out _ _ (Fr.of_below Bx32) ?_
   clear hK K
   refine alT fun K hK => ?_
   obtain ⟨t0, t1, t2, lt3⟩ := cells3 (HQX.out.later Bx32)
   have zt := (HQX.out.later Bx32).frozen
   go_wp2
   refine hK.out _ _ ((Fr.of_below Bx32).trans (((Fr.put 0 _).trans (Fr.put 1 _)).trans (Fr.put 2 _))) ?_
   clear hK K
   refine alT fun K hK => ?_
   go_wp2
   refine hK.out _ _ ((Fr.of_below Bx32).trans (((Fr.put 0 _).trans (Fr.put 1 _)).trans (Fr.put 2 _))) ?_
   clear hK K
   refine tree_done ?_
   go_wp2
   refine retP2 Tryz.results89 rfl rfl rfl (put3 (HQX.out.later Bx32) _ _ _) ?_
   have hst : ∀ t, t ≠ 36 → Stays t x32 _ := fun t ht => stays_put3 (HQX.out.later Bx32) ht (.int .i64 p.st) (.slice A1 l1 c1) (.slice A2 l2 c2)
   have hd := (HDX.out.below Bx32).keep (hst 3 (by decide)) (hst 5 (by decide))
   refine ⟨A1, l1, c1, A2, l2, c2, A9, n9, c9, rfl, ⟨hd.n, hd.h, hd.nl, hd.hl, hd.c0, hd.c1, hd.c2, hd.d0⟩, ?_, below_put3 (HBX.out.trans (Bx32.mono HBX.out.size)) (by omega) _ _ _⟩
   rw [← List.append_assoc]
   exact HEV.out.keep (hst 3 (by decide)) (hst 60 (by decide))
 ·intro K hK
  go_wp2
  refine hK.out _ _ (Fr.of_below (Bx25.alloc Bx25.size _)) ?_
  clear hK K
  have HE := hide (Whole.new x25 60 [.int .i64 2, .int .i64 127, .slice none 0 0])
  have Bx33 := Bx25.alloc Bx25.size (.cells #[.int .i64 2, .int .i64 127, .slice none 0 0] 60)
  have hz : Hid (x25.heap.size < (x25.alloc (.cells #[.int .i64 2, .int .i64 127, .slice none 0 0] 60)).heap.size) := by unfold Hid; simp
  generalize x25.alloc (.cells #[.int .i64 2, .int .i64 127, .slice none 0 0] 60) = x33 at HE Bx33 hz ⊢
  refine alT fun K hK => ?_
  go_wp2
  refine hK.out _ _ (Fr.of_below (Bx33.alloc Bx33.size _)) ?_
  clear hK K
  have HV := hide (OwnE.empty (C := 0) (te := 60) (k := .i64) x33 (Nat.zero_le _))
  have Bx34 := Bx33.alloc Bx33.size (.cells #[] 60)
  replace HE := hide (HE.out.alloc (.cells #[] 60))
  generalize x33.alloc (.cells #[] 60) = x34 at HV Bx34 HE ⊢
  refine alT fun K hK => ?_
  refine wpList_catEg elemE (by rfl) (.tmp 43) (.tmp 44) rfl rfl rfl HV.out (HOX.out.below Bx34).e HOX.out.nl HOX.out.c0 (by simp; omega) (by omega) (by decide) ?_
  intro vx35 x35 ho hg
  rw [List.nil_append] at ho
  have Bx35 : Below X.heap.size X x35 := Bx33.trans (ho.bel.mono Bx33.size)
  replace HE := hide (HE.out.far (g' := x33.heap.size) hg (by have := hz.out; omega))
  obtain ⟨Ax35, nx35, cx35, rfl⟩ := ho.slice
  clear HV; have HV := hide ho; clear ho hg; go_wp2
  refine hK.out _ _ (Fr.of_below Bx35) ?_
  clear hK K
  refine alT fun K hK => ?_
  refine wpList_catE elemE (by rfl) (.tmp 45) (.tmp 49) rfl rfl rfl HV.out (Evs.one (ns := []) HE.out rfl .nil) rfl (fun h => by cases h) (by rw [HOX.out.nl]; omega) (by omega) (by decide) ?_
  intro vx36 x36 ho _ _
  have Bx36 : Below X.heap.size X x36 := Bx33.trans (ho.bel.mono Bx33.size)
  obtain ⟨A9, n9, c9, rfl, hev⟩ := ho.evo
  have HEV := hide hev; clear ho hev HV HE; go_wp2
  refine hK.out _ _ (Fr.of_below Bx36) ?_
  clear hK K
  refine alT fun K hK => ?_
  obtain ⟨t0, t1, t2, lt3⟩ := cells3 (HQX.out.later Bx36)
  have zt := (HQX.out.later Bx36).frozen
  go_wp2
  refine hK.out _ _ ((Fr.of_below Bx36).trans (((Fr.put 0 _).trans (Fr.put 1 _)).trans (Fr.put 2 _))) ?_
  clear hK K
  refine alT fun K hK => ?_
  go_wp2
  refine hK.out _ _ ((Fr.of_below Bx36).trans (((Fr.put 0 _).trans (Fr.put 1 _)).trans (Fr.put 2 _))) ?_
  clear hK K
  refine tree_done ?_
  go_wp2
  refine retP2 Tryz.results89 rfl rfl rfl (put3 (HQX.out.later Bx36) _ _ _) ?_
  have hst : ∀ t, t ≠ 36 → Stays t x36 _ := fun t ht => stays_put3 (HQX.out.later Bx36) ht (.int .i64 p.st) (.slice A1 l1 c1) (.slice A2 l2 c2)
  have hd := (HDX.out.below Bx36).keep (hst 3 (by decide)) (hst 5 (by decide))
  refine ⟨A1, l1, c1, A2, l2, c2, A9, n9, c9, rfl, ⟨hd.n, hd.h, hd.nl, hd.hl, hd.c0, hd.c1, hd.c2, hd.d0⟩, ?_, below_put3 (HBX.out.trans (Bx36.mono HBX.out.size)) (by omega) _ _ _⟩
  rw [← List.append_assoc]
  exact HEV.out.keep (hst 3 (by decide)) (hst 60 (by decide))
theorem rpstep_3 (p : Ps) (hok : PsOk p) (A : Option Addr) (ln c : Nat) (A' : Option Addr) (lh c' : Nat) (es : List Ev) (Ao : Option Addr) (no co : Nat) (w : World) (hp : Dp w p A ln c A' lh c') (ho : Evo w es Ao no co) (hl : no ≤ 100000) (hln : ln ≤ 10000) (b : Int) (b0 : 0 ≤ b) (b1 : b ≤ 255) (hb : b < 32 ∧ b ≠ 24 ∧ b ≠ 26 ∧ b ≠ 27) :
  Calls Tryz.prog 89 #[.agg #[.int .i64 p.st, .slice A ln c, .slice A' lh c'], .slice Ao no co, .int .u8 b] w (DGave w (stepP p b).1 (es ++ (stepP p b).2)) := by
 obtain ⟨W0, hW0⟩ := exq ((w.alloc (.cells #[.int .i64 p.st, .slice A ln c, .slice A' lh c'] 36)).alloc (.cells #[.int .i64 0, .slice none 0 0, .slice none 0 0] 36))
 have HB0 : Hid (Below w.heap.size w W0) := by unfold Hid; rw [← hW0]; exact two_new _ _ _ _ _
 have HP0 : Hid (Whole W0 w.heap.size 36 [.int .i64 p.st, .slice A ln c, .slice A' lh c']) := by unfold Hid; rw [← hW0]; exact (Whole.new _ _ _).alloc _
 have HQ0 : Hid (Whole W0 (w.heap.size + 1) 36 [.int .i64 0, .slice none 0 0, .slice none 0 0]) := by unfold Hid; rw [← hW0]; exact whole_snd _ _ _ _
 have HSZ : Hid (w.heap.size + 1 + 1 = W0.heap.size) := by unfold Hid; rw [← hW0]; simp
 have HDw := hide hp; have HOw := hide ho
 have HD := hide (hp.below HB0.out)
 have HO := hide (ho.below HB0.out)
 have HW0 := hide hW0; clear hW0 hp ho
 have hne : ¬ w.heap.size = w.heap.size + 1 := by omega
 have hne' : ¬ w.heap.size + 1 = w.heap.size := by omega
 obtain ⟨h32, n24, n26, n27⟩ := hb
 have h24 : (b == 24) = false := by simp; omega
 have h26 : (b == 26) = false := by simp; omega
 have h27 : (b == 27) = false := by simp; omega
 have n27b : (b != 27) = true := by simp; omega
 rw [step_ctl (p := p) (b := b) n24 n26 n27 (by omega)]
 go_enter Tryz.func89, Tryz.ntmps89
 go_wp2_with fail
 rw [HW0.out]
 refine (rpflush1_any p A ln c A' lh c' es Ao no co W0 HD.out HO.out hl).mono ?_
 rintro e w1 ⟨A1, l1, c1, A2, l2, c2, O1, o1, k1, rfl, hd, ho, hb⟩
 have HP1 := hide (HP0.out.later hb)
 have HQ1 := hide (HQ0.out.later hb)
 have HB1 := hide (HB0.out.trans (hb.mono HB0.out.size))
 have HD1 := hide hd; have HO1 := hide ho; clear hd ho hb
 have HPa : Hid (Whole (((w1.setCell ⟨w.heap.size, 0, none⟩ (.int .i64 p.st)).setCell ⟨w.heap.size, 1, none⟩ (.slice A1 l1 c1)).setCell ⟨w.heap.size, 2, none⟩ (.slice A2 l2 c2)) w.heap.size 36 [.int .i64 p.st, .slice A1 l1 c1, .slice A2 l2 c2]) := put3 HP1.out _ _ _
 have HQa : Hid (Whole (((w1.setCell ⟨w.heap.size, 0, none⟩ (.int .i64 p.st)).setCell ⟨w.heap.size, 1, none⟩ (.slice A1 l1 c1)).setCell ⟨w.heap.size, 2, none⟩ (.slice A2 l2 c2)) (w.heap.size + 1) 36 [.int .i64 0, .slice none 0 0, .slice none 0 0]) := ((HQ1.out.other hne').other hne').other hne'
 have HBa : Hid (Below w.heap.size w (((w1.setCell ⟨w.heap.size, 0, none⟩ (.int .i64 p.st)).setCell ⟨w.heap.size, 1, none⟩ (.slice A1 l1 c1)).setCell ⟨w.heap.size, 2, none⟩ (.slice A2 l2 c2))) := below_put3 HB1.out (Nat.le_refl _) _ _ _
 have HSa : Hid (∀ t, t ≠ 36 → Stays t w1 (((w1.setCell ⟨w.heap.size, 0, none⟩ (.int .i64 p.st)).setCell ⟨w.heap.size, 1, none⟩ (.slice A1 l1 c1)).setCell ⟨w.heap.size, 2, none⟩ (.slice A2 l2 c2))) := fun t ht => stays_put3 HP1.out ht _ _ _
 obtain ⟨a0, a1, a2, la⟩ := cells3 HP1.out
 have za := HP1.out.frozen
 go_wp2
 obtain ⟨X, hX⟩ := exq ((((w1.setCell ⟨w.heap.size, 0, none⟩ (.int .i64 p.st)).setCell ⟨w.heap.size, 1, none⟩ (.slice A1 l1 c1)).setCell ⟨w.heap.size, 2, none⟩ (.slice A2 l2 c2)))
 rw [hX]
 rw [hX] at HPa HQa HBa HSa
 have HPX := hide HPa.out; have HQX := hide HQa.out; have HBX := hide HBa.out
 have HDX := hide (HD1.out.keep (HSa.out 3 (by decide)) (HSa.out 5 (by decide)))
 have HOX := hide (HO1.out.keep (HSa.out 3 (by decide)) (HSa.out 60 (by decide)))
 have hle : es.length ≤ 100000 := by have := HOw.out.nl; omega
 have hbl := brk_len p.h
 have hlx : o1 ≤ 100001 := by have := HOX.out.nl; rw [List.length_append] at this; omega
 clear HPa HQa HBa HSa HP1 HQ1 HB1 HD1 HO1 a0 a1 a2 la za
 refine rgT (fun w' => Fr X.heap.size (w.heap.size + 1) X w') (.take 2 (.take 4 (.take 5 (.take 6 (.take 0 (.two 1 (.two 3 (.alone 7 (.alone 8 (.alone 9 (.alone 10 .done)))) 7 (.alone 3 (.alone 8 (.alone 9 (.alone 10 .done))))) 7 (.alone 1 (.alone 3 (.alone 8 (.alone 9 (.alone 10 .done))))))))))) (Fr.refl.drewN 1) ?_
 iterate 4 refine stT (h := ?_)
 refine stT (hy := fun w9 hS => by obtain ⟨p0_, p1_, p2_, lp⟩ := cells3 (hS.wholeB HPX.out HPX.out.lt hne); go_simp <;> with_reducible rfl) (h := ?_)
 have Bx37 : Below X.heap.size X X.drew := (Below.refl _ _).drewN 1
 generalize X.drew = x37 at Bx37 ⊢
 refine tree_two (by simp only [List.getElem?_toArray, List.getElem?_cons_zero, List.getElem?_cons_succ]; rfl) (by simp only [List.getElem?_toArray, List.getElem?_cons_zero, List.getElem?_cons_succ]; rfl) ?_ ?_
 ·intro K hK
  go_wp2
  refine hK.out _ _ (Fr.of_below (Bx37.alloc Bx37.size _)) ?_
  clear hK K
  have HV := hide (OwnE.empty (C := 0) (te := 60) (k := .i64) x37 (Nat.zero_le _))
  have Bx38 := Bx37.alloc Bx37.size (.cells #[] 60)
  have hz : Hid (x37.heap.size < (x37.alloc (.cells #[] 60)).heap.size) := by unfold Hid; simp
  generalize x37.alloc (.cells #[] 60) = x38 at HV Bx38 hz ⊢
  refine tree_two (by simp only [List.getElem?_toArray, List.getElem?_cons_zero, List.getElem?_cons_succ]; rfl) (by simp only [List.getElem?_toArray, List.getElem?_cons_zero, List.getElem?_cons_succ]; rfl) ?_ ?_
  ·intro K hK
   refine wpList_catEg elemE (by rfl) (.tmp 43) (.tmp 44) rfl rfl rfl HV.out (HOX.out.below Bx38).e HOX.out.nl HOX.out.c0 (by simp; omega) (by omega) (by decide) ?_
   intro vx39 x39 ho hg
   rw [List.nil_append] at ho
   have Bx39 : Below X.heap.size X x39 := Bx37.trans (ho.bel.mono Bx37.size)
   obtain ⟨Ax39, nx39, cx39, rfl⟩ := ho.slice
   clear HV; have HV := hide ho; clear ho hg; go_wp2
   refine hK.out _ _ (Fr.of_below Bx39) ?_
   clear hK K
   refine alT fun K hK => ?_
   go_wp2
   refine hK.out _ _ (Fr.of_below (Bx39.alloc Bx39.size _)) ?_
   clear hK K
   have HE := hide (Whole.new x39 60 [.int .i64 2, .int .i64 b, .slice none 0 0])
   have Bx40 := Bx39.alloc Bx39.size (.cells #[.int .i64 2, .int .i64 b, .slice none 0 0] 60)
   replace HV := hide (HV.out.alloc (.cells #[.int .i64 2, .int .i64 b, .slice none 0 0] 60))
   generalize x39.alloc (.cells #[.int .i64 2, .int .i64 b, .slice none 0 0] 60) = x40 at HE Bx40 HV ⊢
   refine alT fun K hK => ?_
   refine wpList_catE elemE (by rfl) (.tmp 45) (.tmp 49) rfl rfl rfl HV.out (Evs.one (ns := []) HE.out rfl .nil) rfl (fun h => by cases h) (by rw [HOX.out.nl]; omega) (by omega) (by decide) ?_
   intro vx41 x41 ho _ _
   have Bx41 : Below X.heap.size X x41 := Bx37.trans (ho.bel.mono Bx37.size)
   obtain ⟨A9, n9, c9, rfl, hev⟩ := ho.evo
   have HEV := hide hev; clear ho hev HV HE; go_wp2
   refine hK.out _ _ (Fr.of_below Bx41) ?_
   clear hK K
   refine alT fun K hK => ?_
   obtain ⟨t0, t1, t2, lt3⟩ := cells3 (HQX.out.later Bx41)
   have zt := (HQX.out.later Bx41).frozen
   go_wp2
   refine hK.out _ _ ((Fr.of_below Bx41).trans (((Fr.put 0 _).trans (Fr.put 1 _)).trans (Fr.put 2 _))) ?_
   clear hK K
   refine alT fun K hK => ?_
   go_wp2
   refine hK.out _ _ ((Fr.of_below Bx41).trans (((Fr.put 0 _).trans (Fr.put 1 _)).trans (Fr.put 2 _))) ?_
   clear hK K
   refine tree_done ?_
   go_wp2
   refine retP2 Tryz.results89 rfl rfl rfl (put3 (HQX.out.later Bx41) _ _ _) ?_
   have hst : ∀ t, t ≠ 36 → Stays t x41 _ := fun t ht => stays_put3 (HQX.out.later Bx41) ht (.int .i64 p.st) (.slice A1 l1 c1) (.slice A2 l2 c2)
   have hd := (HDX.out.below Bx41).keep (hst 3 (by decide)) (hst 5 (by decide))
   refine ⟨A1, l1, c1, A2, l2, c2, A9, n9, c9, rfl, ⟨hd.n, hd.h, hd.nl, hd.hl, hd.c0, hd.c1, hd.c2, hd.d0⟩, ?_, below_put3 (HBX.out.trans (Bx41.mono HBX.out.size)) (by omega) _ _ _⟩
   rw [← List.append_assoc]
   exact HEV.out.keep (hst 3 (by decide)) (hst 60 (by decide))
  ·intro K hK
   go_wp2
   refine hK.out _ _ (Fr.of_below (Bx38.alloc Bx38.size _)) ?_
   clear hK K
   have HE := hide (Whole.new x38 60 [.int .i64 2, .int .i64 b, .slice none 0 0])
   have Bx42 := Bx38.alloc Bx38.size (.cells #[.int .i64 2, .int .i64 b, .slice none 0 0] 60)
   replace HV := hide (HV.out.alloc (.cells #[.int .i64 2, .int .i64 b, .slice none 0 0] 60))
   generalize x38.alloc (.cells #[.int .i64 2, .int .i64 b, .slice none 0 0] 60) = x42 at HE Bx42 HV ⊢
   refine alT fun K hK => ?_
   refine wpList_catEg elemE (by rfl) (.tmp 43) (.tmp 44) rfl rfl rfl HV.out (HOX.out.below Bx42).e HOX.out.nl HOX.out.c0 (by simp; omega) (by omega) (by decide) ?_
   intro vx43 x43 ho hg
   rw [List.nil_append] at ho
   have Bx43 : Below X.heap.size X x43 := Bx37.trans (ho.bel.mono Bx37.size)
   replace HE := hide (HE.out.far (g' := x37.heap.size) hg (by have := hz.out; omega))
   obtain ⟨Ax43, nx43, cx43, rfl⟩ := ho.slice
   clear HV; have HV := hide ho; clear ho hg; go_wp2
   refine hK.out _ _ (Fr.of_below Bx43) ?_
   clear hK K
   refine alT fun K hK => ?_
   refine wpList_catE elemE (by rfl) (.tmp 45) (.tmp 49) rfl rfl rfl HV.out (Evs.one (ns := []) HE.out rfl .nil) rfl (fun h => by cases h) (by rw [HOX.out.nl]; omega) (by omega) (by decide) ?_
   intro vx44 x44 ho _ _
   have Bx44 : Below X.heap.size X x44 := Bx37.trans (ho.bel.mono Bx37.size)
   obtain ⟨A9, n9, c9, rfl, hev⟩ := ho.evo
   have HEV := hide hev; clear ho hev HV HE; go_wp2
   refine hK.out _ _ (Fr.of_below Bx44) ?_
   clear hK K
   refine alT fun K hK => ?_
   obtain ⟨t0, t1, t2, lt3⟩ := cells3 (HQX.out.later Bx44)
   have zt := (HQX.out.later Bx44).frozen
   go_wp2
   refine hK.out _ _ ((Fr.of_below Bx44).trans (((Fr.put 0 _).trans (Fr.put 1 _)).trans (Fr.put 2 _))) ?_
   clear hK K
   refine alT fun K hK => ?_
   go_wp2
   refine hK.out _ _ ((Fr.of_below Bx44).trans (((Fr.put 0 _).trans (Fr.put 1 _)).trans (Fr.put 2 _))) ?_
   clear hK K
   refine tree_done ?_
   go_wp2
   refine retP2 Tryz.results89 rfl rfl rfl (put3 (HQX.out.later Bx44) _ _ _) ?_
   have hst : ∀ t, t ≠ 36 → Stays t x44 _ := fun t ht => stays_put3 (HQX.out.later Bx44) ht (.int .i64 p.st) (.slice A1 l1 c1) (.slice A2 l2 c2)
   have hd := (HDX.out.below Bx44).keep (hst 3 (by decide)) (hst 5 (by decide))
   refine ⟨A1, l1, c1, A2, l2, c2, A9, n9, c9, rfl, ⟨hd.n, hd.h, hd.nl, hd.hl, hd.c0, hd.c1, hd.c2, hd.d0⟩, ?_, below_put3 (HBX.out.trans (Bx44.mono HBX.out.size)) (by omega) _ _ _⟩
   rw [← List.append_assoc]
   exact HEV.out.keep (hst 3 (by decide)) (hst 60 (by decide))
 ·intro K hK
  go_wp2
  refine hK.out _ _ (Fr.of_below (Bx37.alloc Bx37.size _)) ?_
  clear hK K
  have HE := hide (Whole.new x37 60 [.int .i64 2, .int .i64 b, .slice none 0 0])
  have Bx45 := Bx37.alloc Bx37.size (.cells #[.int .i64 2, .int .i64 b, .slice none 0 0] 60)
  have hz : Hid (x37.heap.size < (x37.alloc (.cells #[.int .i64 2, .int .i64 b, .slice none 0 0] 60)).heap.size) := by unfold Hid; simp
  generalize x37.alloc (.cells #[.int .i64 2, .int .i64 b, .slice none 0 0] 60) = x45 at HE Bx45 hz ⊢
  refine alT fun K hK => ?_
  go_wp2
  refine hK.out _ _ (Fr.of_below (Bx45.alloc Bx45.size _)) ?_
  clear hK K
  have HV := hide (OwnE.empty (C := 0) (te := 60) (k := .i64) x45 (Nat.zero_le _))
  have Bx46 := Bx45.alloc Bx45.size (.cells #[] 60)
  replace HE := hide (HE.out.alloc (.cells #[] 60))
  generalize x45.alloc (.cells #[] 60) = x46 at HV Bx46 HE ⊢
  refine alT fun K hK => ?_
  refine wpList_catEg elemE (by rfl) (.tmp 43) (.tmp 44) rfl rfl rfl HV.out (HOX.out.below Bx46).e HOX.out.nl HOX.out.c0 (by simp; omega) (by omega) (by decide) ?_
  intro vx47 x47 ho hg
  rw [List.nil_append] at ho
  have Bx47 : Below X.heap.size X x47 := Bx45.trans (ho.bel.mono Bx45.size)
  replace HE := hide (HE.out.far (g' := x45.heap.size) hg (by have := hz.out; omega))
  obtain ⟨Ax47, nx47, cx47, rfl⟩ := ho.slice
  clear HV; have HV := hide ho; clear ho hg; go_wp2
  refine hK.out _ _ (Fr.of_below Bx47) ?_
  clear hK K
  refine alT fun K hK => ?_
  refine wpList_catE elemE (by rfl) (.tmp 45) (.tmp 49) rfl rfl rfl HV.out (Evs.one (ns := []) HE.out rfl .nil) rfl (fun h => by cases h) (by rw [HOX.out.nl]; omega) (by omega) (by decide) ?_
  intro vx48 x48 ho _ _
  have Bx48 : Below X.heap.size X x48 := Bx45.trans (ho.bel.mono Bx45.size)
  obtain ⟨A9, n9, c9, rfl, hev⟩ := ho.evo
  have HEV := hide hev; clear ho hev HV HE; go_wp2
  refine hK.out _ _ (Fr.of_below Bx48) ?_
  clear hK K
  refine alT fun K hK => ?_
  obtain ⟨t0, t1, t2, lt3⟩ := cells3 (HQX.out.later Bx48)
  have zt := (HQX.out.later Bx48).frozen
  go_wp2
  refine hK.out _ _ ((Fr.of_below Bx48).trans (((Fr.put 0 _).trans (Fr.put 1 _)).trans (Fr.put 2 _))) ?_
  clear hK K
  refine alT fun K hK => ?_
  go_wp2
  refine hK.out _ _ ((Fr.of_below Bx48).trans (((Fr.put 0 _).trans (Fr.put 1 _)).trans (Fr.put 2 _))) ?_
  clear hK K
  refine tree_done ?_
  go_wp2
  refine retP2 Tryz.results89 rfl rfl rfl (put3 (HQX.out.later Bx48) _ _ _) ?_
  have hst : ∀ t, t ≠ 36 → Stays t x48 _ := fun t ht => stays_put3 (HQX.out.later Bx48) ht (.int .i64 p.st) (.slice A1 l1 c1) (.slice A2 l2 c2)
  have hd := (HDX.out.below Bx48).keep (hst 3 (by decide)) (hst 5 (by decide))
  refine ⟨A1, l1, c1, A2, l2, c2, A9, n9, c9, rfl, ⟨hd.n, hd.h, hd.nl, hd.hl, hd.c0, hd.c1, hd.c2, hd.d0⟩, ?_, below_put3 (HBX.out.trans (Bx48.mono HBX.out.size)) (by omega) _ _ _⟩
  rw [← List.append_assoc]
  exact HEV.out.keep (hst 3 (by decide)) (hst 60 (by decide))
theorem rpstep_4 (p : Ps) (hok : PsOk p) (A : Option Addr) (ln c : Nat) (A' : Option Addr) (lh c' : Nat) (es : List Ev) (Ao : Option Addr) (no co : Nat) (w : World) (hp : Dp w p A ln c A' lh c') (ho : Evo w es Ao no co) (hl : no ≤ 100000) (hln : ln ≤ 10000) (b : Int) (b0 : 0 ≤ b) (b1 : b ≤ 255) (hb : b = 27) :
  Calls Tryz.prog 89 #[.agg #[.int .i64 p.st, .slice A ln c, .slice A' lh c'], .slice Ao no co, .int .u8 b] w (DGave w (stepP p b).1 (es ++ (stepP p b).2)) := by
 obtain ⟨W0, hW0⟩ := exq ((w.alloc (.cells #[.int .i64 p.st, .slice A ln c, .slice A' lh c'] 36)).alloc (.cells #[.int .i64 0, .slice none 0 0, .slice none 0 0] 36))
 have HB0 : Hid (Below w.heap.size w W0) := by unfold Hid; rw [← hW0]; exact two_new _ _ _ _ _
 have HP0 : Hid (Whole W0 w.heap.size 36 [.int .i64 p.st, .slice A ln c, .slice A' lh c']) := by unfold Hid; rw [← hW0]; exact (Whole.new _ _ _).alloc _
 have HQ0 : Hid (Whole W0 (w.heap.size + 1) 36 [.int .i64 0, .slice none 0 0, .slice none 0 0]) := by unfold Hid; rw [← hW0]; exact whole_snd _ _ _ _
 have HSZ : Hid (w.heap.size + 1 + 1 = W0.heap.size) := by unfold Hid; rw [← hW0]; simp
 have HDw := hide hp; have HOw := hide ho
 have HD := hide (hp.below HB0.out)
 have HO := hide (ho.below HB0.out)
 have HW0 := hide hW0; clear hW0 hp ho
 have hne : ¬ w.heap.size = w.heap.size + 1 := by omega
 have hne' : ¬ w.heap.size + 1 = w.heap.size := by omega
 subst hb
 rw [step_esc (p := p) (b := 27) rfl]
 go_enter Tryz.func89, Tryz.ntmps89
 go_wp2_with fail
 rw [HW0.out]
 refine (rpflush1_any p A ln c A' lh c' es Ao no co W0 HD.out HO.out hl).mono ?_
 rintro e w1 ⟨A1, l1, c1, A2, l2, c2, O1, o1, k1, rfl, hd, ho, hb⟩
 have HP1 := hide (HP0.out.later hb)
 have HQ1 := hide (HQ0.out.later hb)
 have HB1 := hide (HB0.out.trans (hb.mono HB0.out.size))
 have HD1 := hide hd; have HO1 := hide ho; clear hd ho hb
 have HPa : Hid (Whole (((w1.setCell ⟨w.heap.size, 0, none⟩ (.int .i64 p.st)).setCell ⟨w.heap.size, 1, none⟩ (.slice A1 l1 c1)).setCell ⟨w.heap.size, 2, none⟩ (.slice A2 l2 c2)) w.heap.size 36 [.int .i64 p.st, .slice A1 l1 c1, .slice A2 l2 c2]) := put3 HP1.out _ _ _
 have HQa : Hid (Whole (((w1.setCell ⟨w.heap.size, 0, none⟩ (.int .i64 p.st)).setCell ⟨w.heap.size, 1, none⟩ (.slice A1 l1 c1)).setCell ⟨w.heap.size, 2, none⟩ (.slice A2 l2 c2)) (w.heap.size + 1) 36 [.int .i64 0, .slice none 0 0, .slice none 0 0]) := ((HQ1.out.other hne').other hne').other hne'
 have HPb : Hid (Whole (((((w1.setCell ⟨w.heap.size, 0, none⟩ (.int .i64 p.st)).setCell ⟨w.heap.size, 1, none⟩ (.slice A1 l1 c1)).setCell ⟨w.heap.size, 2, none⟩ (.slice A2 l2 c2)).setCell ⟨w.heap.size, 0, none⟩ (.int .i64 1)).setCell ⟨w.heap.size, 1, none⟩ (.slice none 0 0)) w.heap.size 36 [.int .i64 1, .slice none 0 0, .slice A2 l2 c2]) := (HPa.out.put 0 _).put 1 _
 have HQb : Hid (Whole (((((w1.setCell ⟨w.heap.size, 0, none⟩ (.int .i64 p.st)).setCell ⟨w.heap.size, 1, none⟩ (.slice A1 l1 c1)).setCell ⟨w.heap.size, 2, none⟩ (.slice A2 l2 c2)).setCell ⟨w.heap.size, 0, none⟩ (.int .i64 1)).setCell ⟨w.heap.size, 1, none⟩ (.slice none 0 0)) (w.heap.size + 1) 36 [.int .i64 0, .slice none 0 0, .slice none 0 0]) := (HQa.out.other hne').other hne'
 have HSb : Hid (∀ t, t ≠ 36 → Stays t w1 (((((w1.setCell ⟨w.heap.size, 0, none⟩ (.int .i64 p.st)).setCell ⟨w.heap.size, 1, none⟩ (.slice A1 l1 c1)).setCell ⟨w.heap.size, 2, none⟩ (.slice A2 l2 c2)).setCell ⟨w.heap.size, 0, none⟩ (.int .i64 1)).setCell ⟨w.heap.size, 1, none⟩ (.slice none 0 0))) := fun t ht => ((stays_put3 HP1.out ht _ _ _).trans (Stays.put HPa.out ht)).trans (Stays.put (HPa.out.put 0 _) ht)
 have HBb : Hid (Below w.heap.size w (((((w1.setCell ⟨w.heap.size, 0, none⟩ (.int .i64 p.st)).setCell ⟨w.heap.size, 1, none⟩ (.slice A1 l1 c1)).setCell ⟨w.heap.size, 2, none⟩ (.slice A2 l2 c2)).setCell ⟨w.heap.size, 0, none⟩ (.int .i64 1)).setCell ⟨w.heap.size, 1, none⟩ (.slice none 0 0))) := ((below_put3 HB1.out (Nat.le_refl _) _ _ _).setCell (p := ⟨w.heap.size, 0, none⟩) (Nat.le_refl _) _).setCell (p := ⟨w.heap.size, 1, none⟩) (Nat.le_refl _) _
 obtain ⟨a0, a1, a2, la⟩ := cells3 HP1.out
 have za := HP1.out.frozen
 obtain ⟨b0_, b1_, b2_, lb⟩ := cells3 HPa.out
 have zb := HPa.out.frozen
 obtain ⟨d0_, d1_, d2_, ld⟩ := cells3 HPb.out
 obtain ⟨q0_, q1_, q2_, lq⟩ := cells3 HQb.out
 have zq := HQb.out.frozen
 go_wp2
 refine retP2 Tryz.results89 rfl rfl rfl (put3 HQb.out _ _ _) ?_
 have hst : ∀ t, t ≠ 36 → Stays t w1 _ := fun t ht => (HSb.out t ht).trans (stays_put3 HQb.out ht (.int .i64 1) (.slice none 0 0) (.slice A2 l2 c2))
 have hd := HD1.out.keep (hst 3 (by decide)) (hst 5 (by decide))
 exact ⟨none, 0, 0, A2, l2, c2, O1, o1, k1, rfl, ⟨.nil, hd.h, rfl, hd.hl, fun _ => rfl, Nat.le_refl _, Nat.zero_le _, hd.d0⟩, HO1.out.keep (hst 3 (by decide)) (hst 60 (by decide)), below_put3 HBb.out (by omega) _ _ _⟩
end
end Go.Proofs.YtkijclgbpbhglaaGreatDoor
