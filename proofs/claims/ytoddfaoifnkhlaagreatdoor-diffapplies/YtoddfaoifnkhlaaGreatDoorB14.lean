/-
  Contracts and plain mathematics of GDo4, GDo5, GDo6, GLoop, GGreat, GOpen.
-/
import Derived.Test.YtoddfaoifnkhlaaGreatDoorB12
import Derived.Test.YtoddfaoifnkhlaaGreatDoorB2
import Derived.Test.YtoddfaoifnkhlaaGreatDoorB13
import Derived.Test.YtoddfaoifnkhlaaGreatDoorB8
namespace Go.Proofs.YtoddfaoifnkhlaaGreatDoor
set_option maxRecDepth 100000
set_option linter.unusedVariables false
set_option maxHeartbeats 8000000
section
open Go.ChangeShapes Go.WideShapes Go.ChangeAt Go.RowKit
theorem do_lay {w : World} {G L M R C : Nat} {g : Gd} (h : Grd w G L M R C g) (hok : GOk g R C) (A : Option Addr) (cap : Nat) (hl : Lns w A g.ls) (hS : Spans w) (ar ac at_ xr xm xn : Int) (xd xf xg xb : Nat) (am : Int) (pf pg pb : Nat) (Al : Option Addr) (nl cl : Nat) (cs0 : List Cel) (hI : LineIn w Al nl cl cs0) :
  Calls Tryz.prog 24 #[.pointer (some ⟨G, 0, none⟩), .agg #[.slice A R cap, .int .i64 g.row, .int .i64 g.col], .agg #[.int .i64 3, .int .i64 ar, .int .i64 ac, .int .i64 at_, .int .i32 xr, .int .i32 xm, .int .i32 xn, .int .u8 xd, .int .u8 xf, .int .u8 xg, .int .u8 xb, .int .i32 am, .int .u8 pf, .int .u8 pg, .int .u8 pb, .slice Al nl cl]] w (Did w G L M) := by
 obtain ⟨W0, hW0⟩ := exq ((((w.alloc (.cells #[.slice A R cap, .int .i64 g.row, .int .i64 g.col] 26)).alloc (.cells #[.int .i64 3, .int .i64 ar, .int .i64 ac, .int .i64 at_, .int .i32 xr, .int .i32 xm, .int .i32 xn, .int .u8 xd, .int .u8 xf, .int .u8 xg, .int .u8 xb, .int .i32 am, .int .u8 pf, .int .u8 pg, .int .u8 pb, .slice Al nl cl] 67)).alloc (.cells #[.slice none 0 0, .int .i64 0, .int .i64 0] 26)).alloc (.cells #[.int .u8 pf, .int .u8 pg, .int .u8 pb] 93))
 have HB0 : Hid (Below w.heap.size w W0) := by unfold Hid; rw [← hW0]; exact four_new w _ _ _ _
 have HX0 : Hid (Whole W0 w.heap.size 26 [.slice A R cap, .int .i64 g.row, .int .i64 g.col]) := by unfold Hid; rw [← hW0]; exact (((Whole.new _ _ _).alloc _).alloc _).alloc _
 have HX1 : Hid (Whole W0 (w.heap.size + 1) 67 [.int .i64 3, .int .i64 ar, .int .i64 ac, .int .i64 at_, .int .i32 xr, .int .i32 xm, .int .i32 xn, .int .u8 xd, .int .u8 xf, .int .u8 xg, .int .u8 xb, .int .i32 am, .int .u8 pf, .int .u8 pg, .int .u8 pb, .slice Al nl cl]) := by unfold Hid; rw [← hW0]; exact ((whole_snd _ _ _ _).alloc _).alloc _
 have HX2 : Hid (Whole W0 (w.heap.size + 2) 26 [.slice none 0 0, .int .i64 0, .int .i64 0]) := by unfold Hid; rw [← hW0]; exact (whole_thd w _ _ 26 [.slice none 0 0, .int .i64 0, .int .i64 0]).alloc _
 have HX3 : Hid (Whole W0 (w.heap.size + 3) 93 [.int .u8 pf, .int .u8 pg, .int .u8 pb]) := by unfold Hid; rw [← hW0]; exact whole_fth w _ _ _ 93 [.int .u8 pf, .int .u8 pg, .int .u8 pb]
 have HG0 := hide (h.later HB0.out)
 have HL0 := hide (hl.below HB0.out)
 have HS0 := hide (hS.below HB0.out)
 have HGO := hide hok
 have hR1 := hok.r1
 have hR2 := hok.r2
 have hC1 := hok.c1
 have hC2 := hok.c2
 have ltG := h.ltG
 have ltL := h.ltL
 have ltM := h.ltM
 have HW0 := hide hW0
 obtain ⟨a0, a1, a2, a3, a4, a5, a6, a7, a8, a9, b0, b1, b2, b3, b4, b5, la⟩ := cells16 HX1.out
 obtain ⟨p0, p1, p2, lp⟩ := cells3 HX0.out
 obtain ⟨y0, y1, y2, ly⟩ := cells3 HX3.out
 clear hW0 h hl hok hS
 obtain ⟨hI1, hI2, hI3, hI4, hI5⟩ := hI
 obtain ⟨zs, hzs⟩ := exq (cs0.take (min nl 30))
 have HLB6 : Hid (LB zs) := by unfold Hid; rw [← hzs]; exact LB_take hI5 _
 obtain ⟨n6, hn6e⟩ := exq (zs.length)
 have hn6 : n6 ≤ 1000000 := by rw [← hn6e, ← hzs, List.length_take]; omega
 have HN6 := hide hn6e
 have HOK := hide (HGO.out.lay ar zs HLB6.out)
 obtain ⟨okv, hk⟩ := exq (layOk g ar zs C)
 have HKK := hide hk; have HZS := hide hzs
 have HI := hide (lcut_any Al nl cl cs0 W0 (hI1.below HB0.out) hI2 hI4 hI3)
 clear hk hn6e hzs hI1 hI2 hI3 hI4 hI5
 go_enter Tryz.func24, Tryz.ntmps24
 go_wp2_with fail
 rw [HW0.out]
 refine HI.out.mono ?_
 rintro e W0' ⟨x6, rfl, hx6⟩
 rw [HZS.out] at hx6
 obtain ⟨A6, c6, rfl, hc6, -⟩ := hx6.form
 have hb := hx6.bel
 have HZ0 := hide hc6
 have HG0' := hide (HG0.out.later hb)
 have HL0' := hide (HL0.out.below hb)
 have HS0' := hide (HS0.out.below hb)
 have HX0' := hide (HX0.out.later hb)
 have HX1' := hide (HX1.out.later hb)
 have HX2' := hide (HX2.out.later hb)
 have HX3' := hide (HX3.out.later hb)
 have HB0' := hide (HB0.out.trans (hb.mono HB0.out.size))
 clear hb hx6 hc6 HG0 HL0 HS0 HX0 HX1 HX2 HX3 HB0 HI HW0; clear a0 a1 a2 a3 a4 a5 a6 a7 a8 a9 b0 b1 b2 b3 b4 b5 la p0 p1 p2 lp y0 y1 y2 ly
 have HG0 := HG0'
 have HL0 := HL0'
 have HS0 := HS0'
 have HX0 := HX0'
 have HX1 := HX1'
 have HX2 := HX2'
 have HX3 := HX3'
 have HB0 := HB0'
 clear HG0' HL0' HS0' HX0' HX1' HX2' HX3' HB0'; clear W0
 obtain ⟨W0, hWW⟩ : ∃ W, W = W0' := ⟨_, rfl⟩
 subst hWW
 obtain ⟨a0, a1, a2, a3, a4, a5, a6, a7, a8, a9, b0, b1, b2, b3, b4, b5, la⟩ := cells16 HX1.out
 obtain ⟨p0, p1, p2, lp⟩ := cells3 HX0.out
 obtain ⟨y0, y1, y2, ly⟩ := cells3 HX3.out
 rw [HN6.out]
 go_wp2
 refine rgT (fun w' => Below W0.heap.size W0 w') (.take 3 (.take 1 (.take 0 (.take 2 (.two 4 (.two 5 (.take 6 (.take 7 (.take 8 (.alone 9 (.alone 10 (.alone 11 .done)))))) 9 (.alone 5 (.take 6 (.take 7 (.take 8 (.alone 10 (.alone 11 .done))))))) 9 (.alone 4 (.alone 5 (.take 6 (.take 7 (.take 8 (.alone 10 (.alone 11 .done)))))))))))) bd1 ?_
 refine stT (h := ?_)
 refine stT (h := ?_)
 refine stT (hy := fun w hS => by obtain ⟨f0, f1, f2, -⟩ := cells3 (HX0.out.later hS); go_simp <;> with_reducible rfl) (h := ?_)
 refine stT (hy := fun w hS => by obtain ⟨f0, f1, f2, f3, f4, f5, f6, f7, f8, f9, g0, g1, g2, g3, g4, g5, -⟩ := cells16 (HX1.out.later hS); go_simp <;> with_reducible rfl) (h := ?_)
 refine tree_two (by simp only [List.getElem?_toArray, List.getElem?_cons_zero, List.getElem?_cons_succ]; rfl) (by simp only [List.getElem?_toArray, List.getElem?_cons_zero, List.getElem?_cons_succ]; rfl) ?_ ?_
 ·intro K hK
  go_wp2_with fail
  refine (lineof_any A6 n6 c6 zs _ (HZ0.out.below ((Below.refl W0.heap.size W0).drewN 1)) HN6.out hn6 HLB6.out).mono ?_
  rintro e k1 ⟨x7, rfl, hx7⟩
  obtain ⟨A7, c7, rfl, hc7, -⟩ := hx7.form
  have hb := hx7.bel
  have HC7 := hide hc7; clear hx7 hc7
  have Bk1 : Below W0.heap.size W0 k1 := ((Below.refl W0.heap.size W0).drewN 1).trans hb
  clear hb
  rw [HN6.out]
  go_wp2
  refine hK.out _ _ (Bk1) ?_
  clear hK K
  refine tree_two (by simp only [List.getElem?_toArray, List.getElem?_cons_zero, List.getElem?_cons_succ]; rfl) (by simp only [List.getElem?_toArray, List.getElem?_cons_zero, List.getElem?_cons_succ]; rfl) ?_ ?_
  ·intro K hK
   go_wp2_with fail
   refine (rglay_any A R C cap g k1 (HL0.out.below Bk1) HGO.out ar A7 n6 c7 zs HC7.out HN6.out hn6 HLB6.out).mono ?_
   rintro e k2 ⟨A5, cap5, rfl, hl, hb⟩
   rw [HKK.out]
   have Bk2 : Below W0.heap.size W0 k2 := Bk1.trans (hb.mono Bk1.size)
   have HLa := hide hl; clear hl hb; go_wp2
   refine hK.out _ _ (Bk2) ?_
   clear hK K
   iterate 3 refine stT (h := ?_)
   refine alT fun K hK => ?_
   go_wp2
   refine hK.out _ _ (Bk2.alloc Bk2.size _) ?_
   clear hK K
   refine alT fun K hK => ?_
   go_wp2
   refine hK.out _ _ (Bk2.alloc Bk2.size _) ?_
   clear hK K
   refine alT fun K hK => ?_
   go_wp2
   refine hK.out _ _ (Bk2.alloc Bk2.size _) ?_
   clear hK K
   refine tree_done ?_
   obtain ⟨Q10, hQ⟩ := exq (k2.heap.size)
   obtain ⟨W5, hW5⟩ := exq (k2.alloc (.cells #[.slice A5 R cap5, .int .i64 ((layG g ar zs C).row : Int), .int .i64 ((layG g ar zs C).col : Int)] 26))
   have hb5 : Below W0.heap.size W0 W5 := by rw [← hW5]; exact Bk2.alloc Bk2.size _
   have HN5 : Hid (Whole W5 Q10 26 [.slice A5 R cap5, .int .i64 ((layG g ar zs C).row : Int), .int .i64 ((layG g ar zs C).col : Int)]) := by unfold Hid; rw [← hW5, ← hQ]; exact Whole.new _ _ _
   have hq10 : w.heap.size ≤ Q10 := by rw [← hQ]; exact Nat.le_trans HB0.out.size Bk2.size
   have HL5 : Hid (Lns W5 A5 (layG g ar zs C).ls) := by unfold Hid; rw [← hW5]; exact HLa.out.alloc _
   have HG5 := hide (HG0.out.later hb5)
   have HS5 := hide (HS0.out.below hb5)
   have HT5 := hide (Trn.of_below (G := G) (L := L) (M := M) (HB0.out.trans (hb5.mono HB0.out.size)))
   have HX15 := hide (HX1.out.later hb5)
   have HX25 := hide (HX2.out.later hb5)
   have HX35 := hide (HX3.out.later hb5)
   have HX05 := hide (HX0.out.later hb5)
   have HZ5 := hide (HZ0.out.below hb5)
   have HW5 := hide hW5; have HQ10 := hide hQ; clear hW5 hb5 hQ Bk1 Bk2; clear a0 a1 a2 a3 a4 a5 a6 a7 a8 a9 b0 b1 b2 b3 b4 b5 la p0 p1 p2 lp y0 y1 y2 ly
   obtain ⟨a0, a1, a2, a3, a4, a5, a6, a7, a8, a9, b0, b1, b2, b3, b4, b5, la⟩ := cells16 HX15.out
   obtain ⟨p0, p1, p2, lp⟩ := cells3 HX05.out
   obtain ⟨y0, y1, y2, ly⟩ := cells3 HX35.out
   simp only [HQ10.out, HW5.out]
   go_wp2
   refine rgL (fun w' => Whole w' Q10 26 [.slice A5 R cap5, .int .i64 ((layG g ar zs C).row : Int), .int .i64 ((layG g ar zs C).col : Int)] ∧ Whole w' (w.heap.size + 1) 67 [.int .i64 3, .int .i64 ar, .int .i64 ac, .int .i64 at_, .int .i32 xr, .int .i32 xm, .int .i32 xn, .int .u8 xd, .int .u8 xf, .int .u8 xg, .int .u8 xb, .int .i32 am, .int .u8 pf, .int .u8 pg, .int .u8 pb, .slice Al nl cl]) 10 [(2, 0), (2, 2), (2, 5), (2, 7), (2, 3), (0, 1), (1, 4), (1, 6), (2, 9), (2, 8), (3, 10), (3, 11)] (⟨HN5.out.drewN 1, HX15.out.drewN 1⟩) ?_
   iterate 5 refine puL (h := ?_)
   refine stL (hy := fun w hS => by obtain ⟨f0, f1, f2, -⟩ := cells3 hS.1; go_simp <;> with_reducible rfl) (h := ?_)
   refine alL fun K hK => ?_
   go_wp2
   refine hK.out _ _ (⟨HN5.out.drewN 1, HX15.out.drewN 1⟩) ?_
   clear hK K
   refine alL fun K hK => ?_
   go_wp2_with fail
   refine (glay_any (HG5.out.later bd1) hC2 HS5.out.drew ar A6 n6 c6 zs HZ5.out.drew HN6.out hn6 HLB6.out).mono ?_
   rintro e k1 ⟨rfl, hg, ht⟩
   rw [HKK.out]
   have HGz := hide hg
   have HLz := hide ((HL5.out.drewN 1).turn (HG5.out.later bd1) ht)
   have HTz := hide (HT5.out.trans (Trn.ofB ((Below.refl W5.heap.size W5).drewN 1) ht) (.inl rfl))
   have HNz := hide (ht.whole HN5.out.drew (by omega) (by omega) (by omega))
   have HX1z := hide (ht.whole HX15.out.drew (by omega) (by omega) (by omega))
   have HX2z := hide (ht.whole HX25.out.drew (by omega) (by omega) (by omega))
   clear hg ht; clear a0 a1 a2 a3 a4 a5 a6 a7 a8 a9 b0 b1 b2 b3 b4 b5 la p0 p1 p2 lp y0 y1 y2 ly
   obtain ⟨z0, z1, z2, lz⟩ := cells3 HX2z.out
   have hzf := HX2z.out.frozen
   go_wp2
   refine hK.out _ _ (⟨HNz.out, HX1z.out⟩) ?_
   clear hK K
   refine puL (h := ?_)
   refine puL (h := ?_)
   refine laL fun K hK => ?_
   go_wp2
   refine hK.out _ _ ?_
   clear hK K
   refine laL fun K hK => ?_
   go_wp2
   refine hK.out _ _ ?_
   clear hK K
   refine chainL_nil ?_
   go_wp2
   refine retG3 Tryz.results24 rfl rfl rfl rfl (put3 HX2z.out _ _ _) ?_
   exact did_end HGz.out HLz.out HOK.out HTz.out (.inl rfl) (.inl rfl) (.inl rfl) HX2z.out (by omega) _ _ _
  ·intro K hK
   go_wp2
   refine hK.out _ _ (Bk1.alloc Bk1.size _) ?_
   clear hK K
   obtain ⟨k1a, hk1a⟩ := exq (k1.alloc (.cells #[.slice none 0 0, .int .i64 0, .int .i64 0] 26))
   have Bk1a : Below W0.heap.size W0 k1a := by rw [← hk1a]; exact Bk1.alloc Bk1.size _
   have HZn : Hid (Whole k1a k1.heap.size 26 [.slice none 0 0, .int .i64 0, .int .i64 0]) := by unfold Hid; rw [← hk1a]; exact Whole.new _ _ _
   have HC7a : Hid (Cels .i64 k1a A7 zs) := by unfold Hid; rw [← hk1a]; exact HC7.out.alloc _
   rw [hk1a]
   clear hk1a
   refine alT fun K hK => ?_
   go_wp2_with fail
   refine (rglay_any A R C cap g k1a (HL0.out.below Bk1a) HGO.out ar A7 n6 c7 zs HC7a.out HN6.out hn6 HLB6.out).mono ?_
   rintro e k2 ⟨A5, cap5, rfl, hl, hb⟩
   rw [HKK.out]
   have Bk2 : Below W0.heap.size W0 k2 := Bk1a.trans (hb.mono Bk1a.size)
   have HLa := hide hl
   have HZn := hide (HZn.out.later hb)
   obtain ⟨n0, n1, n2, ln⟩ := cells3 HZn.out
   have hnf := HZn.out.frozen
   clear hl hb; go_wp2
   refine hK.out _ _ (Bk2) ?_
   clear hK K
   iterate 3 refine stT (h := ?_)
   refine alT fun K hK => ?_
   go_wp2
   refine hK.out _ _ (below_put3 Bk2 (Bk1.size) _ _ _) ?_
   clear hK K
   refine alT fun K hK => ?_
   go_wp2
   refine hK.out _ _ (below_put3 Bk2 (Bk1.size) _ _ _) ?_
   clear hK K
   refine tree_done ?_
   obtain ⟨Q10, hQ⟩ := exq (k1.heap.size)
   rw [hQ] at HZn
   obtain ⟨W5, hW5⟩ := exq (((k2.setCell ⟨Q10, 0, none⟩ (.slice A5 R cap5)).setCell ⟨Q10, 1, none⟩ (.int .i64 ((layG g ar zs C).row : Int))).setCell ⟨Q10, 2, none⟩ (.int .i64 ((layG g ar zs C).col : Int)))
   have hb5 : Below W0.heap.size W0 W5 := by rw [← hW5]; exact below_put3 Bk2 (by rw [← hQ]; exact Bk1.size) _ _ _
   have HN5 : Hid (Whole W5 Q10 26 [.slice A5 R cap5, .int .i64 ((layG g ar zs C).row : Int), .int .i64 ((layG g ar zs C).col : Int)]) := by unfold Hid; rw [← hW5]; exact put3 HZn.out _ _ _
   have hq10 : w.heap.size ≤ Q10 := by rw [← hQ]; exact Nat.le_trans HB0.out.size Bk1.size
   have HL5 : Hid (Lns W5 A5 (layG g ar zs C).ls) := by unfold Hid; rw [← hW5]; exact HLa.out.put3 HZn.out (by decide) (by decide) _ _ _
   have HG5 := hide (HG0.out.later hb5)
   have HS5 := hide (HS0.out.below hb5)
   have HT5 := hide (Trn.of_below (G := G) (L := L) (M := M) (HB0.out.trans (hb5.mono HB0.out.size)))
   have HX15 := hide (HX1.out.later hb5)
   have HX25 := hide (HX2.out.later hb5)
   have HX35 := hide (HX3.out.later hb5)
   have HX05 := hide (HX0.out.later hb5)
   have HZ5 := hide (HZ0.out.below hb5)
   have HW5 := hide hW5; have HQ10 := hide hQ; clear hW5 hb5 hQ Bk1 Bk2 n0 n1 n2 ln hnf; clear a0 a1 a2 a3 a4 a5 a6 a7 a8 a9 b0 b1 b2 b3 b4 b5 la p0 p1 p2 lp y0 y1 y2 ly
   obtain ⟨a0, a1, a2, a3, a4, a5, a6, a7, a8, a9, b0, b1, b2, b3, b4, b5, la⟩ := cells16 HX15.out
   obtain ⟨p0, p1, p2, lp⟩ := cells3 HX05.out
   obtain ⟨y0, y1, y2, ly⟩ := cells3 HX35.out
   simp only [HQ10.out, HW5.out]
   go_wp2
   refine rgL (fun w' => Whole w' Q10 26 [.slice A5 R cap5, .int .i64 ((layG g ar zs C).row : Int), .int .i64 ((layG g ar zs C).col : Int)] ∧ Whole w' (w.heap.size + 1) 67 [.int .i64 3, .int .i64 ar, .int .i64 ac, .int .i64 at_, .int .i32 xr, .int .i32 xm, .int .i32 xn, .int .u8 xd, .int .u8 xf, .int .u8 xg, .int .u8 xb, .int .i32 am, .int .u8 pf, .int .u8 pg, .int .u8 pb, .slice Al nl cl]) 10 [(2, 0), (2, 2), (2, 5), (2, 7), (2, 3), (0, 1), (1, 4), (1, 6), (2, 9), (2, 8), (3, 10), (3, 11)] (⟨HN5.out.drewN 1, HX15.out.drewN 1⟩) ?_
   iterate 5 refine puL (h := ?_)
   refine stL (hy := fun w hS => by obtain ⟨f0, f1, f2, -⟩ := cells3 hS.1; go_simp <;> with_reducible rfl) (h := ?_)
   refine alL fun K hK => ?_
   go_wp2
   refine hK.out _ _ (⟨HN5.out.drewN 1, HX15.out.drewN 1⟩) ?_
   clear hK K
   refine alL fun K hK => ?_
   go_wp2_with fail
   refine (glay_any (HG5.out.later bd1) hC2 HS5.out.drew ar A6 n6 c6 zs HZ5.out.drew HN6.out hn6 HLB6.out).mono ?_
   rintro e k1 ⟨rfl, hg, ht⟩
   rw [HKK.out]
   have HGz := hide hg
   have HLz := hide ((HL5.out.drewN 1).turn (HG5.out.later bd1) ht)
   have HTz := hide (HT5.out.trans (Trn.ofB ((Below.refl W5.heap.size W5).drewN 1) ht) (.inl rfl))
   have HNz := hide (ht.whole HN5.out.drew (by omega) (by omega) (by omega))
   have HX1z := hide (ht.whole HX15.out.drew (by omega) (by omega) (by omega))
   have HX2z := hide (ht.whole HX25.out.drew (by omega) (by omega) (by omega))
   clear hg ht; clear a0 a1 a2 a3 a4 a5 a6 a7 a8 a9 b0 b1 b2 b3 b4 b5 la p0 p1 p2 lp y0 y1 y2 ly
   obtain ⟨z0, z1, z2, lz⟩ := cells3 HX2z.out
   have hzf := HX2z.out.frozen
   go_wp2
   refine hK.out _ _ (⟨HNz.out, HX1z.out⟩) ?_
   clear hK K
   refine puL (h := ?_)
   refine puL (h := ?_)
   refine laL fun K hK => ?_
   go_wp2
   refine hK.out _ _ ?_
   clear hK K
   refine laL fun K hK => ?_
   go_wp2
   refine hK.out _ _ ?_
   clear hK K
   refine chainL_nil ?_
   go_wp2
   refine retG3 Tryz.results24 rfl rfl rfl rfl (put3 HX2z.out _ _ _) ?_
   exact did_end HGz.out HLz.out HOK.out HTz.out (.inl rfl) (.inl rfl) (.inl rfl) HX2z.out (by omega) _ _ _
 ·intro K hK
  go_wp2
  refine hK.out _ _ (((Below.refl _ _).alloc (Nat.le_refl _) _).drewN 1) ?_
  clear hK K
  obtain ⟨k0, hk0⟩ := exq ((W0.alloc (.cells #[.slice none 0 0, .int .i64 0, .int .i64 0] 26)).drew)
  have Bk0 : Below W0.heap.size W0 k0 := by rw [← hk0]; exact ((Below.refl _ _).alloc (Nat.le_refl _) _).drewN 1
  have HZn : Hid (Whole k0 W0.heap.size 26 [.slice none 0 0, .int .i64 0, .int .i64 0]) := by unfold Hid; rw [← hk0]; exact (Whole.new _ _ _).drewN 1
  rw [hk0]
  clear hk0
  refine alT fun K hK => ?_
  go_wp2_with fail
  refine (lineof_any A6 n6 c6 zs _ (HZ0.out.below Bk0) HN6.out hn6 HLB6.out).mono ?_
  rintro e k1 ⟨x7, rfl, hx7⟩
  obtain ⟨A7, c7, rfl, hc7, -⟩ := hx7.form
  have hb := hx7.bel
  have HC7 := hide hc7; clear hx7 hc7
  have Bk1 : Below W0.heap.size W0 k1 := Bk0.trans (hb.mono Bk0.size)
  have HZn := hide (HZn.out.later hb)
  clear hb
  rw [HN6.out]
  go_wp2
  refine hK.out _ _ (Bk1) ?_
  clear hK K
  refine alT fun K hK => ?_
  go_wp2_with fail
  refine (rglay_any A R C cap g k1 (HL0.out.below Bk1) HGO.out ar A7 n6 c7 zs HC7.out HN6.out hn6 HLB6.out).mono ?_
  rintro e k2 ⟨A5, cap5, rfl, hl, hb⟩
  rw [HKK.out]
  have Bk2 : Below W0.heap.size W0 k2 := Bk1.trans (hb.mono Bk1.size)
  have HLa := hide hl
  have HZn := hide (HZn.out.later hb)
  obtain ⟨n0, n1, n2, ln⟩ := cells3 HZn.out
  have hnf := HZn.out.frozen
  clear hl hb; go_wp2
  refine hK.out _ _ (Bk2) ?_
  clear hK K
  iterate 3 refine stT (h := ?_)
  refine alT fun K hK => ?_
  go_wp2
  refine hK.out _ _ (below_put3 Bk2 (Nat.le_refl _) _ _ _) ?_
  clear hK K
  refine alT fun K hK => ?_
  go_wp2
  refine hK.out _ _ (below_put3 Bk2 (Nat.le_refl _) _ _ _) ?_
  clear hK K
  refine tree_done ?_
  obtain ⟨Q10, hQ⟩ := exq (W0.heap.size)
  rw [hQ] at HZn
  obtain ⟨W5, hW5⟩ := exq (((k2.setCell ⟨Q10, 0, none⟩ (.slice A5 R cap5)).setCell ⟨Q10, 1, none⟩ (.int .i64 ((layG g ar zs C).row : Int))).setCell ⟨Q10, 2, none⟩ (.int .i64 ((layG g ar zs C).col : Int)))
  have hb5 : Below W0.heap.size W0 W5 := by rw [← hW5]; exact below_put3 Bk2 (by rw [← hQ]; exact Nat.le_refl _) _ _ _
  have HN5 : Hid (Whole W5 Q10 26 [.slice A5 R cap5, .int .i64 ((layG g ar zs C).row : Int), .int .i64 ((layG g ar zs C).col : Int)]) := by unfold Hid; rw [← hW5]; exact put3 HZn.out _ _ _
  have hq10 : w.heap.size ≤ Q10 := by rw [← hQ]; exact HB0.out.size
  have HL5 : Hid (Lns W5 A5 (layG g ar zs C).ls) := by unfold Hid; rw [← hW5]; exact HLa.out.put3 HZn.out (by decide) (by decide) _ _ _
  have HG5 := hide (HG0.out.later hb5)
  have HS5 := hide (HS0.out.below hb5)
  have HT5 := hide (Trn.of_below (G := G) (L := L) (M := M) (HB0.out.trans (hb5.mono HB0.out.size)))
  have HX15 := hide (HX1.out.later hb5)
  have HX25 := hide (HX2.out.later hb5)
  have HX35 := hide (HX3.out.later hb5)
  have HX05 := hide (HX0.out.later hb5)
  have HZ5 := hide (HZ0.out.below hb5)
  have HW5 := hide hW5; have HQ10 := hide hQ; clear hW5 hb5 hQ Bk1 Bk2 Bk0 n0 n1 n2 ln hnf; clear a0 a1 a2 a3 a4 a5 a6 a7 a8 a9 b0 b1 b2 b3 b4 b5 la p0 p1 p2 lp y0 y1 y2 ly
  obtain ⟨a0, a1, a2, a3, a4, a5, a6, a7, a8, a9, b0, b1, b2, b3, b4, b5, la⟩ := cells16 HX15.out
  obtain ⟨p0, p1, p2, lp⟩ := cells3 HX05.out
  obtain ⟨y0, y1, y2, ly⟩ := cells3 HX35.out
  simp only [HQ10.out, HW5.out]
  go_wp2
  refine rgL (fun w' => Whole w' Q10 26 [.slice A5 R cap5, .int .i64 ((layG g ar zs C).row : Int), .int .i64 ((layG g ar zs C).col : Int)] ∧ Whole w' (w.heap.size + 1) 67 [.int .i64 3, .int .i64 ar, .int .i64 ac, .int .i64 at_, .int .i32 xr, .int .i32 xm, .int .i32 xn, .int .u8 xd, .int .u8 xf, .int .u8 xg, .int .u8 xb, .int .i32 am, .int .u8 pf, .int .u8 pg, .int .u8 pb, .slice Al nl cl]) 10 [(2, 0), (2, 2), (2, 5), (2, 7), (2, 3), (0, 1), (1, 4), (1, 6), (2, 9), (2, 8), (3, 10), (3, 11)] (⟨HN5.out.drewN 1, HX15.out.drewN 1⟩) ?_
  iterate 5 refine puL (h := ?_)
  refine stL (hy := fun w hS => by obtain ⟨f0, f1, f2, -⟩ := cells3 hS.1; go_simp <;> with_reducible rfl) (h := ?_)
  refine alL fun K hK => ?_
  go_wp2
  refine hK.out _ _ (⟨HN5.out.drewN 1, HX15.out.drewN 1⟩) ?_
  clear hK K
  refine alL fun K hK => ?_
  go_wp2_with fail
  refine (glay_any (HG5.out.later bd1) hC2 HS5.out.drew ar A6 n6 c6 zs HZ5.out.drew HN6.out hn6 HLB6.out).mono ?_
  rintro e k1 ⟨rfl, hg, ht⟩
  rw [HKK.out]
  have HGz := hide hg
  have HLz := hide ((HL5.out.drewN 1).turn (HG5.out.later bd1) ht)
  have HTz := hide (HT5.out.trans (Trn.ofB ((Below.refl W5.heap.size W5).drewN 1) ht) (.inl rfl))
  have HNz := hide (ht.whole HN5.out.drew (by omega) (by omega) (by omega))
  have HX1z := hide (ht.whole HX15.out.drew (by omega) (by omega) (by omega))
  have HX2z := hide (ht.whole HX25.out.drew (by omega) (by omega) (by omega))
  clear hg ht; clear a0 a1 a2 a3 a4 a5 a6 a7 a8 a9 b0 b1 b2 b3 b4 b5 la p0 p1 p2 lp y0 y1 y2 ly
  obtain ⟨z0, z1, z2, lz⟩ := cells3 HX2z.out
  have hzf := HX2z.out.frozen
  go_wp2
  refine hK.out _ _ (⟨HNz.out, HX1z.out⟩) ?_
  clear hK K
  refine puL (h := ?_)
  refine puL (h := ?_)
  refine laL fun K hK => ?_
  go_wp2
  refine hK.out _ _ ?_
  clear hK K
  refine laL fun K hK => ?_
  go_wp2
  refine hK.out _ _ ?_
  clear hK K
  refine chainL_nil ?_
  go_wp2
  refine retG3 Tryz.results24 rfl rfl rfl rfl (put3 HX2z.out _ _ _) ?_
  exact did_end HGz.out HLz.out HOK.out HTz.out (.inl rfl) (.inl rfl) (.inl rfl) HX2z.out (by omega) _ _ _
theorem do_fit {w : World} {G L M R C : Nat} {g : Gd} (h : Grd w G L M R C g) (hok : GOk g R C) (A : Option Addr) (cap : Nat) (hl : Lns w A g.ls) (hS : Spans w) (ar ac at_ xr xm xn : Int) (xd xf xg xb : Nat) (am : Int) (pf pg pb : Nat) (Al : Option Addr) (nl cl : Nat)  :
  Calls Tryz.prog 24 #[.pointer (some ⟨G, 0, none⟩), .agg #[.slice A R cap, .int .i64 g.row, .int .i64 g.col], .agg #[.int .i64 6, .int .i64 ar, .int .i64 ac, .int .i64 at_, .int .i32 xr, .int .i32 xm, .int .i32 xn, .int .u8 xd, .int .u8 xf, .int .u8 xg, .int .u8 xb, .int .i32 am, .int .u8 pf, .int .u8 pg, .int .u8 pb, .slice Al nl cl]] w (Did w G L M) := by
 obtain ⟨W0, hW0⟩ := exq ((((w.alloc (.cells #[.slice A R cap, .int .i64 g.row, .int .i64 g.col] 26)).alloc (.cells #[.int .i64 6, .int .i64 ar, .int .i64 ac, .int .i64 at_, .int .i32 xr, .int .i32 xm, .int .i32 xn, .int .u8 xd, .int .u8 xf, .int .u8 xg, .int .u8 xb, .int .i32 am, .int .u8 pf, .int .u8 pg, .int .u8 pb, .slice Al nl cl] 67)).alloc (.cells #[.slice none 0 0, .int .i64 0, .int .i64 0] 26)).alloc (.cells #[.int .u8 pf, .int .u8 pg, .int .u8 pb] 93))
 have HB0 : Hid (Below w.heap.size w W0) := by unfold Hid; rw [← hW0]; exact four_new w _ _ _ _
 have HX0 : Hid (Whole W0 w.heap.size 26 [.slice A R cap, .int .i64 g.row, .int .i64 g.col]) := by unfold Hid; rw [← hW0]; exact (((Whole.new _ _ _).alloc _).alloc _).alloc _
 have HX1 : Hid (Whole W0 (w.heap.size + 1) 67 [.int .i64 6, .int .i64 ar, .int .i64 ac, .int .i64 at_, .int .i32 xr, .int .i32 xm, .int .i32 xn, .int .u8 xd, .int .u8 xf, .int .u8 xg, .int .u8 xb, .int .i32 am, .int .u8 pf, .int .u8 pg, .int .u8 pb, .slice Al nl cl]) := by unfold Hid; rw [← hW0]; exact ((whole_snd _ _ _ _).alloc _).alloc _
 have HX2 : Hid (Whole W0 (w.heap.size + 2) 26 [.slice none 0 0, .int .i64 0, .int .i64 0]) := by unfold Hid; rw [← hW0]; exact (whole_thd w _ _ 26 [.slice none 0 0, .int .i64 0, .int .i64 0]).alloc _
 have HX3 : Hid (Whole W0 (w.heap.size + 3) 93 [.int .u8 pf, .int .u8 pg, .int .u8 pb]) := by unfold Hid; rw [← hW0]; exact whole_fth w _ _ _ 93 [.int .u8 pf, .int .u8 pg, .int .u8 pb]
 have HG0 := hide (h.later HB0.out)
 have HL0 := hide (hl.below HB0.out)
 have HS0 := hide (hS.below HB0.out)
 have HGO := hide hok
 have hR1 := hok.r1
 have hR2 := hok.r2
 have hC1 := hok.c1
 have hC2 := hok.c2
 have ltG := h.ltG
 have ltL := h.ltL
 have ltM := h.ltM
 have HW0 := hide hW0
 obtain ⟨a0, a1, a2, a3, a4, a5, a6, a7, a8, a9, b0, b1, b2, b3, b4, b5, la⟩ := cells16 HX1.out
 obtain ⟨p0, p1, p2, lp⟩ := cells3 HX0.out
 obtain ⟨y0, y1, y2, ly⟩ := cells3 HX3.out
 clear hW0 h hl hok hS
 obtain ⟨sr, hsr⟩ := exq (smallI ar)
 obtain ⟨sc, hsc⟩ := exq (smallI ac)
 by_cases hs : sizeN sr sc
 ·obtain ⟨R0, hR0⟩ : ∃ R0 : Nat, sr = (R0 : Int) := ⟨sr.toNat, by unfold sizeN at hs; omega⟩
  obtain ⟨C0, hC0⟩ : ∃ C0 : Nat, sc = (C0 : Int) := ⟨sc.toNat, by unfold sizeN at hs; omega⟩
  subst hR0 hC0
  have q1 : 1 ≤ R0 := by unfold sizeN at hs; omega
  have q2 : R0 ≤ 512 := by unfold sizeN at hs; omega
  have q3 : 1 ≤ C0 := by unfold sizeN at hs; omega
  have q4 : C0 ≤ 512 := by unfold sizeN at hs; omega
  have HSZ : Hid (sizeB (R0 : Int) (C0 : Int) = true) := by unfold Hid sizeB; simpa using hs
  have HSR := hide hsr; have HSC := hide hsc
  have HOK := hide (HGO.out.fit q1 q2 q3 q4)
  clear hs hsr hsc
  go_enter Tryz.func24, Tryz.ntmps24
  go_wp2; rw [HW0.out]
  refine rgL (fun w' => Below W0.heap.size W0 w') 12 [(2, 0), (2, 1), (2, 4), (0, 2), (0, 5), (1, 3), (1, 6), (1, 7), (1, 8), (2, 9), (2, 11), (1, 10), (3, 12)] bd1 ?_
  iterate 3 refine puL (h := ?_)
  refine stL (hy := fun w hS => by obtain ⟨f0, f1, f2, f3, f4, f5, f6, f7, f8, f9, g0, g1, g2, g3, g4, g5, -⟩ := cells16 (HX1.out.later hS); go_simp <;> with_reducible rfl) (h := ?_)
  refine stL (hy := fun w hS => by obtain ⟨f0, f1, f2, f3, f4, f5, f6, f7, f8, f9, g0, g1, g2, g3, g4, g5, -⟩ := cells16 (HX1.out.later hS); go_simp <;> with_reducible rfl) (h := ?_)
  refine alL fun K hK => ?_
  go_wp2_with fail
  refine (small_any ar _).mono ?_
  rintro e k0 ⟨rfl, rfl⟩
  rw [HSR.out]
  go_wp2
  refine hK.out _ _ bd1 ?_
  clear hK K
  refine alL fun K hK => ?_
  go_wp2_with fail
  refine (small_any ac _).mono ?_
  rintro e k0 ⟨rfl, rfl⟩
  rw [HSC.out]
  go_wp2
  refine hK.out _ _ bd1 ?_
  clear hK K
  refine alL fun K hK => ?_
  go_wp2_with fail
  refine (fit_yes (HG0.out.later bd1) hC2 R0 C0 q1 q2 q3 q4).mono ?_
  rintro e w1 ⟨G2, L2, M2, rfl, hg, hb, n1, n2, n3⟩
  have HG1 := hide hg
  have Bk1 : Below W0.heap.size W0 w1 := ((Below.refl W0.heap.size W0).drewN 1).trans hb
  have HL1 := hide (HL0.out.below Bk1)
  have HGb := hide (HG0.out.later Bk1)
  have HT1 := hide (Trn.of_below (G := G) (L := L) (M := M) (HB0.out.trans (Bk1.mono HB0.out.size)))
  have HX0b := hide (HX0.out.later Bk1)
  have HX1b := hide (HX1.out.later Bk1)
  have HX2b := hide (HX2.out.later Bk1)
  have HX3b := hide (HX3.out.later Bk1)
  have HN : Hid ((w.heap.size ≤ G2 ∧ w.heap.size ≤ L2) ∧ w.heap.size ≤ M2) := ⟨⟨Nat.le_trans HB0.out.size n1, Nat.le_trans HB0.out.size n2⟩, Nat.le_trans HB0.out.size n3⟩
  clear hg hb n1 n2 n3; go_wp2
  refine hK.out _ _ (Bk1) ?_
  clear hK K
  refine alL fun K hK => ?_
  go_wp2
  refine hK.out _ _ (Bk1) ?_
  clear hK K
  refine puL (h := ?_)
  refine puL (h := ?_)
  refine alL fun K hK => ?_
  go_wp2
  refine hK.out _ _ (Bk1) ?_
  clear hK K
  refine laL fun K hK => ?_
  go_wp2
  refine hK.out _ _ ?_
  clear hK K
  refine chainL_nil ?_
  clear Bk1; clear a0 a1 a2 a3 a4 a5 a6 a7 a8 a9 b0 b1 b2 b3 b4 b5 la p0 p1 p2 lp y0 y1 y2 ly
  obtain ⟨a0, a1, a2, a3, a4, a5, a6, a7, a8, a9, b0, b1, b2, b3, b4, b5, la⟩ := cells16 HX1b.out
  obtain ⟨p0, p1, p2, lp⟩ := cells3 HX0b.out
  obtain ⟨y0, y1, y2, ly⟩ := cells3 HX3b.out
  go_wp2
  refine rgL (fun w' => Below w1.heap.size w1 w') 6 [(2, 0), (2, 3), (0, 1), (0, 4), (1, 2), (1, 5), (3, 6), (3, 7)] bd1 ?_
  refine puL (h := ?_)
  refine puL (h := ?_)
  refine stL (hy := fun w hS => by obtain ⟨f0, f1, f2, f3, f4, f5, f6, f7, f8, f9, g0, g1, g2, g3, g4, g5, -⟩ := cells16 (HX1b.out.later hS); go_simp <;> with_reducible rfl) (h := ?_)
  refine stL (hy := fun w hS => by obtain ⟨f0, f1, f2, f3, f4, f5, f6, f7, f8, f9, g0, g1, g2, g3, g4, g5, -⟩ := cells16 (HX1b.out.later hS); go_simp <;> with_reducible rfl) (h := ?_)
  refine alL fun K hK => ?_
  go_wp2_with fail
  refine (small_any ar _).mono ?_
  rintro e k0 ⟨rfl, rfl⟩
  rw [HSR.out]
  go_wp2
  refine hK.out _ _ bd1 ?_
  clear hK K
  refine alL fun K hK => ?_
  go_wp2_with fail
  refine (small_any ac _).mono ?_
  rintro e k0 ⟨rfl, rfl⟩
  rw [HSC.out]
  go_wp2
  refine hK.out _ _ bd1 ?_
  clear hK K
  refine laL fun K hK => ?_
  go_wp2_with fail
  refine (rsize_any (R0 : Int) (C0 : Int) _).mono ?_
  rintro e k0 ⟨rfl, rfl⟩
  rw [HSZ.out]
  go_wp2
  refine hK.out _ _ ?_
  clear hK K
  refine laL fun K hK => ?_
  go_wp2
  refine hK.out _ _ ?_
  clear hK K
  refine chainL_nil ?_
  obtain ⟨w2, hw2⟩ := exq (w1.drew)
  have hb2 : Below w1.heap.size w1 w2 := by rw [← hw2]; exact (Below.refl _ _).drewN 1
  have HL2 := hide (HL1.out.below hb2)
  have HT2 := hide (HT1.out.thenB hb2)
  have HX0c := hide (HX0b.out.later hb2)
  have HX1c := hide (HX1b.out.later hb2)
  have HX2c := hide (HX2b.out.later hb2)
  have HX3c := hide (HX3b.out.later hb2)
  have HG2 := hide (HG1.out.later hb2)
  rw [hw2]
  clear hb2 hw2; clear a0 a1 a2 a3 a4 a5 a6 a7 a8 a9 b0 b1 b2 b3 b4 b5 la p0 p1 p2 lp y0 y1 y2 ly
  obtain ⟨a0, a1, a2, a3, a4, a5, a6, a7, a8, a9, b0, b1, b2, b3, b4, b5, la⟩ := cells16 HX1c.out
  obtain ⟨p0, p1, p2, lp⟩ := cells3 HX0c.out
  obtain ⟨y0, y1, y2, ly⟩ := cells3 HX3c.out
  go_wp2
  refine rgL (fun w' => Below w2.heap.size w2 w') 16 [(2, 0), (2, 9), (2, 10), (2, 2), (2, 5), (0, 1), (0, 3), (0, 6), (1, 4), (1, 7), (1, 8), (1, 11), (2, 12), (2, 15), (2, 13), (2, 14), (3, 16), (3, 17)] bd1 ?_
  iterate 5 refine puL (h := ?_)
  refine stL (hy := fun w hS => by obtain ⟨f0, f1, f2, -⟩ := cells3 (HX0c.out.later hS); go_simp <;> with_reducible rfl) (h := ?_)
  refine stL (hy := fun w hS => by obtain ⟨f0, f1, f2, f3, f4, f5, f6, f7, f8, f9, g0, g1, g2, g3, g4, g5, -⟩ := cells16 (HX1c.out.later hS); go_simp <;> with_reducible rfl) (h := ?_)
  refine stL (hy := fun w hS => by obtain ⟨f0, f1, f2, f3, f4, f5, f6, f7, f8, f9, g0, g1, g2, g3, g4, g5, -⟩ := cells16 (HX1c.out.later hS); go_simp <;> with_reducible rfl) (h := ?_)
  refine alL fun K hK => ?_
  go_wp2_with fail
  refine (small_any ar _).mono ?_
  rintro e k0 ⟨rfl, rfl⟩
  rw [HSR.out]
  go_wp2
  refine hK.out _ _ bd1 ?_
  clear hK K
  refine alL fun K hK => ?_
  go_wp2_with fail
  refine (small_any ac _).mono ?_
  rintro e k0 ⟨rfl, rfl⟩
  rw [HSC.out]
  go_wp2
  refine hK.out _ _ bd1 ?_
  clear hK K
  refine alL fun K hK => ?_
  go_wp2_with fail
  refine (rgfit_any A R C cap g _ (HL2.out.drewN 1) HGO.out R0 C0 q1 q2 q3 q4).mono ?_
  rintro e k1 ⟨A5, cap5, rfl, hl, hb⟩
  have Bk1 : Below w2.heap.size w2 k1 := ((Below.refl w2.heap.size w2).drewN 1).trans hb
  have HLz := hide hl
  have HGz := hide (HG2.out.later Bk1)
  have HTz := hide (HT2.out.thenB Bk1)
  have HX2z := hide (HX2c.out.later Bk1)
  clear hl hb; clear a0 a1 a2 a3 a4 a5 a6 a7 a8 a9 b0 b1 b2 b3 b4 b5 la p0 p1 p2 lp y0 y1 y2 ly
  obtain ⟨z0, z1, z2, lz⟩ := cells3 HX2z.out
  have hzf := HX2z.out.frozen
  go_wp2
  refine hK.out _ _ (Bk1) ?_
  clear hK K
  refine alL fun K hK => ?_
  go_wp2
  refine hK.out _ _ (Bk1) ?_
  clear hK K
  iterate 4 refine puL (h := ?_)
  refine laL fun K hK => ?_
  go_wp2
  refine hK.out _ _ ?_
  clear hK K
  refine laL fun K hK => ?_
  go_wp2
  refine hK.out _ _ ?_
  clear hK K
  refine chainL_nil ?_
  clear Bk1; go_wp2
  refine retG3 Tryz.results24 rfl rfl rfl rfl (put3 HX2z.out _ _ _) ?_
  exact did_end HGz.out HLz.out HOK.out HTz.out (.inr HN.out.1.1) (.inr HN.out.1.2) (.inr HN.out.2) HX2z.out (by omega) _ _ _
 ·have HNS := hide hs
  have HSZ : Hid (sizeB sr sc = false) := by unfold Hid sizeB; simpa using hs
  have HSR := hide hsr; have HSC := hide hsc; clear hs hsr hsc
  go_enter Tryz.func24, Tryz.ntmps24
  go_wp2; rw [HW0.out]
  refine rgL (fun w' => Below W0.heap.size W0 w') 12 [(2, 0), (2, 1), (2, 4), (0, 2), (0, 5), (1, 3), (1, 6), (1, 7), (1, 8), (2, 9), (2, 11), (1, 10), (3, 12)] bd1 ?_
  iterate 3 refine puL (h := ?_)
  refine stL (hy := fun w hS => by obtain ⟨f0, f1, f2, f3, f4, f5, f6, f7, f8, f9, g0, g1, g2, g3, g4, g5, -⟩ := cells16 (HX1.out.later hS); go_simp <;> with_reducible rfl) (h := ?_)
  refine stL (hy := fun w hS => by obtain ⟨f0, f1, f2, f3, f4, f5, f6, f7, f8, f9, g0, g1, g2, g3, g4, g5, -⟩ := cells16 (HX1.out.later hS); go_simp <;> with_reducible rfl) (h := ?_)
  refine alL fun K hK => ?_
  go_wp2_with fail
  refine (small_any ar _).mono ?_
  rintro e k0 ⟨rfl, rfl⟩
  rw [HSR.out]
  go_wp2
  refine hK.out _ _ bd1 ?_
  clear hK K
  refine alL fun K hK => ?_
  go_wp2_with fail
  refine (small_any ac _).mono ?_
  rintro e k0 ⟨rfl, rfl⟩
  rw [HSC.out]
  go_wp2
  refine hK.out _ _ bd1 ?_
  clear hK K
  refine alL fun K hK => ?_
  go_wp2_with fail
  refine (fit_no (HG0.out.later bd1) sr sc HNS.out).mono ?_
  rintro e w1 ⟨rfl, hb⟩
  have Bk1 : Below W0.heap.size W0 w1 := ((Below.refl W0.heap.size W0).drewN 1).trans hb
  have HL1 := hide (HL0.out.below Bk1)
  have HGb := hide (HG0.out.later Bk1)
  have HT1 := hide (Trn.of_below (G := G) (L := L) (M := M) (HB0.out.trans (Bk1.mono HB0.out.size)))
  have HX0b := hide (HX0.out.later Bk1)
  have HX1b := hide (HX1.out.later Bk1)
  have HX2b := hide (HX2.out.later Bk1)
  have HX3b := hide (HX3.out.later Bk1)
  clear hb; go_wp2
  refine hK.out _ _ (Bk1) ?_
  clear hK K
  refine alL fun K hK => ?_
  go_wp2
  refine hK.out _ _ (Bk1) ?_
  clear hK K
  refine puL (h := ?_)
  refine puL (h := ?_)
  refine alL fun K hK => ?_
  go_wp2
  refine hK.out _ _ (Bk1) ?_
  clear hK K
  refine laL fun K hK => ?_
  go_wp2
  refine hK.out _ _ ?_
  clear hK K
  refine chainL_nil ?_
  clear Bk1; clear a0 a1 a2 a3 a4 a5 a6 a7 a8 a9 b0 b1 b2 b3 b4 b5 la p0 p1 p2 lp y0 y1 y2 ly
  obtain ⟨a0, a1, a2, a3, a4, a5, a6, a7, a8, a9, b0, b1, b2, b3, b4, b5, la⟩ := cells16 HX1b.out
  obtain ⟨p0, p1, p2, lp⟩ := cells3 HX0b.out
  obtain ⟨y0, y1, y2, ly⟩ := cells3 HX3b.out
  go_wp2
  refine rgL (fun w' => Below w1.heap.size w1 w') 6 [(2, 0), (2, 3), (0, 1), (0, 4), (1, 2), (1, 5), (3, 6), (3, 7)] bd1 ?_
  refine puL (h := ?_)
  refine puL (h := ?_)
  refine stL (hy := fun w hS => by obtain ⟨f0, f1, f2, f3, f4, f5, f6, f7, f8, f9, g0, g1, g2, g3, g4, g5, -⟩ := cells16 (HX1b.out.later hS); go_simp <;> with_reducible rfl) (h := ?_)
  refine stL (hy := fun w hS => by obtain ⟨f0, f1, f2, f3, f4, f5, f6, f7, f8, f9, g0, g1, g2, g3, g4, g5, -⟩ := cells16 (HX1b.out.later hS); go_simp <;> with_reducible rfl) (h := ?_)
  refine alL fun K hK => ?_
  go_wp2_with fail
  refine (small_any ar _).mono ?_
  rintro e k0 ⟨rfl, rfl⟩
  rw [HSR.out]
  go_wp2
  refine hK.out _ _ bd1 ?_
  clear hK K
  refine alL fun K hK => ?_
  go_wp2_with fail
  refine (small_any ac _).mono ?_
  rintro e k0 ⟨rfl, rfl⟩
  rw [HSC.out]
  go_wp2
  refine hK.out _ _ bd1 ?_
  clear hK K
  refine laL fun K hK => ?_
  go_wp2_with fail
  refine (rsize_any sr sc _).mono ?_
  rintro e k0 ⟨rfl, rfl⟩
  rw [HSZ.out]
  go_wp2
  refine hK.out _ _ ?_
  clear hK K
  refine laL fun K hK => ?_
  go_wp2
  refine hK.out _ _ ?_
  clear hK K
  refine chainL_nil ?_
  obtain ⟨w2, hw2⟩ := exq (w1.drew)
  have hb2 : Below w1.heap.size w1 w2 := by rw [← hw2]; exact (Below.refl _ _).drewN 1
  have HL2 := hide (HL1.out.below hb2)
  have HT2 := hide (HT1.out.thenB hb2)
  have HX0c := hide (HX0b.out.later hb2)
  have HX1c := hide (HX1b.out.later hb2)
  have HX2c := hide (HX2b.out.later hb2)
  have HX3c := hide (HX3b.out.later hb2)
  have HGz := hide (HGb.out.later hb2)
  rw [hw2]
  clear hb2 hw2; clear a0 a1 a2 a3 a4 a5 a6 a7 a8 a9 b0 b1 b2 b3 b4 b5 la p0 p1 p2 lp y0 y1 y2 ly
  obtain ⟨a0, a1, a2, a3, a4, a5, a6, a7, a8, a9, b0, b1, b2, b3, b4, b5, la⟩ := cells16 HX1c.out
  obtain ⟨p0, p1, p2, lp⟩ := cells3 HX0c.out
  obtain ⟨y0, y1, y2, ly⟩ := cells3 HX3c.out
  obtain ⟨z0, z1, z2, lz⟩ := cells3 HX2c.out
  have hzf := HX2c.out.frozen
  go_wp2
  refine rgL (fun _ => True) 9 [(2, 0), (2, 2), (2, 3), (2, 4), (2, 5), (2, 8), (2, 6), (2, 7), (1, 1), (3, 9), (3, 10)] (trivial) ?_
  iterate 8 refine puL (h := ?_)
  refine alL fun K hK => ?_
  go_wp2
  refine hK.out _ _ (trivial) ?_
  clear hK K
  refine laL fun K hK => ?_
  go_wp2
  refine hK.out _ _ ?_
  clear hK K
  refine laL fun K hK => ?_
  go_wp2
  refine hK.out _ _ ?_
  clear hK K
  refine chainL_nil ?_
  go_wp2
  refine retG3 Tryz.results24 rfl rfl rfl rfl (put3 HX2c.out _ _ _).drew ?_
  exact Did.drew (did_end HGz.out HL2.out HGO.out HT2.out (.inl rfl) (.inl rfl) (.inl rfl) HX2c.out (by omega) _ _ _)
structure Ac where
 k : Int
 r : Int
 c : Int
 t : Int
 xr : Int
 xm : Int
 xn : Int
 xd : Nat
 xf : Nat
 xg : Nat
 xb : Nat
 m : Int
 pf : Nat
 pg : Nat
 pb : Nat
 Al : Option Addr
 nl : Nat
 cl : Nat
 cs : List Cel
def actL (a : Ac) : List Value := [.int .i64 a.k, .int .i64 a.r, .int .i64 a.c, .int .i64 a.t, .int .i32 a.xr, .int .i32 a.xm, .int .i32 a.xn, .int .u8 a.xd, .int .u8 a.xf, .int .u8 a.xg, .int .u8 a.xb, .int .i32 a.m, .int .u8 a.pf, .int .u8 a.pg, .int .u8 a.pb, .slice a.Al a.nl a.cl]
structure AcOk (w : World) (a : Ac) : Prop where
 c : -9223372036854775808 ≤ a.c ∧ a.c < 9223372036854775808
 x : CelOk a.xr a.xm a.xn a.xd a.xf a.xg a.xb
 m : R32 a.m
 p : PenOk a.pf a.pg a.pb
 l : LineIn w a.Al a.nl a.cl a.cs
theorem LineIn.below {w w' : World} {A : Option Addr} {n c : Nat} {cs : List Cel} (h : LineIn w A n c cs) (hb : Below w.heap.size w w') : LineIn w' A n c cs := ⟨h.1.below hb, h.2⟩
theorem AcOk.below {w w' : World} {a : Ac} (h : AcOk w a) (hb : Below w.heap.size w w') : AcOk w' a := ⟨h.c, h.x, h.m, h.p, h.l.below hb⟩
theorem do_any {w : World} {G L M R C : Nat} {g : Gd} (h : Grd w G L M R C g) (hok : GOk g R C) (A : Option Addr) (cap : Nat) (hl : Lns w A g.ls) (hS : Spans w) (a : Ac) (ha : AcOk w a) :
  Calls Tryz.prog 24 #[.pointer (some ⟨G, 0, none⟩), .agg #[.slice A R cap, .int .i64 g.row, .int .i64 g.col], .agg #[.int .i64 a.k, .int .i64 a.r, .int .i64 a.c, .int .i64 a.t, .int .i32 a.xr, .int .i32 a.xm, .int .i32 a.xn, .int .u8 a.xd, .int .u8 a.xf, .int .u8 a.xg, .int .u8 a.xb, .int .i32 a.m, .int .u8 a.pf, .int .u8 a.pg, .int .u8 a.pb, .slice a.Al a.nl a.cl]] w (Did w G L M) := by
 obtain ⟨k, r, c, t, xr, xm, xn, xd, xf, xg, xb, m, pf, pg, pb, Al, nl, cl, cs⟩ := a
 obtain ⟨hc, hx, hm, hp, hI⟩ := ha
 simp only at hc hx hm hp hI ⊢
 by_cases h0 : k = 0
 ·subst h0; exact do_put h hok A cap hl hS r c t xr xm xn xd xf xg xb m pf pg pb Al nl cl hc hx
 by_cases h1 : k = 1
 ·subst h1; exact do_mark h hok A cap hl hS r c t xr xm xn xd xf xg xb m pf pg pb Al nl cl hm
 by_cases h2 : k = 2
 ·subst h2; exact do_erase h hok A cap hl hS r c t xr xm xn xd xf xg xb m pf pg pb Al nl cl
 by_cases h3 : k = 3
 ·subst h3; exact do_lay h hok A cap hl hS r c t xr xm xn xd xf xg xb m pf pg pb Al nl cl cs hI
 by_cases h4 : k = 4
 ·subst h4; exact do_move h hok A cap hl hS r c t xr xm xn xd xf xg xb m pf pg pb Al nl cl
 by_cases h5 : k = 5
 ·subst h5; exact do_scroll h hok A cap hl hS r c t xr xm xn xd xf xg xb m pf pg pb Al nl cl
 by_cases h6 : k = 6
 ·subst h6; exact do_fit h hok A cap hl hS r c t xr xm xn xd xf xg xb m pf pg pb Al nl cl
 by_cases h7 : k = 7
 ·subst h7; exact do_copy h hok A cap hl hS r c t xr xm xn xd xf xg xb m pf pg pb Al nl cl
 exact do_other h hok A cap hl hS r c t xr xm xn xd xf xg xb m pf pg pb Al nl cl k (by simpa using h0) (by simpa using h1) (by simpa using h2) (by simpa using h3) (by simpa using h4) (by simpa using h5) (by simpa using h6) (by simpa using h7)
def Acts (w : World) (A : Option Addr) (n : Nat) : Prop := n = 0 ∨ ∃ (b off : Nat) (F : Nat → Ac), A = some ⟨b, off, none⟩ ∧ ∀ i, i < n → (∀ d v, (actL (F i))[d]? = some v → w.cell? ⟨b, off + i * 16 + d, none⟩ = some v) ∧ AcOk w (F i)
theorem Acts.below {w w' : World} {A : Option Addr} {n : Nat} (h : Acts w A n) (hb : Below w.heap.size w w') : Acts w' A n := by
 rcases h with h | ⟨b, off, F, ha, hc⟩
 ·exact .inl h
 ·refine .inr ⟨b, off, F, ha, fun i hi => ⟨fun d v hv => ?_, (hc i hi).2.below hb⟩⟩
  have := (hc i hi).1 d v hv
  rw [hb.cell (block_lt_of_cell this), this]
theorem Acts.at {w : World} {A : Option Addr} {n i : Nat} (h : Acts w A n) (hi : i < n) : ∃ (b off : Nat) (a : Ac), A = some ⟨b, off, none⟩ ∧ b < w.heap.size ∧ AcOk w a ∧
  (w.cell? ⟨b, off + i * 16, none⟩ = some (.int .i64 a.k) ∧ w.cell? ⟨b, off + i * 16 + 1, none⟩ = some (.int .i64 a.r) ∧ w.cell? ⟨b, off + i * 16 + 2, none⟩ = some (.int .i64 a.c) ∧ w.cell? ⟨b, off + i * 16 + 3, none⟩ = some (.int .i64 a.t) ∧
   w.cell? ⟨b, off + i * 16 + 4, none⟩ = some (.int .i32 a.xr) ∧ w.cell? ⟨b, off + i * 16 + 5, none⟩ = some (.int .i32 a.xm) ∧ w.cell? ⟨b, off + i * 16 + 6, none⟩ = some (.int .i32 a.xn) ∧ w.cell? ⟨b, off + i * 16 + 7, none⟩ = some (.int .u8 a.xd) ∧
   w.cell? ⟨b, off + i * 16 + 8, none⟩ = some (.int .u8 a.xf) ∧ w.cell? ⟨b, off + i * 16 + 9, none⟩ = some (.int .u8 a.xg) ∧ w.cell? ⟨b, off + i * 16 + 10, none⟩ = some (.int .u8 a.xb) ∧ w.cell? ⟨b, off + i * 16 + 11, none⟩ = some (.int .i32 a.m) ∧
   w.cell? ⟨b, off + i * 16 + 12, none⟩ = some (.int .u8 a.pf) ∧ w.cell? ⟨b, off + i * 16 + 13, none⟩ = some (.int .u8 a.pg) ∧ w.cell? ⟨b, off + i * 16 + 14, none⟩ = some (.int .u8 a.pb) ∧ w.cell? ⟨b, off + i * 16 + 15, none⟩ = some (.slice a.Al a.nl a.cl)) := by
 rcases h with h | ⟨b, off, F, ha, hc⟩
 ·omega
 ·obtain ⟨h1, h2⟩ := hc i hi
  exact ⟨b, off, F i, ha, block_lt_of_cell (h1 0 _ rfl), h2, h1 0 _ rfl, h1 1 _ rfl, h1 2 _ rfl, h1 3 _ rfl, h1 4 _ rfl, h1 5 _ rfl, h1 6 _ rfl, h1 7 _ rfl, h1 8 _ rfl, h1 9 _ rfl, h1 10 _ rfl, h1 11 _ rfl, h1 12 _ rfl, h1 13 _ rfl, h1 14 _ rfl, h1 15 _ rfl⟩
structure Pair (B : Nat) (w : World) (G L M R C : Nat) (g : Gd) (Q : Nat) (A : Option Addr) (cap : Nat) : Prop where
 grd : Grd w G L M R C g
 ok : GOk g R C
 q : Whole w Q 26 [.slice A R cap, .int .i64 g.row, .int .i64 g.col]
 lns : Lns w A g.ls
 hG : B ≤ G
 hL : B ≤ L
 hM : B ≤ M
 hQ : B ≤ Q
section
variable {B : Nat} {w w' : World} {G L M R C : Nat} {g : Gd} {Q : Nat} {A : Option Addr} {cap : Nat}
theorem Pair.later (h : Pair B w G L M R C g Q A cap) (hb : Below w.heap.size w w') : Pair B w' G L M R C g Q A cap :=
 ⟨h.grd.later hb, h.ok, h.q.later hb, h.lns.below hb, h.hG, h.hL, h.hM, h.hQ⟩
theorem Pair.far (h : Pair B w G L M R C g Q A cap) {G' L' M' R' C' : Nat} {g' : Gd} (h' : Grd w G' L' M' R' C' g') (ht : Trn G' L' M' w w') (hGL : G ≠ G' ∧ L ≠ L' ∧ M ≠ M') : Pair B w' G L M R C g Q A cap := by
 have hd := h'
 obtain ⟨cap', ps', room', more', ha'⟩ := h'
 have hg := h.grd
 obtain ⟨cap0, ps0, room0, more0, ha⟩ := h.grd
 refine ⟨hg.far ht ⟨hGL.1, ha.top.ne ha'.lines (by decide), ha.top.ne ha'.piece (by decide)⟩ ⟨ha.lines.ne ha'.top (by decide), hGL.2.1, ha.lines.ne ha'.piece (by decide)⟩ ⟨ha.piece.ne ha'.top (by decide), ha.piece.ne ha'.lines (by decide), hGL.2.2⟩, h.ok,
  ht.whole h.q (h.q.ne ha'.top (by decide)) (h.q.ne ha'.lines (by decide)) (h.q.ne ha'.piece (by decide)), h.lns.turn hd ht, h.hG, h.hL, h.hM, h.hQ⟩
theorem Pair.put3 (h : Pair B w G L M R C g Q A cap) {q : Nat} {l : List Value} (hq : Whole w q 26 l) (hne : Q ≠ q) (x0 x1 x2 : Value) : Pair B (((w.setCell ⟨q, 0, none⟩ x0).setCell ⟨q, 1, none⟩ x1).setCell ⟨q, 2, none⟩ x2) G L M R C g Q A cap :=
 ⟨h.grd.put3 hq _ _ _, h.ok, h.q.same (heap_put3 _ _ _ _ _ _ hne), h.lns.put3 hq (by decide) (by decide) _ _ _, h.hG, h.hL, h.hM, h.hQ⟩
theorem Spans.put3 (hS : Spans w) {q : Nat} (hq : q ≠ 0) (x0 x1 x2 : Value) : Spans (((w.setCell ⟨q, 0, none⟩ x0).setCell ⟨q, 1, none⟩ x1).setCell ⟨q, 2, none⟩ x2) := by
 intro j v hv
 have := hS j v hv
 unfold World.cell? at this ⊢
 simp only at this ⊢
 rw [heap_put3 _ _ _ _ _ _ (Ne.symm hq)]
 exact this
end
structure One (w0 w : World) (G L M R C : Nat) (g : Gd) (Q : Nat) (A : Option Addr) (cap : Nat) : Prop where
 p : Pair w0.heap.size w G L M R C g Q A cap
 sp : Spans w
 bel : Below w0.heap.size w0 w
 pos : 0 < w0.heap.size
section
variable {w0 w w' : World} {G L M R C : Nat} {g : Gd} {Q : Nat} {A : Option Addr} {cap : Nat}
theorem One.later (h : One w0 w G L M R C g Q A cap) (hb : Below w.heap.size w w') : One w0 w' G L M R C g Q A cap := ⟨h.p.later hb, h.sp.below hb, h.bel.trans (hb.mono h.bel.size), h.pos⟩
theorem One.drew (h : One w0 w G L M R C g Q A cap) : One w0 w.drew G L M R C g Q A cap := h.later bd1
theorem Pair.turned {B : Nat} (h : Pair B w G L M R C g Q A cap) (ht : Trn G L M w w') : Whole w' Q 26 [.slice A R cap, .int .i64 g.row, .int .i64 g.col] := by
 obtain ⟨cap0, ps0, room0, more0, ha⟩ := h.grd
 exact ht.whole h.q (h.q.ne ha.top (by decide)) (h.q.ne ha.lines (by decide)) (h.q.ne ha.piece (by decide))
theorem One.next (h : One w0 w G L M R C g Q A cap) {g' : Gd} {R' C' G' L' M' : Nat} {A' : Option Addr} {cap' : Nat} (hg : Grd w' G' L' M' R' C' g') (hl : Lns w' A' g'.ls) (hok : GOk g' R' C') (ht : Trn G L M w w')
  (hG : G' = G ∨ w.heap.size ≤ G') (hL : L' = L ∨ w.heap.size ≤ L') (hM : M' = M ∨ w.heap.size ≤ M') :
  One w0 (((w'.setCell ⟨Q, 0, none⟩ (.slice A' R' cap')).setCell ⟨Q, 1, none⟩ (.int .i64 g'.row)).setCell ⟨Q, 2, none⟩ (.int .i64 g'.col)) G' L' M' R' C' g' Q A' cap' := by
 have hq := h.p.turned ht
 have h1 := h.p.hG
 have h2 := h.p.hL
 have h3 := h.p.hM
 have h4 := h.p.hQ
 have h5 := h.bel.size
 have h6 := h.pos
 exact ⟨⟨hg.put3 hq _ _ _, hok, put3 hq _ _ _, hl.put3 hq (by decide) (by decide) _ _ _, by rcases hG with q | q <;> omega, by rcases hL with q | q <;> omega, by rcases hM with q | q <;> omega, h4⟩,
  (h.sp.turn h.p.grd h.p.ok.r1 ht).put3 (by omega) _ _ _, below_put3 (ht.below h.bel h5 h1 h2 h3) h4 _ _ _, h.pos⟩
theorem One.other (h : One w0 w G L M R C g Q A cap) {G2 L2 M2 R2 C2 : Nat} {g2 : Gd} {Q2 : Nat} {A2 : Option Addr} {cap2 : Nat} (h2 : Pair w0.heap.size w G2 L2 M2 R2 C2 g2 Q2 A2 cap2) (hne : G2 ≠ G ∧ L2 ≠ L ∧ M2 ≠ M) (hq : Q2 ≠ Q) (ht : Trn G L M w w') (x0 x1 x2 : Value) :
  Pair w0.heap.size (((w'.setCell ⟨Q, 0, none⟩ x0).setCell ⟨Q, 1, none⟩ x1).setCell ⟨Q, 2, none⟩ x2) G2 L2 M2 R2 C2 g2 Q2 A2 cap2 :=
 (h2.far h.p.grd ht hne).put3 (h.p.turned ht) hq _ _ _
theorem apart_next {B : Nat} {G2 L2 M2 R2 C2 : Nat} {g2 : Gd} {Q2 : Nat} {A2 : Option Addr} {cap2 : Nat} (h2 : Pair B w G2 L2 M2 R2 C2 g2 Q2 A2 cap2) (hne : G2 ≠ G ∧ L2 ≠ L ∧ M2 ≠ M) {G' L' M' : Nat} (hG : G' = G ∨ w.heap.size ≤ G') (hL : L' = L ∨ w.heap.size ≤ L') (hM : M' = M ∨ w.heap.size ≤ M') : G2 ≠ G' ∧ L2 ≠ L' ∧ M2 ≠ M' := by
 have h1 := h2.grd.ltG
 have h3 := h2.grd.ltL
 have h4 := h2.grd.ltM
 obtain ⟨n1, n2, n3⟩ := hne
 refine ⟨?_, ?_, ?_⟩
 ·rcases hG with q | q <;> omega
 ·rcases hL with q | q <;> omega
 ·rcases hM with q | q <;> omega
end
theorem sizeN_small {r c : Int} (h : sizeN r c) : ∃ R C : Nat, r = (R : Int) ∧ c = (C : Int) ∧ 1 ≤ R ∧ R ≤ 512 ∧ 1 ≤ C ∧ C ≤ 512 := by
 obtain ⟨⟨h1, h2⟩, h3, h4⟩ := h
 exact ⟨r.toNat, c.toNat, by omega, by omega, by omega, by omega, by omega, by omega⟩
theorem lgsame_yes {G L M R C : Nat} {g : Gd} {w : World} (h : Grd w G L M R C g) (hok : GOk g R C) (A : Option Addr) (cap : Nat) (hl : Lns w A g.ls) : Calls Tryz.prog 17 #[.pointer (some ⟨G, 0, none⟩), .agg #[.slice A R cap, .int .i64 g.row, .int .i64 g.col]] w (Said true w) := by
 obtain ⟨W0, hW0⟩ := exq (w.alloc (.cells #[.slice A R cap, .int .i64 g.row, .int .i64 g.col] 26))
 have HB0 : Hid (Below w.heap.size w W0) := by unfold Hid; rw [← hW0]; exact new1W _ _
 have HX0 : Hid (Whole W0 (w.heap.size) 26 [.slice A R cap, .int .i64 g.row, .int .i64 g.col]) := by unfold Hid; rw [← hW0]; exact (Whole.new _ _ _)
 have HW0 := hide hW0; clear hW0
 have HG := hide (h.later HB0.out)
 have HL := hide (hl.below HB0.out)
 have HGO := hide hok
 have hR1 := hok.r1
 have hR2 := hok.r2
 have hC2 := hok.c2
 have HLen := hide hok.len
 have HC0 := hide (hok.each 0 hok.r1).1
 have HLn : Hid (∀ i, i < R → (lAt g.ls i).length ≤ 1000000) := by unfold Hid; intro i hi; rw [(hok.each i hi).1]; omega
 clear h hl hok
 go_enter Tryz.func17, Tryz.ntmps17
 go_wp2; rw [HW0.out]
 refine rgL (fun w' => Below W0.heap.size W0 w') 19 [(2, 0), (2, 2), (0, 3), (2, 4), (1, 1), (1, 5), (1, 6), (2, 7), (0, 9), (1, 8), (1, 10), (1, 11), (1, 12), (1, 13), (2, 14), (0, 16), (1, 15), (1, 17), (1, 18), (3, 19)] bd1 ?_
 refine puL (h := ?_)
 refine puL (h := ?_)
 refine stL (hy := fun w hS => by obtain ⟨d0, d1, d2, -⟩ := cells3 (HX0.out.later hS); go_simp <;> with_reducible rfl) (h := ?_)
 refine puL (h := ?_)
 refine alL fun K hK => ?_
 go_wp2_with fail
 refine (rows_any (HG.out.later bd1)).mono ?_
 rintro e k0 ⟨rfl, rfl⟩
 go_wp2
 refine hK.out _ _ bd1 ?_
 clear hK K
 refine alL fun K hK => ?_
 go_wp2
 refine hK.out _ _ bd1 ?_
 clear hK K
 refine alL fun K hK => ?_
 go_wp2
 refine hK.out _ _ bd1 ?_
 clear hK K
 refine puL (h := ?_)
 refine stL (hy := fun w hS => by obtain ⟨d0, d1, d2, -⟩ := cells3 (HX0.out.later hS); go_simp <;> with_reducible rfl) (h := ?_)
 refine alL fun K hK => ?_
 go_wp2_with fail
 refine (cols_any (HG.out.later bd1) hR1).mono ?_
 rintro e k0 ⟨rfl, rfl⟩
 go_wp2
 refine hK.out _ _ bd1 ?_
 clear hK K
 refine alL fun K hK => ?_
 go_wp2_with fail
 refine (rgcols_any A R cap C g.row g.col g.ls _ (HL.out.drewN 1) HLen.out hR1 HC0.out).mono ?_
 rintro e k1 ⟨rfl, hb⟩
 have B1 : Below W0.heap.size W0 k1 := ((Below.refl W0.heap.size W0).drewN 1).trans hb
 clear hb; go_wp2
 refine hK.out _ _ (B1) ?_
 clear hK K
 refine alL fun K hK => ?_
 go_wp2
 refine hK.out _ _ (B1) ?_
 clear hK K
 refine alL fun K hK => ?_
 go_wp2
 refine hK.out _ _ (B1) ?_
 clear hK K
 refine alL fun K hK => ?_
 go_wp2
 refine hK.out _ _ (B1) ?_
 clear hK K
 refine puL (h := ?_)
 refine stL (hy := fun w hS => by obtain ⟨d0, d1, d2, -⟩ := cells3 (HX0.out.later hS); go_simp <;> with_reducible rfl) (h := ?_)
 refine alL fun K hK => ?_
 go_wp2_with fail
 refine (gof_any (HG.out.later B1) HGO.out).mono ?_
 rintro e k2 ⟨A5, cap5, rfl, hl, hb⟩
 have B2 : Below W0.heap.size W0 k2 := B1.trans (hb.mono B1.size)
 have HL5 := hide hl; clear hl hb; go_wp2
 refine hK.out _ _ (B2) ?_
 clear hK K
 refine alL fun K hK => ?_
 go_wp2_with fail
 refine (rgsame_any A5 A R R cap5 cap g g k2 HL5.out (HL.out.below B2) HLen.out HLen.out hR2 HLn.out).mono ?_
 rintro e k3 ⟨rfl, hb⟩
 rw [sameG_self]
 have B3 : Below W0.heap.size W0 k3 := B2.trans (hb.mono B2.size)
 clear hb; go_wp2
 refine hK.out _ _ (B3) ?_
 clear hK K
 refine alL fun K hK => ?_
 go_wp2
 refine hK.out _ _ (B3) ?_
 clear hK K
 refine laL fun K hK => ?_
 go_wp2
 refine hK.out _ _ ?_
 clear hK K
 refine chainL_nil ?_
 have HBZ := hide (HB0.out.trans (B3.mono HB0.out.size))
 clear B1 B2 B3; go_wp2; go_ret
 exact ⟨rfl, HBZ.out⟩
def atC (g : Gd) (R C : Nat) (r c : Int) : Cel × Bool := if hasG R r ∧ 0 ≤ c ∧ c < (C : Int) then (cAt (lAt g.ls r.toNat) c.toNat, true) else (zeroC, false)
theorem gat_any {G L M R C : Nat} {g : Gd} {w : World} (h : Grd w G L M R C g) (hC : C ≤ 512) (r c : Int) (x m y : Int) (d f z b : Nat) (ok : Bool) (hat : atC g R C r c = (⟨x, m, y, d, ⟨f, z, b⟩⟩, ok)) :
  Calls Tryz.prog 28 #[.pointer (some ⟨G, 0, none⟩), .int .i64 r, .int .i64 c] w fun e w' => e = .returned (.tuple #[.agg #[.int .i32 x, .int .i32 m, .int .i32 y, .int .u8 d, .int .u8 f, .int .u8 z, .int .u8 b], .bool ok]) ∧ Below w.heap.size w w' := by
 unfold atC at hat
 by_cases q : hasG R r ∧ 0 ≤ c ∧ c < (C : Int)
 ·rw [if_pos q] at hat
  simp only [Prod.mk.injEq] at hat
  obtain ⟨h1, rfl⟩ := hat
  have e1 : ((r.toNat : Nat) : Int) = r := by unfold hasG at q; omega
  have e2 : ((c.toNat : Nat) : Int) = c := by omega
  have := gat_yes h r.toNat c.toNat (by unfold hasG at q; omega) (by omega) hC x m y d f z b h1
  rw [e1, e2] at this
  exact this
 ·rw [if_neg q] at hat
  simp only [Prod.mk.injEq, zeroC, zeroP, Cel.mk.injEq, Pn.mk.injEq] at hat
  obtain ⟨⟨rfl, rfl, rfl, rfl, rfl, rfl, rfl⟩, rfl⟩ := hat
  exact gat_no h r c q
end
section
open Go.ChangeShapes Go.WideShapes Go.ChangeAt Go.RowKit Go.Joins
theorem structAct : ∃ f0 f1 f2 f3 f4 f5 f6 f7 : Field, Tryz.prog.underlying 67 = some (.struct #[f0, f1, f2, f3, f4, f5, f6, f7]) ∧ (f0.type = 3 ∧ f1.type = 3 ∧ f2.type = 3 ∧ f3.type = 3 ∧ f4.type = 65 ∧ f5.type = 21 ∧ f6.type = 63 ∧ f7.type = 45) ∧ (f0.offset = 0 ∧ f1.offset = 1 ∧ f2.offset = 2 ∧ f3.offset = 3 ∧ f4.offset = 4 ∧ f5.offset = 11 ∧ f6.offset = 12 ∧ f7.offset = 15) :=
 ⟨_, _, _, _, _, _, _, _, Tryz.underlying67, ⟨rfl, rfl, rfl, rfl, rfl, rfl, rfl, rfl⟩, ⟨rfl, rfl, rfl, rfl, rfl, rfl, rfl, rfl⟩⟩
theorem sizeAct : Tryz.prog.cellsOf 67 = 16 := by kernel_rfl
theorem sizeLine : Tryz.prog.cellsOf 45 = 1 := by kernel_rfl
theorem list16 {α : Type} {cs : List α} (h : cs.length = 16) : ∃ c0 c1 c2 c3 c4 c5 c6 c7 c8 c9 d0 d1 d2 d3 d4 d5, cs = [c0, c1, c2, c3, c4, c5, c6, c7, c8, c9, d0, d1, d2, d3, d4, d5] := by
 match cs, h with
 | [c0, c1, c2, c3, c4, c5, c6, c7, c8, c9, d0, d1, d2, d3, d4, d5], _ => exact ⟨c0, c1, c2, c3, c4, c5, c6, c7, c8, c9, d0, d1, d2, d3, d4, d5, rfl⟩
section
variable {H : Type} {enc : TypeId × Value → H} {w : World} {base : Nat} {spare : Nat → Bool} {held : Bool}
theorem cells_line {fuel : Nat} {c : Value} {x : DataW H × List MemPlace} (h : DataW.trod enc Tryz.prog w base spare held fuel 45 [c] = some x) : ∃ a len cap cs, c = .slice a len cap ∧ LineIn w a len cap cs := by
 have h0 := h
 rcases Deep.open_slice Tryz.underlying45 h with ⟨hcs, _⟩ | ⟨ad, l, cp, m, n, D, Pl, hcs, _⟩
 ·obtain rfl : c = .slice none 0 0 := by simpa using hcs
  obtain ⟨cs, hI⟩ := open_line (x := x.1) (p := x.2) ⟨fuel, h0⟩
  exact ⟨none, 0, 0, cs, rfl, hI⟩
 ·obtain rfl : c = .slice (some ad) l cp := by simpa using hcs
  obtain ⟨cs, hI⟩ := open_line (x := x.1) (p := x.2) ⟨fuel, h0⟩
  exact ⟨some ad, l, cp, cs, rfl, hI⟩
theorem cells_act {fuel : Nat} {cs : List Value} {x : DataW H × List MemPlace} (hlen : cs.length = 16) (h : DataW.trod enc Tryz.prog w base spare held fuel 67 cs = some x) : ∃ a : Ac, cs = actL a ∧ AcOk w a := by
 obtain ⟨c0, c1, c2, c3, c4, c5, c6, c7, c8, c9, d0, d1, d2, d3, d4, d5, rfl⟩ := list16 hlen
 obtain ⟨f0, f1, f2, f3, f4, f5, f6, f7, hu, ⟨e0, e1, e2, e3, e4, e5, e6, e7⟩, o0, o1, o2, o3, o4, o5, o6, o7⟩ := structAct
 obtain ⟨xs, n, _, rfl, hl, hxl, hf⟩ := DataW.trod_struct hu h
 match xs, hxl with
 | [y0, y1, y2, y3, y4, y5, y6, y7], _ =>
  have g0 := hf 0 f0 rfl
  have g1 := hf 1 f1 rfl
  have g2 := hf 2 f2 rfl
  have g3 := hf 3 f3 rfl
  have g4 := hf 4 f4 rfl
  have g5 := hf 5 f5 rfl
  have g6 := hf 6 f6 rfl
  have g7 := hf 7 f7 rfl
  rw [e0, o0, cellsI64] at g0
  rw [e1, o1, cellsI64] at g1
  rw [e2, o2, cellsI64] at g2
  rw [e3, o3, cellsI64] at g3
  rw [e4, o4, sizeCell] at g4
  rw [e5, o5, cellsI32] at g5
  rw [e6, o6, sizePen] at g6
  rw [e7, o7, sizeLine] at g7
  simp only [List.drop_zero, List.drop_succ_cons, List.take_succ_cons, List.take_zero, List.getElem?_cons_zero, List.getElem?_cons_succ] at g0 g1 g2 g3 g4 g5 g6 g7
  obtain ⟨n0, k0, r0, w0⟩ := DataW.trod_int Tryz.underlying3 g0
  obtain ⟨n1, k1, r1, w1⟩ := DataW.trod_int Tryz.underlying3 g1
  obtain ⟨n2, k2, r2, w2⟩ := DataW.trod_int Tryz.underlying3 g2
  obtain ⟨n3, k3, r3, w3⟩ := DataW.trod_int Tryz.underlying3 g3
  obtain ⟨xr, xm, xn, xd, xf, xg, xb, k4, w4⟩ := cells_cell g4
  obtain ⟨n5, k5, r5, w5⟩ := DataW.trod_int Tryz.underlying21 g5
  obtain ⟨pf, pg, pb, k6a, k6b, k6c, w6⟩ := cells_pen g6
  obtain ⟨Al, nl, cl, zs, k7, w7⟩ := cells_line g7
  simp only [List.cons.injEq, and_true] at k0 k1 k2 k3 k4 k5
  obtain ⟨k40, k41, k42, k43, k44, k45, k46⟩ := k4
  subst k0 k1 k2 k3 k40 k41 k42 k43 k44 k45 k46 k5 k6a k6b k6c k7
  exact ⟨⟨n0, n1, n2, n3, xr, xm, xn, xd, xf, xg, xb, n5, pf, pg, pb, Al, nl, cl, zs⟩, rfl, i64_bd w2, w4, i32_R w5, w6, w7⟩
theorem open_act {r : Reach} {b0 : Nat} {v : Value} {x : DataW H} {p : List MemPlace} (hv : Value.okWide Tryz.prog w r b0 67 v) (h : DataW.Trod enc Tryz.prog w base spare held 67 v x p) :
  ∃ a : Ac, v = .agg #[.int .i64 a.k, .int .i64 a.r, .int .i64 a.c, .int .i64 a.t, .int .i32 a.xr, .int .i32 a.xm, .int .i32 a.xn, .int .u8 a.xd, .int .u8 a.xf, .int .u8 a.xg, .int .u8 a.xb, .int .i32 a.m, .int .u8 a.pf, .int .u8 a.pg, .int .u8 a.pb, .slice a.Al a.nl a.cl] ∧ AcOk w a := by
 obtain ⟨f0, f1, f2, f3, f4, f5, f6, f7, hu, -⟩ := structAct
 obtain ⟨cs, rfl, hsz⟩ := okWide_struct hu hv
 obtain ⟨fuel, hf⟩ := h
 obtain ⟨a, e, ok⟩ := cells_act (by rw [Value.cells, Array.length_toList, hsz, sizeAct]) hf
 refine ⟨a, ?_, ok⟩
 have : cs = (actL a).toArray := by rw [← e]; simp [Value.cells]
 rw [this]
 rfl
theorem open_acts {a : Option Addr} {len cap : Nat} {x : DataW H} {p : List MemPlace} (h : DataW.Trod enc Tryz.prog w base spare held 22 (.slice a len cap) x p) : Acts w a len ∧ len ≤ cap := by
 obtain ⟨fuel, hf⟩ := h
 rcases Deep.open_slice Tryz.underlying22 hf with ⟨hcs, _⟩ | ⟨ad, l, c, m, n, D, Pl, hcs, hb, hl, hm, hmm, _, hel⟩
 ·simp [Value.cells] at hcs
  obtain ⟨rfl, rfl, rfl⟩ := hcs
  exact ⟨.inl rfl, Nat.le_refl _⟩
 ·simp [Value.cells] at hcs
  obtain ⟨rfl, rfl, rfl⟩ := hcs
  refine ⟨?_, hl⟩
  have hlm : len ≤ m := by rw [hmm]; split <;> omega
  rw [sizeAct] at hel
  have each : ∀ i, i < len → ∃ a : Ac, AcOk w a ∧ ∀ d v, (actL a)[d]? = some v → w.cell? ((ad.add (i * 16)).add d) = some v := by
   intro i hi
   obtain ⟨cs', h1, h2⟩ := hel i (by omega)
   obtain ⟨-, h3, h4⟩ := World.cells?_some h1
   obtain ⟨a, e, ok⟩ := cells_act h3 h2
   refine ⟨a, ok, fun d v hv => ?_⟩
   have hd : d < 16 := (List.getElem?_eq_some_iff.1 hv).1
   rw [h4 d hd, e]
   exact hv
  by_cases h0 : len = 0
  ·exact .inl h0
  ·obtain ⟨c0, _, hc0⟩ := each 0 (by omega)
   have hs : ad.spot = none := by
    have := World.cell?_spot (hc0 0 _ rfl)
    simpa [Addr.add] using this
   obtain ⟨b, off, spot⟩ := ad
   simp only at hs
   subst hs
   have hadd : ∀ i j, ((⟨b, off, none⟩ : Addr).add i).add j = ⟨b, off + i + j, none⟩ := by
    intro i j
    have e1 : ∀ (o q : Nat), (⟨b, o, none⟩ : Addr).add q = ⟨b, o + q, none⟩ := fun o q => by unfold Addr.add; split <;> simp_all
    rw [e1, e1]
   have each2 : ∀ i : Nat, ∃ a : Ac, i < len → AcOk w a ∧ ∀ d v, (actL a)[d]? = some v → w.cell? ⟨b, off + i * 16 + d, none⟩ = some v := by
    intro i
    by_cases hi : i < len
    ·obtain ⟨a, h1, h2⟩ := each i hi
     exact ⟨a, fun _ => ⟨h1, fun d v hv => by rw [← hadd]; exact h2 d v hv⟩⟩
    ·exact ⟨c0, fun q => absurd q hi⟩
   exact .inr ⟨b, off, fun i => Classical.choose (each2 i), rfl, fun i hi => ⟨(Classical.choose_spec (each2 i) hi).2, (Classical.choose_spec (each2 i) hi).1⟩⟩
end
end
end Go.Proofs.YtoddfaoifnkhlaaGreatDoor
