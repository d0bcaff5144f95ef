/-
  The law's Do: a line laid.
-/
import Derived.Test.YtiifeniijcnahaaGreatDoorGDo
import Derived.Test.YtiifeniijcnahaaGreatDoorChainT
namespace Go.Proofs.YtiifeniijcnahaaGreatDoor
set_option maxRecDepth 100000
open Go.ChangeShapes Go.WideShapes Go.ChangeAt Go.RowKit
set_option linter.unusedVariables false

set_option maxHeartbeats 3000000 in
theorem do_lay {w : World} {G L M R C : Nat} {g : Gd} (h : Grd w G L M R C g) (hok : GOk g R C) (A : Option Addr) (cap : Nat) (hl : Lns w A g.ls) (hS : Spans w) (ar ac at_ xr xm xn : Int) (xd xf xg xb : Nat) (am : Int) (pf pg pb : Nat) (Al : Option Addr) (nl cl : Nat) (cs0 : List Cel) (hI : LineIn w Al nl cl cs0) :
    Calls Tryz.prog 10 #[.pointer (some ⟨G, 0, none⟩), .agg #[.slice A R cap, .int .i64 (g.row : Int), .int .i64 (g.col : Int)], .agg #[.int .i64 3, .int .i64 ar, .int .i64 ac, .int .i64 at_, .int .i32 xr, .int .i32 xm, .int .i32 xn, .int .u8 (xd : Int), .int .u8 (xf : Int), .int .u8 (xg : Int), .int .u8 (xb : Int), .int .i32 am, .int .u8 (pf : Int), .int .u8 (pg : Int), .int .u8 (pb : Int), .slice Al nl cl]] w (Did w G L M) := by
  obtain ⟨W0, hW0⟩ : ∃ W0, (((w.alloc (.cells #[.slice A R cap, .int .i64 (g.row : Int), .int .i64 (g.col : Int)] 32)).alloc (.cells #[.int .i64 3, .int .i64 ar, .int .i64 ac, .int .i64 at_, .int .i32 xr, .int .i32 xm, .int .i32 xn, .int .u8 (xd : Int), .int .u8 (xf : Int), .int .u8 (xg : Int), .int .u8 (xb : Int), .int .i32 am, .int .u8 (pf : Int), .int .u8 (pg : Int), .int .u8 (pb : Int), .slice Al nl cl] 43)).alloc (.cells #[.slice none 0 0, .int .i64 0, .int .i64 0] 32)).alloc (.cells #[.int .u8 (pf : Int), .int .u8 (pg : Int), .int .u8 (pb : Int)] 50) = W0 := ⟨_, rfl⟩
  have HB0 : Hid (Below w.heap.size w W0) := by unfold Hid; rw [← hW0]; exact four_new w _ _ _ _
  have HX0 : Hid (Whole W0 w.heap.size 32 [.slice A R cap, .int .i64 (g.row : Int), .int .i64 (g.col : Int)]) := by unfold Hid; rw [← hW0]; exact (((Whole.new w 32 [.slice A R cap, .int .i64 (g.row : Int), .int .i64 (g.col : Int)]).alloc _).alloc _).alloc _
  have HX1 : Hid (Whole W0 (w.heap.size + 1) 43 [.int .i64 3, .int .i64 ar, .int .i64 ac, .int .i64 at_, .int .i32 xr, .int .i32 xm, .int .i32 xn, .int .u8 (xd : Int), .int .u8 (xf : Int), .int .u8 (xg : Int), .int .u8 (xb : Int), .int .i32 am, .int .u8 (pf : Int), .int .u8 (pg : Int), .int .u8 (pb : Int), .slice Al nl cl]) := by unfold Hid; rw [← hW0]; exact ((whole_snd w _ 43 [.int .i64 3, .int .i64 ar, .int .i64 ac, .int .i64 at_, .int .i32 xr, .int .i32 xm, .int .i32 xn, .int .u8 (xd : Int), .int .u8 (xf : Int), .int .u8 (xg : Int), .int .u8 (xb : Int), .int .i32 am, .int .u8 (pf : Int), .int .u8 (pg : Int), .int .u8 (pb : Int), .slice Al nl cl]).alloc _).alloc _
  have HX2 : Hid (Whole W0 (w.heap.size + 2) 32 [.slice none 0 0, .int .i64 0, .int .i64 0]) := by unfold Hid; rw [← hW0]; exact (whole_thd w _ _ 32 [.slice none 0 0, .int .i64 0, .int .i64 0]).alloc _
  have HX3 : Hid (Whole W0 (w.heap.size + 3) 50 [.int .u8 (pf : Int), .int .u8 (pg : Int), .int .u8 (pb : Int)]) := by unfold Hid; rw [← hW0]; exact whole_fth w _ _ _ 50 [.int .u8 (pf : Int), .int .u8 (pg : Int), .int .u8 (pb : Int)]
  have HG0 := hide (h.later HB0.out)
  have HL0 := hide (hl.below HB0.out)
  have HS0 := hide (hS.below HB0.out)
  have HGO := hide hok
  have hR1 := hok.r1
  have hR2 := hok.r2
  have hC1 := hok.c1
  have hC2 := hok.c2
  have ltG := h.ltG
  have ltL := h.ltL
  have ltM := h.ltM
  have HW0 := hide hW0
  obtain ⟨a0, a1, a2, a3, a4, a5, a6, a7, a8, a9, b0, b1, b2, b3, b4, b5, la⟩ := cells16 HX1.out
  obtain ⟨p0, p1, p2, lp⟩ := cells3 HX0.out
  obtain ⟨y0, y1, y2, ly⟩ := cells3 HX3.out
  clear hW0 h hl hok hS
  obtain ⟨hI1, hI2, hI3, hI4, hI5⟩ := hI
  obtain ⟨zs, hzs⟩ : ∃ zs, cs0.take (min nl 30) = zs := ⟨_, rfl⟩
  have HLB6 : Hid (LB zs) := by unfold Hid; rw [← hzs]; exact LB_take hI5 _
  obtain ⟨n6, hn6e⟩ : ∃ n6, zs.length = n6 := ⟨_, rfl⟩
  have hn6 : n6 ≤ 1000000 := by rw [← hn6e, ← hzs, List.length_take]; omega
  have HN6 := hide hn6e
  have HOK := hide (HGO.out.lay ar zs HLB6.out)
  obtain ⟨okv, hk⟩ : ∃ okv, layOk g ar zs C = okv := ⟨_, rfl⟩
  have HKK := hide hk
  have HZS := hide hzs
  have HI := hide (lcut_any Al nl cl cs0 W0 (hI1.below HB0.out) hI2 hI4 hI3)
  clear hk hn6e hzs hI1 hI2 hI3 hI4 hI5
  go_enter Tryz.func10, Tryz.ntmps10
  go_wp2_with fail
  rw [HW0.out]
  refine HI.out.mono ?_
  rintro e W0' ⟨x6, rfl, hx6⟩
  rw [HZS.out] at hx6
  obtain ⟨A6, c6, rfl, hc6, -⟩ := hx6.form
  have hb := hx6.bel
  have HZ0 := hide hc6
  have HG0' := hide (HG0.out.later hb)
  have HL0' := hide (HL0.out.below hb)
  have HS0' := hide (HS0.out.below hb)
  have HX0' := hide (HX0.out.later hb)
  have HX1' := hide (HX1.out.later hb)
  have HX2' := hide (HX2.out.later hb)
  have HX3' := hide (HX3.out.later hb)
  have HB0' := hide (HB0.out.trans (hb.mono HB0.out.size))
  clear hb hx6 hc6 HG0 HL0 HS0 HX0 HX1 HX2 HX3 HB0 HI HW0
  clear a0 a1 a2 a3 a4 a5 a6 a7 a8 a9 b0 b1 b2 b3 b4 b5 la p0 p1 p2 lp y0 y1 y2 ly
  have HG0 := HG0'
  have HL0 := HL0'
  have HS0 := HS0'
  have HX0 := HX0'
  have HX1 := HX1'
  have HX2 := HX2'
  have HX3 := HX3'
  have HB0 := HB0'
  clear HG0' HL0' HS0' HX0' HX1' HX2' HX3' HB0'
  clear W0
  obtain ⟨W0, hWW⟩ : ∃ W, W = W0' := ⟨_, rfl⟩
  subst hWW
  obtain ⟨a0, a1, a2, a3, a4, a5, a6, a7, a8, a9, b0, b1, b2, b3, b4, b5, la⟩ := cells16 HX1.out
  obtain ⟨p0, p1, p2, lp⟩ := cells3 HX0.out
  obtain ⟨y0, y1, y2, ly⟩ := cells3 HX3.out
  rw [HN6.out]
  go_wp2
  refine wp_region_tree (fun w' => Below W0.heap.size W0 w') (.take 3 (.take 1 (.take 0 (.take 2 (.two 4 (.two 5 (.take 6 (.take 7 (.take 8 (.alone 9 (.alone 10 (.alone 11 .done)))))) 9 (.alone 5 (.take 6 (.take 7 (.take 8 (.alone 10 (.alone 11 .done))))))) 9 (.alone 4 (.alone 5 (.take 6 (.take 7 (.take 8 (.alone 10 (.alone 11 .done)))))))))))) (by kernel_rfl) (by kernel_rfl) (by kernel_rfl) (fun _ _ _ _ _ h => h) ?_ ?_
  · exact (Below.refl _ _).drewN 1
  refine tree_take (v := ?_) (by simp only [List.getElem?_toArray, List.getElem?_cons_zero, List.getElem?_cons_succ]; rfl) (by rfl) (fun w hS => ?_) ?_
  rotate_left
  · go_simp <;> with_reducible rfl
  simp only [Act.put, List.setIfInBounds_toArray, List.set_cons_zero, List.set_cons_succ]
  refine tree_take (v := ?_) (by simp only [List.getElem?_toArray, List.getElem?_cons_zero, List.getElem?_cons_succ]; rfl) (by rfl) (fun w hS => ?_) ?_
  rotate_left
  · go_simp <;> with_reducible rfl
  simp only [Act.put, List.setIfInBounds_toArray, List.set_cons_zero, List.set_cons_succ]
  refine tree_take (v := ?_) (by simp only [List.getElem?_toArray, List.getElem?_cons_zero]; rfl) (by rfl) (fun w hS => ?_) ?_
  rotate_left
  · obtain ⟨f0, f1, f2, -⟩ := cells3 (HX0.out.later hS); go_simp <;> with_reducible rfl
  simp only [Act.put, List.setIfInBounds_toArray, List.set_cons_zero, List.set_cons_succ]
  refine tree_take (v := ?_) (by simp only [List.getElem?_toArray, List.getElem?_cons_zero, List.getElem?_cons_succ]; rfl) (by rfl) (fun w hS => ?_) ?_
  rotate_left
  · obtain ⟨f0, f1, f2, f3, f4, f5, f6, f7, f8, f9, g0, g1, g2, g3, g4, g5, -⟩ := cells16 (HX1.out.later hS); go_simp <;> with_reducible rfl
  simp only [Act.put, List.setIfInBounds_toArray, List.set_cons_zero, List.set_cons_succ]
  refine tree_two (by simp only [List.getElem?_toArray, List.getElem?_cons_zero, List.getElem?_cons_succ]; rfl) (by simp only [List.getElem?_toArray, List.getElem?_cons_zero, List.getElem?_cons_succ]; rfl) ?_ ?_
  · intro K hK
    go_wp2_with fail
    refine (lineof_any A6 n6 c6 zs _ (HZ0.out.below ((Below.refl W0.heap.size W0).drewN 1)) HN6.out hn6 HLB6.out).mono ?_
    rintro e k1 ⟨x7, rfl, hx7⟩
    obtain ⟨A7, c7, rfl, hc7, -⟩ := hx7.form
    have hb := hx7.bel
    have HC7 := hide hc7
    clear hx7 hc7
    have Bk1 : Below W0.heap.size W0 k1 := ((Below.refl W0.heap.size W0).drewN 1).trans hb
    clear hb
    rw [HN6.out]
    go_wp2
    refine hK.out _ _ (Bk1) ?_
    clear hK K
    refine tree_two (by simp only [List.getElem?_toArray, List.getElem?_cons_zero, List.getElem?_cons_succ]; rfl) (by simp only [List.getElem?_toArray, List.getElem?_cons_zero, List.getElem?_cons_succ]; rfl) ?_ ?_
    · intro K hK
      go_wp2_with fail
      refine (rglay_any A R C cap g k1 (HL0.out.below Bk1) HGO.out ar A7 n6 c7 zs HC7.out HN6.out hn6 HLB6.out).mono ?_
      rintro e k2 ⟨A5, cap5, rfl, hl, hb⟩
      rw [HKK.out]
      have Bk2 : Below W0.heap.size W0 k2 := Bk1.trans (hb.mono Bk1.size)
      have HLa := hide hl
      clear hl hb
      go_wp2
      refine hK.out _ _ (Bk2) ?_
      clear hK K
      refine tree_take (v := ?_) (by simp only [List.getElem?_toArray, List.getElem?_cons_zero, List.getElem?_cons_succ]; rfl) (by rfl) (fun w hS => ?_) ?_
      rotate_left
      · go_simp <;> with_reducible rfl
      simp only [Act.put, List.setIfInBounds_toArray, List.set_cons_zero, List.set_cons_succ]
      refine tree_take (v := ?_) (by simp only [List.getElem?_toArray, List.getElem?_cons_zero, List.getElem?_cons_succ]; rfl) (by rfl) (fun w hS => ?_) ?_
      rotate_left
      · go_simp <;> with_reducible rfl
      simp only [Act.put, List.setIfInBounds_toArray, List.set_cons_zero, List.set_cons_succ]
      refine tree_take (v := ?_) (by simp only [List.getElem?_toArray, List.getElem?_cons_zero, List.getElem?_cons_succ]; rfl) (by rfl) (fun w hS => ?_) ?_
      rotate_left
      · go_simp <;> with_reducible rfl
      simp only [Act.put, List.setIfInBounds_toArray, List.set_cons_zero, List.set_cons_succ]
      refine tree_alone (by simp only [List.getElem?_toArray, List.getElem?_cons_zero, List.getElem?_cons_succ]; rfl) ?_
      intro K hK
      go_wp2
      refine hK.out _ _ (Bk2.alloc Bk2.size _) ?_
      clear hK K
      refine tree_alone (by simp only [List.getElem?_toArray, List.getElem?_cons_zero, List.getElem?_cons_succ]; rfl) ?_
      intro K hK
      go_wp2
      refine hK.out _ _ (Bk2.alloc Bk2.size _) ?_
      clear hK K
      refine tree_alone (by simp only [List.getElem?_toArray, List.getElem?_cons_zero, List.getElem?_cons_succ]; rfl) ?_
      intro K hK
      go_wp2
      refine hK.out _ _ (Bk2.alloc Bk2.size _) ?_
      clear hK K
      refine tree_done ?_
      obtain ⟨Q10, hQ⟩ : ∃ Q10, k2.heap.size = Q10 := ⟨_, rfl⟩
      obtain ⟨W5, hW5⟩ : ∃ W5, k2.alloc (.cells #[.slice A5 R cap5, .int .i64 ((layG g ar zs C).row : Int), .int .i64 ((layG g ar zs C).col : Int)] 32) = W5 := ⟨_, rfl⟩
      have hb5 : Below W0.heap.size W0 W5 := by rw [← hW5]; exact Bk2.alloc Bk2.size _
      have HN5 : Hid (Whole W5 Q10 32 [.slice A5 R cap5, .int .i64 ((layG g ar zs C).row : Int), .int .i64 ((layG g ar zs C).col : Int)]) := by unfold Hid; rw [← hW5, ← hQ]; exact Whole.new k2 32 [.slice A5 R cap5, .int .i64 ((layG g ar zs C).row : Int), .int .i64 ((layG g ar zs C).col : Int)]
      have hq10 : w.heap.size ≤ Q10 := by rw [← hQ]; exact Nat.le_trans HB0.out.size Bk2.size
      have HL5 : Hid (Lns W5 A5 (layG g ar zs C).ls) := by unfold Hid; rw [← hW5]; exact HLa.out.alloc _
      have HG5 := hide (HG0.out.later hb5)
      have HS5 := hide (HS0.out.below hb5)
      have HT5 := hide (Trn.of_below (G := G) (L := L) (M := M) (HB0.out.trans (hb5.mono HB0.out.size)))
      have HX15 := hide (HX1.out.later hb5)
      have HX25 := hide (HX2.out.later hb5)
      have HX35 := hide (HX3.out.later hb5)
      have HX05 := hide (HX0.out.later hb5)
      have HZ5 := hide (HZ0.out.below hb5)
      have HW5 := hide hW5
      have HQ10 := hide hQ
      clear hW5 hb5 hQ Bk1 Bk2
      clear a0 a1 a2 a3 a4 a5 a6 a7 a8 a9 b0 b1 b2 b3 b4 b5 la p0 p1 p2 lp y0 y1 y2 ly
      obtain ⟨a0, a1, a2, a3, a4, a5, a6, a7, a8, a9, b0, b1, b2, b3, b4, b5, la⟩ := cells16 HX15.out
      obtain ⟨p0, p1, p2, lp⟩ := cells3 HX05.out
      obtain ⟨y0, y1, y2, ly⟩ := cells3 HX35.out
      simp only [HQ10.out, HW5.out]
      go_wp2
      refine wp_region_chainL (fun w' => Whole w' Q10 32 [.slice A5 R cap5, .int .i64 ((layG g ar zs C).row : Int), .int .i64 ((layG g ar zs C).col : Int)] ∧ Whole w' (w.heap.size + 1) 43 [.int .i64 3, .int .i64 ar, .int .i64 ac, .int .i64 at_, .int .i32 xr, .int .i32 xm, .int .i32 xn, .int .u8 (xd : Int), .int .u8 (xf : Int), .int .u8 (xg : Int), .int .u8 (xb : Int), .int .i32 am, .int .u8 (pf : Int), .int .u8 (pg : Int), .int .u8 (pb : Int), .slice Al nl cl]) 10 [(2, 0), (2, 2), (2, 5), (2, 7), (2, 3), (0, 1), (1, 4), (1, 6), (2, 9), (2, 8), (3, 10), (3, 11)] (by kernel_rfl) (by kernel_rfl) (by kernel_rfl) (fun _ _ _ _ _ h => h) ?_ ?_
      · exact ⟨HN5.out.drewN 1, HX15.out.drewN 1⟩
      refine chainL_pure (v := ?_) (by simp only [List.getElem?_toArray, List.getElem?_cons_zero]; rfl) (by rfl) (fun w => ?_) ?_
      rotate_left
      · go_simp <;> with_reducible rfl
      simp only [Act.put, List.setIfInBounds_toArray, List.set_cons_zero, List.set_cons_succ]
      refine chainL_pure (v := ?_) (by simp only [List.getElem?_toArray, List.getElem?_cons_zero, List.getElem?_cons_succ]; rfl) (by rfl) (fun w => ?_) ?_
      rotate_left
      · go_simp <;> with_reducible rfl
      simp only [Act.put, List.setIfInBounds_toArray, List.set_cons_zero, List.set_cons_succ]
      refine chainL_pure (v := ?_) (by simp only [List.getElem?_toArray, List.getElem?_cons_zero, List.getElem?_cons_succ]; rfl) (by rfl) (fun w => ?_) ?_
      rotate_left
      · go_simp <;> with_reducible rfl
      simp only [Act.put, List.setIfInBounds_toArray, List.set_cons_zero, List.set_cons_succ]
      refine chainL_pure (v := ?_) (by simp only [List.getElem?_toArray, List.getElem?_cons_zero, List.getElem?_cons_succ]; rfl) (by rfl) (fun w => ?_) ?_
      rotate_left
      · go_simp <;> with_reducible rfl
      simp only [Act.put, List.setIfInBounds_toArray, List.set_cons_zero, List.set_cons_succ]
      refine chainL_pure (v := ?_) (by simp only [List.getElem?_toArray, List.getElem?_cons_zero, List.getElem?_cons_succ]; rfl) (by rfl) (fun w => ?_) ?_
      rotate_left
      · go_simp <;> with_reducible rfl
      simp only [Act.put, List.setIfInBounds_toArray, List.set_cons_zero, List.set_cons_succ]
      refine chainL_take (v := ?_) (by simp only [List.getElem?_toArray, List.getElem?_cons_zero, List.getElem?_cons_succ]; rfl) (by rfl) (fun w hS => ?_) ?_
      rotate_left
      · obtain ⟨f0, f1, f2, -⟩ := cells3 hS.1; go_simp <;> with_reducible rfl
      simp only [Act.put, List.setIfInBounds_toArray, List.set_cons_zero, List.set_cons_succ]
      refine chainL_alone (by simp only [List.getElem?_toArray, List.getElem?_cons_zero, List.getElem?_cons_succ]; rfl) ?_
      intro K hK
      go_wp2
      refine hK.out _ _ (⟨HN5.out.drewN 1, HX15.out.drewN 1⟩) ?_
      clear hK K
      refine chainL_alone (by simp only [List.getElem?_toArray, List.getElem?_cons_zero, List.getElem?_cons_succ]; rfl) ?_
      intro K hK
      go_wp2_with fail
      refine (glay_any (HG5.out.later ((Below.refl _ _).drewN 1)) hC2 HS5.out.drew ar A6 n6 c6 zs HZ5.out.drew HN6.out hn6 HLB6.out).mono ?_
      rintro e k1 ⟨rfl, hg, ht⟩
      rw [HKK.out]
      have HGz := hide hg
      have HLz := hide ((HL5.out.drewN 1).turn (HG5.out.later ((Below.refl _ _).drewN 1)) ht)
      have HTz := hide (HT5.out.trans (Trn.ofB ((Below.refl W5.heap.size W5).drewN 1) ht) (.inl rfl))
      have HNz := hide (ht.whole HN5.out.drew (by omega) (by omega) (by omega))
      have HX1z := hide (ht.whole HX15.out.drew (by omega) (by omega) (by omega))
      have HX2z := hide (ht.whole HX25.out.drew (by omega) (by omega) (by omega))
      clear hg ht
      clear a0 a1 a2 a3 a4 a5 a6 a7 a8 a9 b0 b1 b2 b3 b4 b5 la p0 p1 p2 lp y0 y1 y2 ly
      obtain ⟨z0, z1, z2, lz⟩ := cells3 HX2z.out
      have hzf := HX2z.out.frozen
      go_wp2
      refine hK.out _ _ (⟨HNz.out, HX1z.out⟩) ?_
      clear hK K
      refine chainL_pure (v := ?_) (by simp only [List.getElem?_toArray, List.getElem?_cons_zero, List.getElem?_cons_succ]; rfl) (by rfl) (fun w => ?_) ?_
      rotate_left
      · go_simp <;> with_reducible rfl
      simp only [Act.put, List.setIfInBounds_toArray, List.set_cons_zero, List.set_cons_succ]
      refine chainL_pure (v := ?_) (by simp only [List.getElem?_toArray, List.getElem?_cons_zero, List.getElem?_cons_succ]; rfl) (by rfl) (fun w => ?_) ?_
      rotate_left
      · go_simp <;> with_reducible rfl
      simp only [Act.put, List.setIfInBounds_toArray, List.set_cons_zero, List.set_cons_succ]
      refine chainL_late (by simp only [List.getElem?_toArray, List.getElem?_cons_zero, List.getElem?_cons_succ]; rfl) ?_
      intro K hK
      go_wp2
      refine hK.out _ _ ?_
      clear hK K
      refine chainL_late (by simp only [List.getElem?_toArray, List.getElem?_cons_zero, List.getElem?_cons_succ]; rfl) ?_
      intro K hK
      go_wp2
      refine hK.out _ _ ?_
      clear hK K
      refine chainL_nil ?_
      go_wp2
      refine retG3 Tryz.results10 rfl rfl rfl rfl (put3 HX2z.out _ _ _) ?_
      exact did_end HGz.out HLz.out HOK.out HTz.out (.inl rfl) (.inl rfl) (.inl rfl) HX2z.out (by omega) _ _ _
    · intro K hK
      go_wp2
      refine hK.out _ _ (Bk1.alloc Bk1.size _) ?_
      clear hK K
      obtain ⟨k1a, hk1a⟩ : ∃ k1a, k1.alloc (.cells #[.slice none 0 0, .int .i64 0, .int .i64 0] 32) = k1a := ⟨_, rfl⟩
      have Bk1a : Below W0.heap.size W0 k1a := by rw [← hk1a]; exact Bk1.alloc Bk1.size _
      have HZn : Hid (Whole k1a k1.heap.size 32 [.slice none 0 0, .int .i64 0, .int .i64 0]) := by unfold Hid; rw [← hk1a]; exact Whole.new k1 32 [.slice none 0 0, .int .i64 0, .int .i64 0]
      have HC7a : Hid (Cels .i64 k1a A7 zs) := by unfold Hid; rw [← hk1a]; exact HC7.out.alloc _
      rw [hk1a]
      clear hk1a
      refine tree_alone (by simp only [List.getElem?_toArray, List.getElem?_cons_zero, List.getElem?_cons_succ]; rfl) ?_
      intro K hK
      go_wp2_with fail
      refine (rglay_any A R C cap g k1a (HL0.out.below Bk1a) HGO.out ar A7 n6 c7 zs HC7a.out HN6.out hn6 HLB6.out).mono ?_
      rintro e k2 ⟨A5, cap5, rfl, hl, hb⟩
      rw [HKK.out]
      have Bk2 : Below W0.heap.size W0 k2 := Bk1a.trans (hb.mono Bk1a.size)
      have HLa := hide hl
      have HZn := hide (HZn.out.later hb)
      obtain ⟨n0, n1, n2, ln⟩ := cells3 HZn.out
      have hnf := HZn.out.frozen
      clear hl hb
      go_wp2
      refine hK.out _ _ (Bk2) ?_
      clear hK K
      refine tree_take (v := ?_) (by simp only [List.getElem?_toArray, List.getElem?_cons_zero, List.getElem?_cons_succ]; rfl) (by rfl) (fun w hS => ?_) ?_
      rotate_left
      · go_simp <;> with_reducible rfl
      simp only [Act.put, List.setIfInBounds_toArray, List.set_cons_zero, List.set_cons_succ]
      refine tree_take (v := ?_) (by simp only [List.getElem?_toArray, List.getElem?_cons_zero, List.getElem?_cons_succ]; rfl) (by rfl) (fun w hS => ?_) ?_
      rotate_left
      · go_simp <;> with_reducible rfl
      simp only [Act.put, List.setIfInBounds_toArray, List.set_cons_zero, List.set_cons_succ]
      refine tree_take (v := ?_) (by simp only [List.getElem?_toArray, List.getElem?_cons_zero, List.getElem?_cons_succ]; rfl) (by rfl) (fun w hS => ?_) ?_
      rotate_left
      · go_simp <;> with_reducible rfl
      simp only [Act.put, List.setIfInBounds_toArray, List.set_cons_zero, List.set_cons_succ]
      refine tree_alone (by simp only [List.getElem?_toArray, List.getElem?_cons_zero, List.getElem?_cons_succ]; rfl) ?_
      intro K hK
      go_wp2
      refine hK.out _ _ (below_put3 Bk2 (Bk1.size) _ _ _) ?_
      clear hK K
      refine tree_alone (by simp only [List.getElem?_toArray, List.getElem?_cons_zero, List.getElem?_cons_succ]; rfl) ?_
      intro K hK
      go_wp2
      refine hK.out _ _ (below_put3 Bk2 (Bk1.size) _ _ _) ?_
      clear hK K
      refine tree_done ?_
      obtain ⟨Q10, hQ⟩ : ∃ Q10, k1.heap.size = Q10 := ⟨_, rfl⟩
      rw [hQ] at HZn
      obtain ⟨W5, hW5⟩ : ∃ W5, ((k2.setCell ⟨Q10, 0, none⟩ (.slice A5 R cap5)).setCell ⟨Q10, 1, none⟩ (.int .i64 ((layG g ar zs C).row : Int))).setCell ⟨Q10, 2, none⟩ (.int .i64 ((layG g ar zs C).col : Int)) = W5 := ⟨_, rfl⟩
      have hb5 : Below W0.heap.size W0 W5 := by rw [← hW5]; exact below_put3 Bk2 (by rw [← hQ]; exact Bk1.size) _ _ _
      have HN5 : Hid (Whole W5 Q10 32 [.slice A5 R cap5, .int .i64 ((layG g ar zs C).row : Int), .int .i64 ((layG g ar zs C).col : Int)]) := by unfold Hid; rw [← hW5]; exact put3 HZn.out _ _ _
      have hq10 : w.heap.size ≤ Q10 := by rw [← hQ]; exact Nat.le_trans HB0.out.size Bk1.size
      have HL5 : Hid (Lns W5 A5 (layG g ar zs C).ls) := by unfold Hid; rw [← hW5]; exact HLa.out.put3 HZn.out (by decide) (by decide) _ _ _
      have HG5 := hide (HG0.out.later hb5)
      have HS5 := hide (HS0.out.below hb5)
      have HT5 := hide (Trn.of_below (G := G) (L := L) (M := M) (HB0.out.trans (hb5.mono HB0.out.size)))
      have HX15 := hide (HX1.out.later hb5)
      have HX25 := hide (HX2.out.later hb5)
      have HX35 := hide (HX3.out.later hb5)
      have HX05 := hide (HX0.out.later hb5)
      have HZ5 := hide (HZ0.out.below hb5)
      have HW5 := hide hW5
      have HQ10 := hide hQ
      clear hW5 hb5 hQ Bk1 Bk2 n0 n1 n2 ln hnf
      clear a0 a1 a2 a3 a4 a5 a6 a7 a8 a9 b0 b1 b2 b3 b4 b5 la p0 p1 p2 lp y0 y1 y2 ly
      obtain ⟨a0, a1, a2, a3, a4, a5, a6, a7, a8, a9, b0, b1, b2, b3, b4, b5, la⟩ := cells16 HX15.out
      obtain ⟨p0, p1, p2, lp⟩ := cells3 HX05.out
      obtain ⟨y0, y1, y2, ly⟩ := cells3 HX35.out
      simp only [HQ10.out, HW5.out]
      go_wp2
      refine wp_region_chainL (fun w' => Whole w' Q10 32 [.slice A5 R cap5, .int .i64 ((layG g ar zs C).row : Int), .int .i64 ((layG g ar zs C).col : Int)] ∧ Whole w' (w.heap.size + 1) 43 [.int .i64 3, .int .i64 ar, .int .i64 ac, .int .i64 at_, .int .i32 xr, .int .i32 xm, .int .i32 xn, .int .u8 (xd : Int), .int .u8 (xf : Int), .int .u8 (xg : Int), .int .u8 (xb : Int), .int .i32 am, .int .u8 (pf : Int), .int .u8 (pg : Int), .int .u8 (pb : Int), .slice Al nl cl]) 10 [(2, 0), (2, 2), (2, 5), (2, 7), (2, 3), (0, 1), (1, 4), (1, 6), (2, 9), (2, 8), (3, 10), (3, 11)] (by kernel_rfl) (by kernel_rfl) (by kernel_rfl) (fun _ _ _ _ _ h => h) ?_ ?_
      · exact ⟨HN5.out.drewN 1, HX15.out.drewN 1⟩
      refine chainL_pure (v := ?_) (by simp only [List.getElem?_toArray, List.getElem?_cons_zero]; rfl) (by rfl) (fun w => ?_) ?_
      rotate_left
      · go_simp <;> with_reducible rfl
      simp only [Act.put, List.setIfInBounds_toArray, List.set_cons_zero, List.set_cons_succ]
      refine chainL_pure (v := ?_) (by simp only [List.getElem?_toArray, List.getElem?_cons_zero, List.getElem?_cons_succ]; rfl) (by rfl) (fun w => ?_) ?_
      rotate_left
      · go_simp <;> with_reducible rfl
      simp only [Act.put, List.setIfInBounds_toArray, List.set_cons_zero, List.set_cons_succ]
      refine chainL_pure (v := ?_) (by simp only [List.getElem?_toArray, List.getElem?_cons_zero, List.getElem?_cons_succ]; rfl) (by rfl) (fun w => ?_) ?_
      rotate_left
      · go_simp <;> with_reducible rfl
      simp only [Act.put, List.setIfInBounds_toArray, List.set_cons_zero, List.set_cons_succ]
      refine chainL_pure (v := ?_) (by simp only [List.getElem?_toArray, List.getElem?_cons_zero, List.getElem?_cons_succ]; rfl) (by rfl) (fun w => ?_) ?_
      rotate_left
      · go_simp <;> with_reducible rfl
      simp only [Act.put, List.setIfInBounds_toArray, List.set_cons_zero, List.set_cons_succ]
      refine chainL_pure (v := ?_) (by simp only [List.getElem?_toArray, List.getElem?_cons_zero, List.getElem?_cons_succ]; rfl) (by rfl) (fun w => ?_) ?_
      rotate_left
      · go_simp <;> with_reducible rfl
      simp only [Act.put, List.setIfInBounds_toArray, List.set_cons_zero, List.set_cons_succ]
      refine chainL_take (v := ?_) (by simp only [List.getElem?_toArray, List.getElem?_cons_zero, List.getElem?_cons_succ]; rfl) (by rfl) (fun w hS => ?_) ?_
      rotate_left
      · obtain ⟨f0, f1, f2, -⟩ := cells3 hS.1; go_simp <;> with_reducible rfl
      simp only [Act.put, List.setIfInBounds_toArray, List.set_cons_zero, List.set_cons_succ]
      refine chainL_alone (by simp only [List.getElem?_toArray, List.getElem?_cons_zero, List.getElem?_cons_succ]; rfl) ?_
      intro K hK
      go_wp2
      refine hK.out _ _ (⟨HN5.out.drewN 1, HX15.out.drewN 1⟩) ?_
      clear hK K
      refine chainL_alone (by simp only [List.getElem?_toArray, List.getElem?_cons_zero, List.getElem?_cons_succ]; rfl) ?_
      intro K hK
      go_wp2_with fail
      refine (glay_any (HG5.out.later ((Below.refl _ _).drewN 1)) hC2 HS5.out.drew ar A6 n6 c6 zs HZ5.out.drew HN6.out hn6 HLB6.out).mono ?_
      rintro e k1 ⟨rfl, hg, ht⟩
      rw [HKK.out]
      have HGz := hide hg
      have HLz := hide ((HL5.out.drewN 1).turn (HG5.out.later ((Below.refl _ _).drewN 1)) ht)
      have HTz := hide (HT5.out.trans (Trn.ofB ((Below.refl W5.heap.size W5).drewN 1) ht) (.inl rfl))
      have HNz := hide (ht.whole HN5.out.drew (by omega) (by omega) (by omega))
      have HX1z := hide (ht.whole HX15.out.drew (by omega) (by omega) (by omega))
      have HX2z := hide (ht.whole HX25.out.drew (by omega) (by omega) (by omega))
      clear hg ht
      clear a0 a1 a2 a3 a4 a5 a6 a7 a8 a9 b0 b1 b2 b3 b4 b5 la p0 p1 p2 lp y0 y1 y2 ly
      obtain ⟨z0, z1, z2, lz⟩ := cells3 HX2z.out
      have hzf := HX2z.out.frozen
      go_wp2
      refine hK.out _ _ (⟨HNz.out, HX1z.out⟩) ?_
      clear hK K
      refine chainL_pure (v := ?_) (by simp only [List.getElem?_toArray, List.getElem?_cons_zero, List.getElem?_cons_succ]; rfl) (by rfl) (fun w => ?_) ?_
      rotate_left
      · go_simp <;> with_reducible rfl
      simp only [Act.put, List.setIfInBounds_toArray, List.set_cons_zero, List.set_cons_succ]
      refine chainL_pure (v := ?_) (by simp only [List.getElem?_toArray, List.getElem?_cons_zero, List.getElem?_cons_succ]; rfl) (by rfl) (fun w => ?_) ?_
      rotate_left
      · go_simp <;> with_reducible rfl
      simp only [Act.put, List.setIfInBounds_toArray, List.set_cons_zero, List.set_cons_succ]
      refine chainL_late (by simp only [List.getElem?_toArray, List.getElem?_cons_zero, List.getElem?_cons_succ]; rfl) ?_
      intro K hK
      go_wp2
      refine hK.out _ _ ?_
      clear hK K
      refine chainL_late (by simp only [List.getElem?_toArray, List.getElem?_cons_zero, List.getElem?_cons_succ]; rfl) ?_
      intro K hK
      go_wp2
      refine hK.out _ _ ?_
      clear hK K
      refine chainL_nil ?_
      go_wp2
      refine retG3 Tryz.results10 rfl rfl rfl rfl (put3 HX2z.out _ _ _) ?_
      exact did_end HGz.out HLz.out HOK.out HTz.out (.inl rfl) (.inl rfl) (.inl rfl) HX2z.out (by omega) _ _ _
  · intro K hK
    go_wp2
    refine hK.out _ _ (((Below.refl _ _).alloc (Nat.le_refl _) _).drewN 1) ?_
    clear hK K
    obtain ⟨k0, hk0⟩ : ∃ k0, (W0.alloc (.cells #[.slice none 0 0, .int .i64 0, .int .i64 0] 32)).drew = k0 := ⟨_, rfl⟩
    have Bk0 : Below W0.heap.size W0 k0 := by rw [← hk0]; exact ((Below.refl _ _).alloc (Nat.le_refl _) _).drewN 1
    have HZn : Hid (Whole k0 W0.heap.size 32 [.slice none 0 0, .int .i64 0, .int .i64 0]) := by unfold Hid; rw [← hk0]; exact (Whole.new W0 32 [.slice none 0 0, .int .i64 0, .int .i64 0]).drewN 1
    rw [hk0]
    clear hk0
    refine tree_alone (by simp only [List.getElem?_toArray, List.getElem?_cons_zero, List.getElem?_cons_succ]; rfl) ?_
    intro K hK
    go_wp2_with fail
    refine (lineof_any A6 n6 c6 zs _ (HZ0.out.below Bk0) HN6.out hn6 HLB6.out).mono ?_
    rintro e k1 ⟨x7, rfl, hx7⟩
    obtain ⟨A7, c7, rfl, hc7, -⟩ := hx7.form
    have hb := hx7.bel
    have HC7 := hide hc7
    clear hx7 hc7
    have Bk1 : Below W0.heap.size W0 k1 := Bk0.trans (hb.mono Bk0.size)
    have HZn := hide (HZn.out.later hb)
    clear hb
    rw [HN6.out]
    go_wp2
    refine hK.out _ _ (Bk1) ?_
    clear hK K
    refine tree_alone (by simp only [List.getElem?_toArray, List.getElem?_cons_zero, List.getElem?_cons_succ]; rfl) ?_
    intro K hK
    go_wp2_with fail
    refine (rglay_any A R C cap g k1 (HL0.out.below Bk1) HGO.out ar A7 n6 c7 zs HC7.out HN6.out hn6 HLB6.out).mono ?_
    rintro e k2 ⟨A5, cap5, rfl, hl, hb⟩
    rw [HKK.out]
    have Bk2 : Below W0.heap.size W0 k2 := Bk1.trans (hb.mono Bk1.size)
    have HLa := hide hl
    have HZn := hide (HZn.out.later hb)
    obtain ⟨n0, n1, n2, ln⟩ := cells3 HZn.out
    have hnf := HZn.out.frozen
    clear hl hb
    go_wp2
    refine hK.out _ _ (Bk2) ?_
    clear hK K
    refine tree_take (v := ?_) (by simp only [List.getElem?_toArray, List.getElem?_cons_zero, List.getElem?_cons_succ]; rfl) (by rfl) (fun w hS => ?_) ?_
    rotate_left
    · go_simp <;> with_reducible rfl
    simp only [Act.put, List.setIfInBounds_toArray, List.set_cons_zero, List.set_cons_succ]
    refine tree_take (v := ?_) (by simp only [List.getElem?_toArray, List.getElem?_cons_zero, List.getElem?_cons_succ]; rfl) (by rfl) (fun w hS => ?_) ?_
    rotate_left
    · go_simp <;> with_reducible rfl
    simp only [Act.put, List.setIfInBounds_toArray, List.set_cons_zero, List.set_cons_succ]
    refine tree_take (v := ?_) (by simp only [List.getElem?_toArray, List.getElem?_cons_zero, List.getElem?_cons_succ]; rfl) (by rfl) (fun w hS => ?_) ?_
    rotate_left
    · go_simp <;> with_reducible rfl
    simp only [Act.put, List.setIfInBounds_toArray, List.set_cons_zero, List.set_cons_succ]
    refine tree_alone (by simp only [List.getElem?_toArray, List.getElem?_cons_zero, List.getElem?_cons_succ]; rfl) ?_
    intro K hK
    go_wp2
    refine hK.out _ _ (below_put3 Bk2 (Nat.le_refl _) _ _ _) ?_
    clear hK K
    refine tree_alone (by simp only [List.getElem?_toArray, List.getElem?_cons_zero, List.getElem?_cons_succ]; rfl) ?_
    intro K hK
    go_wp2
    refine hK.out _ _ (below_put3 Bk2 (Nat.le_refl _) _ _ _) ?_
    clear hK K
    refine tree_done ?_
    obtain ⟨Q10, hQ⟩ : ∃ Q10, W0.heap.size = Q10 := ⟨_, rfl⟩
    rw [hQ] at HZn
    obtain ⟨W5, hW5⟩ : ∃ W5, ((k2.setCell ⟨Q10, 0, none⟩ (.slice A5 R cap5)).setCell ⟨Q10, 1, none⟩ (.int .i64 ((layG g ar zs C).row : Int))).setCell ⟨Q10, 2, none⟩ (.int .i64 ((layG g ar zs C).col : Int)) = W5 := ⟨_, rfl⟩
    have hb5 : Below W0.heap.size W0 W5 := by rw [← hW5]; exact below_put3 Bk2 (by rw [← hQ]; exact Nat.le_refl _) _ _ _
    have HN5 : Hid (Whole W5 Q10 32 [.slice A5 R cap5, .int .i64 ((layG g ar zs C).row : Int), .int .i64 ((layG g ar zs C).col : Int)]) := by unfold Hid; rw [← hW5]; exact put3 HZn.out _ _ _
    have hq10 : w.heap.size ≤ Q10 := by rw [← hQ]; exact HB0.out.size
    have HL5 : Hid (Lns W5 A5 (layG g ar zs C).ls) := by unfold Hid; rw [← hW5]; exact HLa.out.put3 HZn.out (by decide) (by decide) _ _ _
    have HG5 := hide (HG0.out.later hb5)
    have HS5 := hide (HS0.out.below hb5)
    have HT5 := hide (Trn.of_below (G := G) (L := L) (M := M) (HB0.out.trans (hb5.mono HB0.out.size)))
    have HX15 := hide (HX1.out.later hb5)
    have HX25 := hide (HX2.out.later hb5)
    have HX35 := hide (HX3.out.later hb5)
    have HX05 := hide (HX0.out.later hb5)
    have HZ5 := hide (HZ0.out.below hb5)
    have HW5 := hide hW5
    have HQ10 := hide hQ
    clear hW5 hb5 hQ Bk1 Bk2 Bk0 n0 n1 n2 ln hnf
    clear a0 a1 a2 a3 a4 a5 a6 a7 a8 a9 b0 b1 b2 b3 b4 b5 la p0 p1 p2 lp y0 y1 y2 ly
    obtain ⟨a0, a1, a2, a3, a4, a5, a6, a7, a8, a9, b0, b1, b2, b3, b4, b5, la⟩ := cells16 HX15.out
    obtain ⟨p0, p1, p2, lp⟩ := cells3 HX05.out
    obtain ⟨y0, y1, y2, ly⟩ := cells3 HX35.out
    simp only [HQ10.out, HW5.out]
    go_wp2
    refine wp_region_chainL (fun w' => Whole w' Q10 32 [.slice A5 R cap5, .int .i64 ((layG g ar zs C).row : Int), .int .i64 ((layG g ar zs C).col : Int)] ∧ Whole w' (w.heap.size + 1) 43 [.int .i64 3, .int .i64 ar, .int .i64 ac, .int .i64 at_, .int .i32 xr, .int .i32 xm, .int .i32 xn, .int .u8 (xd : Int), .int .u8 (xf : Int), .int .u8 (xg : Int), .int .u8 (xb : Int), .int .i32 am, .int .u8 (pf : Int), .int .u8 (pg : Int), .int .u8 (pb : Int), .slice Al nl cl]) 10 [(2, 0), (2, 2), (2, 5), (2, 7), (2, 3), (0, 1), (1, 4), (1, 6), (2, 9), (2, 8), (3, 10), (3, 11)] (by kernel_rfl) (by kernel_rfl) (by kernel_rfl) (fun _ _ _ _ _ h => h) ?_ ?_
    · exact ⟨HN5.out.drewN 1, HX15.out.drewN 1⟩
    refine chainL_pure (v := ?_) (by simp only [List.getElem?_toArray, List.getElem?_cons_zero]; rfl) (by rfl) (fun w => ?_) ?_
    rotate_left
    · go_simp <;> with_reducible rfl
    simp only [Act.put, List.setIfInBounds_toArray, List.set_cons_zero, List.set_cons_succ]
    refine chainL_pure (v := ?_) (by simp only [List.getElem?_toArray, List.getElem?_cons_zero, List.getElem?_cons_succ]; rfl) (by rfl) (fun w => ?_) ?_
    rotate_left
    · go_simp <;> with_reducible rfl
    simp only [Act.put, List.setIfInBounds_toArray, List.set_cons_zero, List.set_cons_succ]
    refine chainL_pure (v := ?_) (by simp only [List.getElem?_toArray, List.getElem?_cons_zero, List.getElem?_cons_succ]; rfl) (by rfl) (fun w => ?_) ?_
    rotate_left
    · go_simp <;> with_reducible rfl
    simp only [Act.put, List.setIfInBounds_toArray, List.set_cons_zero, List.set_cons_succ]
    refine chainL_pure (v := ?_) (by simp only [List.getElem?_toArray, List.getElem?_cons_zero, List.getElem?_cons_succ]; rfl) (by rfl) (fun w => ?_) ?_
    rotate_left
    · go_simp <;> with_reducible rfl
    simp only [Act.put, List.setIfInBounds_toArray, List.set_cons_zero, List.set_cons_succ]
    refine chainL_pure (v := ?_) (by simp only [List.getElem?_toArray, List.getElem?_cons_zero, List.getElem?_cons_succ]; rfl) (by rfl) (fun w => ?_) ?_
    rotate_left
    · go_simp <;> with_reducible rfl
    simp only [Act.put, List.setIfInBounds_toArray, List.set_cons_zero, List.set_cons_succ]
    refine chainL_take (v := ?_) (by simp only [List.getElem?_toArray, List.getElem?_cons_zero, List.getElem?_cons_succ]; rfl) (by rfl) (fun w hS => ?_) ?_
    rotate_left
    · obtain ⟨f0, f1, f2, -⟩ := cells3 hS.1; go_simp <;> with_reducible rfl
    simp only [Act.put, List.setIfInBounds_toArray, List.set_cons_zero, List.set_cons_succ]
    refine chainL_alone (by simp only [List.getElem?_toArray, List.getElem?_cons_zero, List.getElem?_cons_succ]; rfl) ?_
    intro K hK
    go_wp2
    refine hK.out _ _ (⟨HN5.out.drewN 1, HX15.out.drewN 1⟩) ?_
    clear hK K
    refine chainL_alone (by simp only [List.getElem?_toArray, List.getElem?_cons_zero, List.getElem?_cons_succ]; rfl) ?_
    intro K hK
    go_wp2_with fail
    refine (glay_any (HG5.out.later ((Below.refl _ _).drewN 1)) hC2 HS5.out.drew ar A6 n6 c6 zs HZ5.out.drew HN6.out hn6 HLB6.out).mono ?_
    rintro e k1 ⟨rfl, hg, ht⟩
    rw [HKK.out]
    have HGz := hide hg
    have HLz := hide ((HL5.out.drewN 1).turn (HG5.out.later ((Below.refl _ _).drewN 1)) ht)
    have HTz := hide (HT5.out.trans (Trn.ofB ((Below.refl W5.heap.size W5).drewN 1) ht) (.inl rfl))
    have HNz := hide (ht.whole HN5.out.drew (by omega) (by omega) (by omega))
    have HX1z := hide (ht.whole HX15.out.drew (by omega) (by omega) (by omega))
    have HX2z := hide (ht.whole HX25.out.drew (by omega) (by omega) (by omega))
    clear hg ht
    clear a0 a1 a2 a3 a4 a5 a6 a7 a8 a9 b0 b1 b2 b3 b4 b5 la p0 p1 p2 lp y0 y1 y2 ly
    obtain ⟨z0, z1, z2, lz⟩ := cells3 HX2z.out
    have hzf := HX2z.out.frozen
    go_wp2
    refine hK.out _ _ (⟨HNz.out, HX1z.out⟩) ?_
    clear hK K
    refine chainL_pure (v := ?_) (by simp only [List.getElem?_toArray, List.getElem?_cons_zero, List.getElem?_cons_succ]; rfl) (by rfl) (fun w => ?_) ?_
    rotate_left
    · go_simp <;> with_reducible rfl
    simp only [Act.put, List.setIfInBounds_toArray, List.set_cons_zero, List.set_cons_succ]
    refine chainL_pure (v := ?_) (by simp only [List.getElem?_toArray, List.getElem?_cons_zero, List.getElem?_cons_succ]; rfl) (by rfl) (fun w => ?_) ?_
    rotate_left
    · go_simp <;> with_reducible rfl
    simp only [Act.put, List.setIfInBounds_toArray, List.set_cons_zero, List.set_cons_succ]
    refine chainL_late (by simp only [List.getElem?_toArray, List.getElem?_cons_zero, List.getElem?_cons_succ]; rfl) ?_
    intro K hK
    go_wp2
    refine hK.out _ _ ?_
    clear hK K
    refine chainL_late (by simp only [List.getElem?_toArray, List.getElem?_cons_zero, List.getElem?_cons_succ]; rfl) ?_
    intro K hK
    go_wp2
    refine hK.out _ _ ?_
    clear hK K
    refine chainL_nil ?_
    go_wp2
    refine retG3 Tryz.results10 rfl rfl rfl rfl (put3 HX2z.out _ _ _) ?_
    exact did_end HGz.out HLz.out HOK.out HTz.out (.inl rfl) (.inl rfl) (.inl rfl) HX2z.out (by omega) _ _ _
end Go.Proofs.YtiifeniijcnahaaGreatDoor
