/-
  The law's Do: a mark more.
-/
import Derived.Test.YtiifeniijcnahaaGreatDoorGDo
namespace Go.Proofs.YtiifeniijcnahaaGreatDoor
set_option maxRecDepth 100000
open Go.ChangeShapes Go.WideShapes Go.ChangeAt Go.RowKit
set_option linter.unusedVariables false

set_option maxHeartbeats 3000000 in
theorem do_mark {w : World} {G L M R C : Nat} {g : Gd} (h : Grd w G L M R C g) (hok : GOk g R C) (A : Option Addr) (cap : Nat) (hl : Lns w A g.ls) (hS : Spans w) (ar ac at_ xr xm xn : Int) (xd xf xg xb : Nat) (am : Int) (pf pg pb : Nat) (Al : Option Addr) (nl cl : Nat) (hm : R32 am) :
    Calls Tryz.prog 10 #[.pointer (some ⟨G, 0, none⟩), .agg #[.slice A R cap, .int .i64 (g.row : Int), .int .i64 (g.col : Int)], .agg #[.int .i64 1, .int .i64 ar, .int .i64 ac, .int .i64 at_, .int .i32 xr, .int .i32 xm, .int .i32 xn, .int .u8 (xd : Int), .int .u8 (xf : Int), .int .u8 (xg : Int), .int .u8 (xb : Int), .int .i32 am, .int .u8 (pf : Int), .int .u8 (pg : Int), .int .u8 (pb : Int), .slice Al nl cl]] w (Did w G L M) := by
  obtain ⟨W0, hW0⟩ : ∃ W0, (((w.alloc (.cells #[.slice A R cap, .int .i64 (g.row : Int), .int .i64 (g.col : Int)] 32)).alloc (.cells #[.int .i64 1, .int .i64 ar, .int .i64 ac, .int .i64 at_, .int .i32 xr, .int .i32 xm, .int .i32 xn, .int .u8 (xd : Int), .int .u8 (xf : Int), .int .u8 (xg : Int), .int .u8 (xb : Int), .int .i32 am, .int .u8 (pf : Int), .int .u8 (pg : Int), .int .u8 (pb : Int), .slice Al nl cl] 43)).alloc (.cells #[.slice none 0 0, .int .i64 0, .int .i64 0] 32)).alloc (.cells #[.int .u8 (pf : Int), .int .u8 (pg : Int), .int .u8 (pb : Int)] 50) = W0 := ⟨_, rfl⟩
  have HB0 : Hid (Below w.heap.size w W0) := by unfold Hid; rw [← hW0]; exact four_new w _ _ _ _
  have HX0 : Hid (Whole W0 w.heap.size 32 [.slice A R cap, .int .i64 (g.row : Int), .int .i64 (g.col : Int)]) := by unfold Hid; rw [← hW0]; exact (((Whole.new w 32 [.slice A R cap, .int .i64 (g.row : Int), .int .i64 (g.col : Int)]).alloc _).alloc _).alloc _
  have HX1 : Hid (Whole W0 (w.heap.size + 1) 43 [.int .i64 1, .int .i64 ar, .int .i64 ac, .int .i64 at_, .int .i32 xr, .int .i32 xm, .int .i32 xn, .int .u8 (xd : Int), .int .u8 (xf : Int), .int .u8 (xg : Int), .int .u8 (xb : Int), .int .i32 am, .int .u8 (pf : Int), .int .u8 (pg : Int), .int .u8 (pb : Int), .slice Al nl cl]) := by unfold Hid; rw [← hW0]; exact ((whole_snd w _ 43 [.int .i64 1, .int .i64 ar, .int .i64 ac, .int .i64 at_, .int .i32 xr, .int .i32 xm, .int .i32 xn, .int .u8 (xd : Int), .int .u8 (xf : Int), .int .u8 (xg : Int), .int .u8 (xb : Int), .int .i32 am, .int .u8 (pf : Int), .int .u8 (pg : Int), .int .u8 (pb : Int), .slice Al nl cl]).alloc _).alloc _
  have HX2 : Hid (Whole W0 (w.heap.size + 2) 32 [.slice none 0 0, .int .i64 0, .int .i64 0]) := by unfold Hid; rw [← hW0]; exact (whole_thd w _ _ 32 [.slice none 0 0, .int .i64 0, .int .i64 0]).alloc _
  have HX3 : Hid (Whole W0 (w.heap.size + 3) 50 [.int .u8 (pf : Int), .int .u8 (pg : Int), .int .u8 (pb : Int)]) := by unfold Hid; rw [← hW0]; exact whole_fth w _ _ _ 50 [.int .u8 (pf : Int), .int .u8 (pg : Int), .int .u8 (pb : Int)]
  have HG0 := hide (h.later HB0.out)
  have HL0 := hide (hl.below HB0.out)
  have HS0 := hide (hS.below HB0.out)
  have HGO := hide hok
  have hR1 := hok.r1
  have hR2 := hok.r2
  have hC1 := hok.c1
  have hC2 := hok.c2
  have ltG := h.ltG
  have ltL := h.ltL
  have ltM := h.ltM
  have HW0 := hide hW0
  obtain ⟨a0, a1, a2, a3, a4, a5, a6, a7, a8, a9, b0, b1, b2, b3, b4, b5, la⟩ := cells16 HX1.out
  obtain ⟨p0, p1, p2, lp⟩ := cells3 HX0.out
  obtain ⟨y0, y1, y2, ly⟩ := cells3 HX3.out
  clear hW0 h hl hok hS
  have HOK := hide (HGO.out.mark ar ac am hm)
  unfold R32 at hm
  obtain ⟨okv, hk⟩ : ∃ okv, markGOk g ar ac am = okv := ⟨_, rfl⟩
  have HKK := hide hk
  clear hk
  go_enter Tryz.func10, Tryz.ntmps10
  go_wp2_with fail
  rw [HW0.out]
  refine (rgmark_any A R C cap g W0 HL0.out HGO.out ar ac am).mono ?_
  rintro e w2 ⟨A5, cap5, rfl, hl, hb⟩
  rw [HKK.out]
  obtain ⟨Q10, hQ⟩ : ∃ Q10, w2.heap.size = Q10 := ⟨_, rfl⟩
  obtain ⟨W5, hW5⟩ : ∃ W5, w2.alloc (.cells #[.slice A5 R cap5, .int .i64 ((markG g ar ac am).row : Int), .int .i64 ((markG g ar ac am).col : Int)] 32) = W5 := ⟨_, rfl⟩
  have hb5 : Below W0.heap.size W0 W5 := by rw [← hW5]; exact hb.alloc hb.size _
  have HN5 : Hid (Whole W5 Q10 32 [.slice A5 R cap5, .int .i64 ((markG g ar ac am).row : Int), .int .i64 ((markG g ar ac am).col : Int)]) := by unfold Hid; rw [← hW5, ← hQ]; exact Whole.new w2 32 [.slice A5 R cap5, .int .i64 ((markG g ar ac am).row : Int), .int .i64 ((markG g ar ac am).col : Int)]
  have hq10 : w.heap.size ≤ Q10 := by rw [← hQ]; exact Nat.le_trans HB0.out.size hb.size
  have HL5 : Hid (Lns W5 A5 (markG g ar ac am).ls) := by unfold Hid; rw [← hW5]; exact hl.alloc _
  have HG5 := hide (HG0.out.later hb5)
  have HS5 := hide (HS0.out.below hb5)
  have HT5 := hide (Trn.of_below (G := G) (L := L) (M := M) (HB0.out.trans (hb5.mono HB0.out.size)))
  have HX15 := hide (HX1.out.later hb5)
  have HX25 := hide (HX2.out.later hb5)
  have HX35 := hide (HX3.out.later hb5)
  have HX05 := hide (HX0.out.later hb5)
  have HW5 := hide hW5
  have HQ10 := hide hQ
  clear hl hb hW5 hb5 hQ
  clear a0 a1 a2 a3 a4 a5 a6 a7 a8 a9 b0 b1 b2 b3 b4 b5 la p0 p1 p2 lp y0 y1 y2 ly
  obtain ⟨a0, a1, a2, a3, a4, a5, a6, a7, a8, a9, b0, b1, b2, b3, b4, b5, la⟩ := cells16 HX15.out
  obtain ⟨p0, p1, p2, lp⟩ := cells3 HX05.out
  obtain ⟨y0, y1, y2, ly⟩ := cells3 HX35.out
  go_wp2
  rw [HW5.out, HQ10.out]
  refine wp_region_chainL (fun w' => Whole w' Q10 32 [.slice A5 R cap5, .int .i64 ((markG g ar ac am).row : Int), .int .i64 ((markG g ar ac am).col : Int)] ∧ Whole w' (w.heap.size + 1) 43 [.int .i64 1, .int .i64 ar, .int .i64 ac, .int .i64 at_, .int .i32 xr, .int .i32 xm, .int .i32 xn, .int .u8 (xd : Int), .int .u8 (xf : Int), .int .u8 (xg : Int), .int .u8 (xb : Int), .int .i32 am, .int .u8 (pf : Int), .int .u8 (pg : Int), .int .u8 (pb : Int), .slice Al nl cl]) 13 [(2, 0), (2, 2), (2, 10), (2, 3), (2, 5), (2, 7), (0, 1), (0, 4), (0, 6), (1, 8), (1, 9), (2, 12), (2, 11), (3, 13), (3, 14)] (by kernel_rfl) (by kernel_rfl) (by kernel_rfl) (fun _ _ _ _ _ h => h) ?_ ?_
  · exact ⟨HN5.out.drewN 1, HX15.out.drewN 1⟩
  refine chainL_pure (v := ?_) (by simp only [List.getElem?_toArray, List.getElem?_cons_zero]; rfl) (by rfl) (fun w => ?_) ?_
  rotate_left
  · go_simp <;> with_reducible rfl
  simp only [Act.put, List.setIfInBounds_toArray, List.set_cons_zero, List.set_cons_succ]
  refine chainL_pure (v := ?_) (by simp only [List.getElem?_toArray, List.getElem?_cons_zero, List.getElem?_cons_succ]; rfl) (by rfl) (fun w => ?_) ?_
  rotate_left
  · go_simp <;> with_reducible rfl
  simp only [Act.put, List.setIfInBounds_toArray, List.set_cons_zero, List.set_cons_succ]
  refine chainL_pure (v := ?_) (by simp only [List.getElem?_toArray, List.getElem?_cons_zero, List.getElem?_cons_succ]; rfl) (by rfl) (fun w => ?_) ?_
  rotate_left
  · go_simp <;> with_reducible rfl
  simp only [Act.put, List.setIfInBounds_toArray, List.set_cons_zero, List.set_cons_succ]
  refine chainL_pure (v := ?_) (by simp only [List.getElem?_toArray, List.getElem?_cons_zero, List.getElem?_cons_succ]; rfl) (by rfl) (fun w => ?_) ?_
  rotate_left
  · go_simp <;> with_reducible rfl
  simp only [Act.put, List.setIfInBounds_toArray, List.set_cons_zero, List.set_cons_succ]
  refine chainL_pure (v := ?_) (by simp only [List.getElem?_toArray, List.getElem?_cons_zero, List.getElem?_cons_succ]; rfl) (by rfl) (fun w => ?_) ?_
  rotate_left
  · go_simp <;> with_reducible rfl
  simp only [Act.put, List.setIfInBounds_toArray, List.set_cons_zero, List.set_cons_succ]
  refine chainL_pure (v := ?_) (by simp only [List.getElem?_toArray, List.getElem?_cons_zero, List.getElem?_cons_succ]; rfl) (by rfl) (fun w => ?_) ?_
  rotate_left
  · go_simp <;> with_reducible rfl
  simp only [Act.put, List.setIfInBounds_toArray, List.set_cons_zero, List.set_cons_succ]
  refine chainL_take (v := ?_) (by simp only [List.getElem?_toArray, List.getElem?_cons_zero, List.getElem?_cons_succ]; rfl) (by rfl) (fun w hS => ?_) ?_
  rotate_left
  · obtain ⟨f0, f1, f2, -⟩ := cells3 hS.1; go_simp <;> with_reducible rfl
  simp only [Act.put, List.setIfInBounds_toArray, List.set_cons_zero, List.set_cons_succ]
  refine chainL_take (v := ?_) (by simp only [List.getElem?_toArray, List.getElem?_cons_zero, List.getElem?_cons_succ]; rfl) (by rfl) (fun w hS => ?_) ?_
  rotate_left
  · obtain ⟨f0, f1, f2, f3, f4, f5, f6, f7, f8, f9, g0, g1, g2, g3, g4, g5, -⟩ := cells16 hS.2; go_simp <;> with_reducible rfl
  simp only [Act.put, List.setIfInBounds_toArray, List.set_cons_zero, List.set_cons_succ]
  refine chainL_take (v := ?_) (by simp only [List.getElem?_toArray, List.getElem?_cons_zero, List.getElem?_cons_succ]; rfl) (by rfl) (fun w hS => ?_) ?_
  rotate_left
  · obtain ⟨f0, f1, f2, f3, f4, f5, f6, f7, f8, f9, g0, g1, g2, g3, g4, g5, -⟩ := cells16 hS.2; go_simp <;> with_reducible rfl
  simp only [Act.put, List.setIfInBounds_toArray, List.set_cons_zero, List.set_cons_succ]
  refine chainL_alone (by simp only [List.getElem?_toArray, List.getElem?_cons_zero, List.getElem?_cons_succ]; rfl) ?_
  intro K hK
  go_wp2
  refine hK.out _ _ (⟨HN5.out.drewN 1, HX15.out.drewN 1⟩) ?_
  clear hK K
  refine chainL_alone (by simp only [List.getElem?_toArray, List.getElem?_cons_zero, List.getElem?_cons_succ]; rfl) ?_
  intro K hK
  go_wp2_with fail
  refine (gmark_any (HG5.out.later ((Below.refl _ _).drewN 1)) hC2 HS5.out.drew ar ac am).mono ?_
  rintro e k1 ⟨rfl, hg, ht⟩
  rw [HKK.out]
  have HGz := hide hg
  have HLz := hide ((HL5.out.drewN 1).turn (HG5.out.later ((Below.refl _ _).drewN 1)) ht)
  have HTz := hide (HT5.out.trans (Trn.ofB ((Below.refl W5.heap.size W5).drewN 1) ht) (.inl rfl))
  have HNz := hide (ht.whole HN5.out.drew (by omega) (by omega) (by omega))
  have HX1z := hide (ht.whole HX15.out.drew (by omega) (by omega) (by omega))
  have HX2z := hide (ht.whole HX25.out.drew (by omega) (by omega) (by omega))
  clear hg ht
  clear a0 a1 a2 a3 a4 a5 a6 a7 a8 a9 b0 b1 b2 b3 b4 b5 la p0 p1 p2 lp y0 y1 y2 ly
  obtain ⟨z0, z1, z2, lz⟩ := cells3 HX2z.out
  have hzf := HX2z.out.frozen
  go_wp2
  refine hK.out _ _ (⟨HNz.out, HX1z.out⟩) ?_
  clear hK K
  refine chainL_pure (v := ?_) (by simp only [List.getElem?_toArray, List.getElem?_cons_zero, List.getElem?_cons_succ]; rfl) (by rfl) (fun w => ?_) ?_
  rotate_left
  · go_simp <;> with_reducible rfl
  simp only [Act.put, List.setIfInBounds_toArray, List.set_cons_zero, List.set_cons_succ]
  refine chainL_pure (v := ?_) (by simp only [List.getElem?_toArray, List.getElem?_cons_zero, List.getElem?_cons_succ]; rfl) (by rfl) (fun w => ?_) ?_
  rotate_left
  · go_simp <;> with_reducible rfl
  simp only [Act.put, List.setIfInBounds_toArray, List.set_cons_zero, List.set_cons_succ]
  refine chainL_late (by simp only [List.getElem?_toArray, List.getElem?_cons_zero, List.getElem?_cons_succ]; rfl) ?_
  intro K hK
  go_wp2
  refine hK.out _ _ ?_
  clear hK K
  refine chainL_late (by simp only [List.getElem?_toArray, List.getElem?_cons_zero, List.getElem?_cons_succ]; rfl) ?_
  intro K hK
  go_wp2
  refine hK.out _ _ ?_
  clear hK K
  refine chainL_nil ?_
  go_wp2
  refine retG3 Tryz.results10 rfl rfl rfl rfl (put3 HX2z.out _ _ _) ?_
  exact did_end HGz.out HLz.out HOK.out HTz.out (.inl rfl) (.inl rfl) (.inl rfl) HX2z.out (by omega) _ _ _
end Go.Proofs.YtiifeniijcnahaaGreatDoor
